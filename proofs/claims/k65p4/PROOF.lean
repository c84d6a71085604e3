import PyProof.Rows.All
import Wide.All
import OpenK.AllK
import Wide.FinOn
import Lean
import PyProof.EqAt
import PyProof.EqKinds
import PyProof.TupleCall
import PyProof.NeKinds
import PyProof.ListMulRoad
import PyProof.WalkInts
import PyProof.ListRange
import KE.KRevIter
import KE.KSortTup
import KE.KDictSum
import PyProof.Rows.SortWalk
import PyProof.ExcInit
import PyProof.InstStoreFacts
import OpenK.KMake
import OpenK.KCls
import PyProof.FString2
import PyProof.TupleOfSeq
import KE.KUnpack
import PySem.Challenge.RW_purseweb_k65_whole_alike_by_places
open Option renaming some → aA,bind_some → aV,isSome_iff_exists → bq,map_some → dM,getD_none → jy,none → k9,bind → kd,some → ax
open Bool renaming false → aB,true → aC,false_ne_true → bT,and_eq_true → bX,eq_iff_iff → i6
open PySem.W renaming Frag → aD,kia_one → cM,codeIn → cZ,kitOne → cj,fnOf → ck,keepIn → fV,cellsFrom_some → iP,nsIn → iT,instObj → iX,lookIn → ij,kitx_list → jb,kitx_dict → jc,plainGet → jw,findIn → kS
open List renaming range → aE,getD_eq_getElem?_getD → aG,getElem?_eq_getElem → aI,length_map → aO,size_toArray → aP,mem_range → aR,mem_cons_of_mem → aT,getElem?_eq_some_iff → aU,getElem?_map → aW,replicate → aX,mem_cons_self → aZ,mem_cons → a9,mem_append_right → af,mem_singleton → ag,getElem?_append_left → ah,all_eq_true → ao,map_congr_left → aq,getElem?_set → au,length_append → az,getElem?_append_right → bJ,length_take → bK,getElem?_range → bM,nodup_cons → bN,lookup_cons → bU,getElem?_eq_none → bY,take_of_length_le → b0,mem_append_left → b6,getElem?_replicate → ba,mem_append → bg,length_cons → bh,mem_map → bj,length_set → bt,length_range → bu,length_drop → cE,mem_of_getElem? → cI,ext_getElem? → cq,length_replicate → cy,not_mem_nil → dA,getElem_mem → dB,map_map → dD,nodup_nil → dF,append_nil → dI,replicate_succ → dO,getElem?_drop → dS,mem_iff_getElem → dc,getElem?_take_of_lt → di,map_cons → dj,length_pos_iff → dt,take_length → dy,any_eq_true → dz,map_append → eO,flatten_cons → eV,nodup_append → eZ,getElem_of_mem → fH,length_eq_zero_iff → fR,any_eq_false → fT,append_assoc → fX,drop_eq_nil_of_le → fY,take_succ_eq_append_getElem → fj,length_singleton → gD,filter_cons → gH,length → gL,mem_of_mem_take → gO,mem_filter → gQ,range_succ → gU,filterMap_cons → gV,drop_zero → gj,getElem?_zip_eq_some → gq,mem_of_find?_eq_some → gs,all_cons → hU,set_eq_of_length_le → hV,getElem?_set_self → iN,of_mem_zip → iZ,getElem?_set_ne → ic,take_zero → jA,map_take → jS,map_drop → jT,mem_filterMap → jW,foldl → jZ,zip_cons_cons → j3,find?_eq_none → j5,take_sublist → jf,all_map → jm,map_set → jo,map → jq,getElem_inj → jv,sum_append → kG,find?_some → kI,take_left' → kJ,take_succ → kX,range_add → kY,take_nil → kZ,drop_nil → k3,sum_cons → k4
open PySem.Heap renaming get?_push_of_some → aF,lt_size → aS,get?_push_size → a0,size_push → cA,SameBut → cT,get?_update_other → iR,get?_update_self → i9,ExtBut → kE
open PySem renaming Value → aH,Addr → aL,wpAny_bind → aM,Shared → aN,starEach → aY,wpAny_pure → aj,Str → ak,Expr → av,wpAny → bH,Program → bW,foldedSetIterable → b7,Heap → b9,Stmt → bb,Around → cH,World → cN,wpAny_field → cO,mainGlobals → cV,behindInMarks → cY,wpAny_mono → c9,wpAny_truthy_bool → cg,mem_of_lookup → cu,bootBuiltins → dC,binaryOp → dE,wpAny_callSpecial?_slot → dG,wpAny_newObj_type → dH,Obj → dN,Scope → dP,NameKind → dR,wpAny_seqItems → dU,wpAny_setField_rec → dW,wpAny_passesOwn → dZ,FuncData → du,compareOp → eT,Pos → el,backTo → eu,IsPair → fA,wpAny_call_entry → fE,wpAny_comprehension_free → fL,wpAny_ite_false → fN,call_meets → fO,sliceBounds → fQ,cLine → fU,wpAny_updateSeq_pair → gM,wpAny_execs_nil → gR,wpAny_loadPart' → gS,swapsWith → g7,cellsFrom → g8,assignEach → gg,wpAny_Call_Name_kw → gh,newFunctionEnv → gi,wpAny_binaryOp_repeat_ref → gn,wpAny_holding → gy,wpAny_onRaise → gz,bindArgs → iG,noFill_tuple_add → iH,codeAny → iO,typeIs_int → iS,letOwnedTupleGo → iY,IsZip → i5,wpAny_isTrue_Compare1 → i8,rawInt → ie,sizeLine_eq → ig,recursionLimit → ik,compEnvC → ip,PassesOwn → jJ,notedBy → jK,Builtin → jL,wpAny_standAt → jQ,seq_tuple_add → jR,builtinsNs → jU,wpAny_pyIter_tuple → jV,IsPart → jX,BindsTo → jd,codeAny_mono → je,concat_meets → jg,seqIndex_neg → jh,callerA → ji,Env → ju,pushCells → kA,seqIndex_of → kD,wpAny_letGo → kF,getItem → kN,isTrue → kP,wpAny_Name → kQ,CmpOp → kR,bindL → kT,bindC → kU,wpAny_rule → kW,Within → k5,pyNext → k7,Result → k8
open Nat renaming le_refl → aJ,le_trans → aQ,lt_of_lt_of_le → aa,lt_of_le_of_lt → ar,ne_of_lt → bA,le_mul_of_pos_right → bI,mul_le_mul_left → bV,one_le_two_pow → bz,mul_le_mul → cC,lt_irrefl → cD,mul_le_mul_right → cK,zero_le → cP,le_of_lt → cS,pow_lt_pow_right → cW,mul_comm → cp,min_eq_left → dJ,lt_of_le_of_ne → dX,pow_succ → dh,mul_assoc → dm,le_add_right → dw,mul_left_comm → eh,one_le_pow → fC,ne_of_gt → fD,le_of_dvd → fM,le_succ_of_le → fZ,le_mul_of_pos_left → gA,lt_succ_self → gF,not_lt → gG,pow_add → gP,pow_le_pow_left → gX,min_eq_right → iI,sub_zero → iV,le_succ → ir,log2_lt → jC,add_mul → jE,one_mul → jF,pow_le_pow_right → jG,add_le_add_right → jH,add_left_cancel → jO,add_sub_cancel → j6,mod_lt → j9,lt_succ_of_lt → jl,lt_trichotomy → jr,mod_eq_of_lt → kC,strongRecOn → kH,div_add_mod → kK
open Ne renaming symm → aw
open Option.some renaming inj → ay
open Int renaming mul_comm → bG,neg_mul → bR,mul_assoc → bZ,mul_zero → b5,zero_mul → bp,natAbs_mul → cB,mul_left_comm → cG,emod_lt_of_pos → cJ,mul_nonneg → cL,natAbs_dvd_natAbs → cQ,dvd_zero → cU,one_mul → cw,emod_nonneg → cx,fdiv_eq_ediv_of_nonneg → dQ,le_refl → df,mul_fdiv_cancel_left → dk,mul_sub → eD,mul_le_mul_of_nonneg_left → eH,lt_or_gt_of_ne → eJ,toNat_natCast → eY,le_of_mul_le_mul_left → fF,mul_add → fS,add_zero → f9,natAbs_neg → fu,dvd_refl → gC,mul_one → gJ,le_of_lt → gZ,zero_dvd → g6,not_lt → gk,eq_of_mul_eq_mul_left → gu,mul_neg_of_neg_of_pos → gv,mul_neg → gw,natAbs_sub_le → gx,lt_mul_ediv_self_add → iD,dvd_mul_of_dvd_right → iE,eq_ofNat_of_zero_le → iK,fmod_nonneg_of_pos → iW,add_mul → iu,fdiv → jB,mul_ediv_self_le → jD,natCast_nonneg → j7,fmod_lt_of_pos → j8,zero_add → jn,sub_zero → js,neg_fdiv_neg → kB
open PySem.NameKind renaming free → bQ,cell → br
open Classical renaming byContradiction → bc
open PyProof.Rows renaming callWith_type1 → cX,slot_tuple_getitem → dq,envOfC → gE,AllBare → iM,subscriptTail_builtinR → iQ,Constant_none → jP,floordiv_int → ja
open True renaming intro → cz
open PySem.Builtin.Slice renaming slicePlaces → dY,sliceAdjust → gm
open PySem.F renaming plainAttrs_list → eA,args_tuple_add_2 → fJ,entry_tuple_add → fP,slot_tuple_add → fW,slot_list_insert → hW,type_list_insert → iA,slot_list_append → iB,type_list_append → iC
open False renaming elim → eI
open ForInStep renaming yield → eK
open PySem.PassesOwn renaming never → eM
open Array renaming length_toList → fG,toList_append → jM,toList → k6
open PySem.Builtin.Int renaming intBits → fI
open PySem.Builtin.List renaming listTooLong → fK
open PySem.Challenge renaming pw_purseweb_k65_whole_alike_by_places → gW,rw_purseweb_k65_whole_alike_by_places → gY
open PySem.Calls renaming Name_function_global → g9
open PySem.Builtin.SmallTypes renaming nextOf → gp
open PySem.W.WData renaming weightAll → iJ,int → jz
open PySem.SeqAt renaming EqAt → iU
open PySem.SeqAt.EqAt renaming same → i7,of_refs → j4
open Or renaming inr → il,inl → j1
open PySem.Value renaming int → jI,ref → jt,type → kO
open PySem.Heap.SameBut renaming update → jN
open PySem.Obj renaming mapSeq → jY,data_mapFields → j2
open Eq renaming trans → jj
open PyProof.Rows.IsTup renaming new → jx
open Sum renaming inl → kL,inr → kM
open PySem.Shared renaming heap → kc
open PySem.PylongRoom renaming of → ke
theorem kr.{u}{c:Prop}{h:Decidable c}(a:c){b:Sort u}{t e:b}:ite c t e=t:=if_pos a
theorem ku.{u}{c:Prop}{h:Decidable c}(a:Not c){b:Sort u}{t e:b}:ite c t e=e:=if_neg a
noncomputable section
set_option Elab.async false
set_option linter.all false
set_option maxRecDepth 100000
namespace L2
open PySem PySem.Spec PyProof.Rows
abbrev Pp:=Sum Int ak
noncomputable def D9:Pp->aH->Bool
 | .inl k,v=>aH.isInt k v
 | .inr x,v=>aH.isStrOf x v
noncomputable def Zbk(w:cN):Pp->Int
 | .inl k=>hashInt k
 | .inr x=>hashStr w x
theorem Yo:∀{k:Pp}{v:aH},D9 k v=aC->(∃i t,k=kL i/\v=jI i t)\/(∃x t,k=kM x/\v=aH.str x t)
 | .inl i,v,h=>by obtain⟨t,e⟩:=aH.isInt_shape h;exact .inl ⟨i,t,rfl,e⟩
 | .inr x,v,h=>by obtain⟨t,e⟩:=aH.isStrOf_shape h;exact .inr ⟨x,t,rfl,e⟩
theorem CJ(a b:Int):decide ((kL a:Pp)=kL b)=(a==b):=by grind
theorem CK(a b:ak):decide ((kM a:Pp)=kM b)=decide (a=b):=by simp
theorem CM(a:Int)(b:ak):decide ((kL a:Pp)=kM b)=aB:=decide_eq_false (λq=>nomatch q)
theorem CN(a:ak)(b:Int):decide ((kM a:Pp)=kL b)=aB:=decide_eq_false (λq=>nomatch q)
noncomputable def K4(prog:bW)(w:cN):PySem.KeyKind prog w Pp where
 is:=D9
 hash:=Zbk w
 inj:=λv a b ha hb=>by
  rcases Yo ha with⟨i,t,rfl,rfl⟩ | ⟨x,t,rfl,rfl⟩
  ·rcases Yo hb with⟨j,u,rfl,e⟩ | ⟨y,u,rfl,e⟩
   ·injection e with e1 _;rw[e1]
   ·exact nomatch e
  ·rcases Yo hb with⟨j,u,rfl,e⟩ | ⟨y,u,rfl,e⟩
   ·exact nomatch e
   ·injection e with e1 _;rw[e1]
 byValue:=λk v h=>by rcases Yo h with⟨i,t,rfl,rfl⟩ | ⟨x,t,rfl,rfl⟩<;>rfl
 pyHash:=λhv h=>by
  rcases Yo hv with⟨i,t,rfl,rfl⟩ | ⟨x,t,rfl,rfl⟩
  ·exact wpAny_pyHash_int h
  ·exact wpAny_pyHash_str h
 eqBool:=λhu hv h=>by
  rcases Yo hu with⟨i,t,rfl,rfl⟩ | ⟨x,t,rfl,rfl⟩
  ·rcases Yo hv with⟨j,u,rfl,rfl⟩ | ⟨y,u,rfl,rfl⟩
   ·rw[CJ] at h;exact wpAny_eqBool_int h
   ·rw[CM] at h;exact iU.int_str i t y u _ _ _ _ h
  ·rcases Yo hv with⟨j,u,rfl,rfl⟩ | ⟨y,u,rfl,rfl⟩
   ·rw[CN] at h;exact iU.str_int x t j u _ _ _ _ h
   ·rw[CK] at h;exact wpAny_eqBool_str h
 «strs»:=λk x t v h=>by
  rcases Yo h with⟨i,u,rfl,e⟩ | ⟨y,u,rfl,e⟩
  ·exact nomatch e
  ·injection e with e1 _;subst e1;cases v<;>rfl
inductive V where
 | non | bl (b:Bool) | int (i:Int) | str (x:ak) | byt (b:Array UInt8) | flt (b:UInt64) | ref (a:aL) | ty (n:String)
 deriving DecidableEq
noncomputable def RelV:V->aH->Prop
 | .non,u=>u=aH.none
 | .bl b,u=>u=aH.bool b
 | .int i,u=>∃t,u=jI i t
 | .str x,u=>∃t,u=aH.str x t
 | .byt b,u=>∃t,u=aH.bytes b t
 | .flt b,u=>∃t,u=aH.float b t
 | .ref a,u=>u=jt a
 | .ty n,u=>u=kO n
abbrev Vals:List V->List aH->Prop:=Paired RelV
theorem Vals.length{a:List V}{b:List aH}(r:Vals a b):a.length=b.length:=Paired.length r
theorem Vals.get:∀{xs:List V}{us:List aH}{i:Nat}{x:V},Vals xs us->xs[i]?=aA x->∃u,us[i]?=aA u/\RelV x u
 | _,_,_,_,.nil,e=>by simp at e
 | _,_,0,_,.cons r _,e=>by simp at e;subst e;exact⟨_,rfl,r⟩
 | _,_,i+1,x,.cons _ t,e=>by obtain⟨u,a,b⟩:=Vals.get (i:=i) (x:=x) t (by simpa using e);exact⟨u,by simpa using a,b⟩
theorem Vals.set{x:V}{u:aH}(r:RelV x u):∀{xs:List V}{us:List aH}(i:Nat),Vals xs us->Vals (xs.set i x) (us.set i u)
 | _,_,_,.nil=>.nil
 | _,_,0,.cons _ t=>.cons r t
 | _,_,i+1,.cons q t=>.cons q (Vals.set r i t)
theorem Vals.append:∀{xs ys:List V}{us ws:List aH},Vals xs us->Vals ys ws->Vals (xs++ys) (us++ws)
 | _,_,_,_,.nil,s=>s
 | _,_,_,_,.cons r t,s=>.cons r (Vals.append t s)
theorem Vals.take:∀{xs:List V}{us:List aH}(n:Nat),Vals xs us->Vals (xs.take n) (us.take n)
 | _,_,0,_=>.nil
 | _,_,_+1,.nil=>.nil
 | _,_,n+1,.cons r t=>.cons r (Vals.take n t)
theorem Vals.drop:∀{xs:List V}{us:List aH}(n:Nat),Vals xs us->Vals (xs.drop n) (us.drop n)
 | _,_,0,r=>r
 | _,_,_+1,.nil=>.nil
 | _,_,n+1,.cons _ t=>Vals.drop n t
noncomputable def CO:Option V->Option aH->Prop
 | some v,aA u=>RelV v u
 | none,none=>True
 | _,_=>False
noncomputable def KV{κ:Type}:List (κ×V)->List (κ×aH)->Prop:=Paired λ(p:κ×V) (q:κ×aH)=>p.1=q.1/\RelV p.2 q.2
noncomputable def kV:Pp->V
 | .inl i=>.int i
 | .inr x=>.str x
inductive HO where
 /-- a list -/
 | lst (xs:List V)
 /-- a tuple (never changes) -/
 | tup (xs:List V)
 /-- a dict whose keys are ints and texts;one whose keys are tuples of ints and texts (the empty one is both) -/
 | dK (kg:List (Pp×V)) | dT (kg:List (List Pp×V))
 /-- a set of ints: kq members,kq size -/
 | set (S:Int->Bool) (n:Nat)
 /-- an instance of the class at C,kq dict at dx,kq attributes -/
 | ins (C dx:aL) (fs:List (ak×V))
 /-- the dict of the instance at x -/
 | own (x:aL)
 /-- the dict of an exception -/
 | xd (fs:List (ak×V))
 /-- a bound method,f of x -/
 | met (f x:aL)
 /-- a range object lo,lo+1,.. below hi -/
 | rng (lo hi:Int)
 /-- a thing that is known to the object (the script;a dict while a loop walks it): read,never written while it is so -/
 | frz (o:dN) (u:HO)
 /-- a code object's table -/
 | tbl (ps:Array aH)
 /-- any other thing,by what is aC of kq one object (a def of one's own: SetO a S n:=HO.ext λh=>..) -/
 | ext (φ:b9->Prop)
abbrev Hp:=aL->Option HO
noncomputable def upd(H:Hp)(a:aL)(o:HO):Hp:=λb=>if b=a then aA o else H b
theorem Zt{H:Hp}{a:aL}{o:HO}:upd H a o a=aA o:=by unfold upd;rw[kr rfl]
theorem upd_ne{H:Hp}{a b:aL}{o:HO}(h:b≠a):upd H a o b=H b:=by unfold upd;rw[ku h]
theorem Zu{H:Hp}{a b:aL}{o:HO}(h:H a=aA o)(c:H b=none):a≠b:=by grind
noncomputable def J0(x:ak):Bool:=x=="tree_of" || x=="still_by" || x=="made_of"
noncomputable def Zbl(x:ak):ak:=x++".<locals>."++"<lambda>"
noncomputable def HB(o:dN)(q:ak):Prop:=∃vs t,o.data = .fields vs/\vs[1]?=aA (.str q t)
noncomputable def Ax(q:ak)(H:Hp)(ps:List aH):Prop:=TriplesOk ps/\∀pos v,codeAmong pos ps=aA v->∃c o,v = .ref c/\H c=aA (.frz o (.own 0))/\HB o q
theorem R9{h:b9}{T:aH}{a:Array aH}{n:Nat}{o:dN}(e:(h.push { cls:=T,data:=.seq a n }).get? h.objs.size=aA o):o.dict=none:=by rw[a0 _ rfl] at e;cases e;rfl
section
variable (P:bW) (w:cN)
noncomputable def ObjOk(H:Hp)(h:b9)(a:aL):HO->Prop
 | .lst xs=>xs.length<=sizeLine/\∃(kq:List aH) (n:Nat),Vals xs kq/\h.get? a=aA { cls:=.type "list",data:=.seq kq.toArray n }
 | .tup xs=>(xs.length<=sizeLine/\∀o,h.get? a=aA o->o.dict=none)/\∃kq:List aH,Vals xs kq/\IsTup h a kq.toArray
 | .dK kg=>kg.length<=sizeLine/\(a==sysModules)=aB/\∃vs,KV kg vs/\h.DictOf (K4 P w) a vs
 | .dT kg=>kg.length<=sizeLine/\(a==sysModules)=aB/\∃xs:List (List Pp×aL×aH),
   Paired (λ(p:List Pp×V) (q:List Pp×aL×aH)=>p.1=q.1/\H q.2.1=aA (.tup (p.1.map kV))/\RelV p.2 q.2.2) kg xs/\
   ∃o es ep,h.get? a=aA o/\o.ExactDict/\o.data = .dict es ep/\es.toList=xs.map (entryOfKey (tupleKind (K4 P w)))/\(xs.map (·.1)).Nodup
 | .set S n=>h.SetOf (intKind P w) a S n
 | .ins C dx fs=>H dx=aA (.own a)/\fs.length<=1000/\dx≠a/\h.get? a=aA (iX C dx)/\
   ∃mA,h.Ns1 dx mA/\(∀f,CO (fs.lookup f) (mA f))/\k5 mA (fs.map (·.1))
 | .own _=>∃o,h.get? a=aA o
 | .xd fs=>∃mA,h.Ns1 a mA/\∀f,CO (fs.lookup f) (mA f)
 | .rng lo hi=>∃t u v,h.get? a=aA { cls:=.type "range",data:=.fields #[.int lo t,.int hi u,.int 1 v] }
 | .frz o u=>h.get? a=aA o/\ObjOk H h a u
 | .tbl ps=>∃(q:ak) (t:Tok) (ps':Array aH),ps[0]?=aA (.str q t)/\h.get? a=aA { cls:=.none,data:=.fields ps' }/\Ax q H ps'.toList
 | .met f x=>h.get? a=aA (PySem.W.methodObj (.ref f) (.ref x))
 | .ext φ=>φ h/\(∃o,h.get? a=aA o)/\∀h1 h2:b9,φ h1->(∀o,h1.get? a=aA o->h2.get? a=aA o)->φ h2
noncomputable def HOk(H:Hp)(h:b9):Prop:=∀a o,H a=aA o->ObjOk P w H h a o
end
section
variable {P:bW} {w:cN} {H H':Hp} {h h':b9} {a:aL} {o:HO}
theorem ObjOk.lt(x:ObjOk P w H h a o):a<h.objs.size:=by
 cases o with
 | lst xs=>obtain⟨_,_,_,_,e⟩:=x;exact aS e
 | tup xs=>obtain⟨_,_,_,p⟩:=x;exact p.lt
 | dK kg=>obtain⟨_,_,_,_,o,_,_,e,_⟩:=x;exact aS e
 | dT kg=>obtain⟨_,_,_,_,o,_,_,e,_⟩:=x;exact aS e
 | set S n=>obtain⟨o,_,_,_,e,_⟩:=x;exact aS e
 | ins C dx fs=>obtain⟨_,_,_,e,_⟩:=x;exact aS e
 | own y=>obtain⟨_,e⟩:=x;exact aS e
 | xd fs=>obtain⟨_,⟨_,_,_,e,_⟩,_⟩:=x;exact aS e
 | rng lo hi=>obtain⟨_,_,_,e⟩:=x;exact aS e
 | frz ob u=>obtain⟨e,_⟩:=x;exact aS e
 | tbl ps=>obtain⟨_,_,_,_,e,_⟩:=x;exact aS e
 | met f y=>exact aS (show h.get? a=aA _ from x)
 | ext φ=>obtain⟨_,⟨_,e⟩,_⟩:=x;exact aS e
theorem Paired.mapP{d c:Type}{F G:d->c->Prop}:∀{l₁:List d}{l₂:List c},Paired F l₁ l₂->(∀a b,F a b->G a b)->Paired G l₁ l₂
 | _,_,.nil,_=>.nil
 | _,_,.cons r t,f=>.cons (f _ _ r) (Paired.mapP t f)
theorem ObjOk.stay(x:ObjOk P w H h a o)(k:∀b u,(b=a\/H b=aA (.own a))->h.get? b=aA u->h'.get? b=aA u)
  (L:∀b,H b=aA (.own a)->H' b=aA (.own a)) (D:∀b j,H b=aA (.tup j)->H' b=aA (.tup j)) (N:∀b u,H b=aA (.frz u (.own 0))->H' b=aA (.frz u (.own 0))):ObjOk P w H' h' a o:=by
 induction o with
 | lst j=>obtain⟨z,m,n,r,e⟩:=x;exact⟨z,m,n,r,k _ _ (.inl rfl) e⟩
 | tup j=>obtain⟨z,m,r,g,e,c⟩:=x;exact⟨⟨z.1,λo q=>by rw[k _ _ (.inl rfl) e] at q;cases q;exact z.2 _ e⟩,m,r,g,k _ _ (.inl rfl) e,c⟩
 | dK kg=>obtain⟨z,y,vs,r,g,i,ep,e,c⟩:=x;exact⟨z,y,vs,r,g,i,ep,k _ _ (.inl rfl) e,c⟩
 | dT kg=>
  obtain⟨z,y,j,r,g,i,ep,e,c⟩:=x;exact⟨z,y,j,Paired.mapP r λp q z=>⟨z.1,D _ _ z.2.1,z.2.2⟩,g,i,ep,k _ _ (.inl rfl) e,c⟩
 | set S n=>obtain⟨g,i,ep,t,e,c⟩:=x;exact⟨g,i,ep,t,k _ _ (.inl rfl) e,c⟩
 | ins C dx fs=>
  obtain⟨d,z,ne,e,l,⟨B,i,ep,A,c⟩,r⟩:=x;exact⟨L _ d,z,ne,k _ _ (.inl rfl) e,l,⟨B,i,ep,k _ _ (.inr d) A,c⟩,r⟩
 | own y=>obtain⟨g,e⟩:=x;exact⟨g,k _ _ (.inl rfl) e⟩
 | xd fs=>obtain⟨l,⟨B,i,ep,e,c⟩,r⟩:=x;exact⟨l,⟨B,i,ep,k _ _ (.inl rfl) e,c⟩,r⟩
 | rng lo hi=>obtain⟨t,u,v,e⟩:=x;exact⟨t,u,v,k _ _ (.inl rfl) e⟩
 | frz g u ih=>obtain⟨e,q⟩:=x;exact⟨k _ _ (.inl rfl) e,ih q⟩
 | tbl ps=>
  obtain⟨q,t,s,M,e,G,I⟩:=x;refine⟨q,t,s,M,k a _ (.inl rfl) e,G,λpos v F=>?_⟩;obtain⟨c,o,E,A,J⟩:=I pos v F;exact⟨c,o,E,N c o A,J⟩
 | met f y=>
  have e:=x;exact k a _ (.inl rfl) e
 | ext φ=>obtain⟨p,⟨o,e⟩,st⟩:=x;exact⟨st _ _ p λo q=>k _ _ (.inl rfl) q,⟨o,k _ _ (.inl rfl) e⟩,st⟩
theorem HOk.lt(x:HOk P w H h)(e:H a=aA o):a<h.objs.size:=(x a o e).lt
theorem HOk.fresh(x:HOk P w H h)(e:h.objs.size<=a):H a=none:=by
 cases q:H a with
 | none=>rfl
 | some u=>exact absurd (aa (x.lt q) e) (cD _)
theorem HOk.kept(x:HOk P w H h)(k:∀b u,h.get? b=aA u->h'.get? b=aA u):HOk P w H h':=λa o e=>
 (x a o e).stay (λb u _ q=>k b u q) (λ_ q=>q) (λ_ _ q=>q) λ_ _ q=>q
theorem HOk.laid(x:HOk P w H h)(k:∀b u,h.get? b=aA u->h'.get? b=aA u)(g:h.objs.size<=a)(new:ObjOk P w (upd H a o) h' a o):HOk P w (upd H a o) h':=λb u e=>by
 have d:=x.fresh g;by_cases f:b=a
 ·subst f;rw[Zt] at e;cases e;exact new
 ·rw[upd_ne f] at e;exact(x b u e).stay (λc v _ q=>k c v q) (λc q=>by rw[upd_ne (Zu q d)];exact q) (λc i q=>by rw[upd_ne (Zu q d)];exact q) λc u q=>by rw[upd_ne (Zu q d)];exact q
end
noncomputable def Rd(H:Hp)(a:aL)(u:HO):Prop:=H a=aA u\/∃o,H a=aA (.frz o u)
theorem Rd.ok{P:bW}{w:cN}{H:Hp}{h:b9}{a:aL}{u:HO}(r:Rd H a u)(x:HOk P w H h):ObjOk P w H h a u:=by
 rcases r with r | ⟨o,r⟩
 ·exact x a u r
 ·obtain⟨_,q⟩:=x a _ r;exact q
noncomputable def UG:Option HO->Prop
 | some (.lst _)=>True
 | some (.dK _)=>True
 | some (.dT _)=>True
 | some (.set _ _)=>True
 | some (.ins _ _ _)=>True
 | some (.ext _)=>True
 | _=>False
section
variable {P:bW} {w:cN} {H:Hp} {h h':b9} {x e:aL} {o':HO}
theorem HOk.write(ok:HOk P w H h)(f:UG (H x))(o:e=x\/H e=aA (.own x))(k:∀b u,b≠e->h.get? b=aA u->h'.get? b=aA u)(m:∃u,h'.get? e=aA u)
  (new:ObjOk P w (upd H x o') h' x o'):HOk P w (upd H x o') h':=λb u q=>by
 have d:∀c y,H c=aA (.own y)->c≠x:=λc y r z=>by subst z;rw[r] at f;exact f
 have g:∀c j,H c=aA (.tup j)->c≠x:=λc j r z=>by subst z;rw[r] at f;exact f
 by_cases l:b=x
 ·subst l;rw[Zt] at q;cases q;exact new
 ·rw[upd_ne l] at q;by_cases a:b=e
  ·have n:H b=aA (.own x):=by
    rcases o with z | z
    ·exact absurd (a.trans z) l
    ·rw[a];exact z
   rw[q] at n;cases n;obtain⟨v,p⟩:=m;exact⟨v,by rw[a];exact p⟩
  ·refine(ok b u q).stay (λc v i r=>k c v ?_ r) (λc r=>by rw[upd_ne (d c b r)];exact r) (λc j r=>by rw[upd_ne (g c j r)];exact r) λc v r=>by rw[upd_ne (λz=>by subst z;rw[r] at f;exact f)];exact r
   rcases i with rfl | i
   ·exact a
   ·rintro rfl;rcases o with z | z
    ·exact d c b i z
    ·rw[i] at z;cases z;exact l rfl
end
structure Un(fs ex:List aL)(H H':Hp)(h h':b9):Prop where
 keep:∀b o,h.get? b=aA o->H b=none->b∉fs->b∉ex->h'.get? b=aA o
 slot:∀b o,h.get? b=aA o->H b=none->b∈fs->b∉ex->∃sl,h'.get? b=aA { o with slots:=sl }
 free:∀b o,h.get? b=aA o->H b=none->b∉ex->H' b=none
 there:∀b o,h.get? b=aA o->b∉ex->∃o',h'.get? b=aA o'
 tups:∀b xs,H b=aA (.tup xs)->H' b=aA (.tup xs)
 frzs:∀b o u,H b=aA (.frz o u)->H' b=aA (.frz o u)
 tbls:∀b ps,H b=aA (.tbl ps)->∃more,H' b=aA (.tbl (ps++more))
section
variable {fs fs' ex ex':List aL} {H H1 H2:Hp} {h h1 h2 h':b9} {a x e:aL} {o:HO}
theorem Un.any(u:Un fs ex H H1 h h1){b:aL}{a:dN}(q:h.get? b=aA a)(n:H b=none)(c:b∉ex):∃sl,h1.get? b=aA { a with slots:=sl }:=by
 by_cases d:b∈fs
 ·exact u.slot b a q n d c
 ·exact⟨a.slots,u.keep b a q n d c⟩
theorem Un.kept(k:∀b u,h.get? b=aA u->h'.get? b=aA u):Un fs ex H H h h':=
 ⟨λb a q _ _ _=>k b a q,λb a q _ _ _=>⟨a.slots,k b a q⟩,λ_ _ _ n _=>n,λb a q _=>⟨a,k b a q⟩,λ_ _ q=>q,λ_ _ _ q=>q,λ_ c q=>⟨#[],by rw[q];simp⟩⟩
theorem Un.refl:Un fs ex H H h h:=Un.kept λ_ _ q=>q
theorem Un.laid(k:∀b u,h.get? b=aA u->h'.get? b=aA u)(e:h.objs.size<=a)(c:H a=none):Un fs ex H (upd H a o) h h' where
 keep:=λb u q _ _ _=>k b u q
 slot:=λb u q _ _ _=>⟨u.slots,k b u q⟩
 free:=λb u q n _=>by rw[upd_ne (bA (aa (aS q) e))];exact n
 there:=λb u q _=>⟨u,k b u q⟩
 tups:=λb d q=>by rw[upd_ne (Zu q c)];exact q
 frzs:=λb u d q=>by rw[upd_ne (Zu q c)];exact q
 tbls:=λb f q=>⟨#[],by rw[upd_ne (Zu q c),q];simp⟩
theorem Un.write(c:UG (H x))(j:e=x\/H e=aA (.own x))(k:∀b u,b≠e->h.get? b=aA u->h'.get? b=aA u)(f:∃u,h'.get? e=aA u):Un fs ex H (upd H x o) h h':=by
 have g:∀b,H b=none->b≠x:=λb n z=>by subst z;rw[n] at c;exact c
 have i:∀b,H b=none->b≠e:=λb n z=>by
  subst z;rcases j with r | r
  ·exact g b n r
  ·rw[n] at r;cases r
 have d:∀b u,H b=aA u->¬UG (aA u)->b≠x:=λb u q m z=>by subst z;rw[q] at c;exact m c
 refine⟨λb u q n _ _=>k b u (i b n) q,λb u q n _ _=>⟨u.slots,k b u (i b n) q⟩,λb u q n _=>by rw[upd_ne (g b n)];exact n,λb u q _=>?_,
  λb l q=>by rw[upd_ne (d b _ q λz=>z)];exact q,λb u l q=>by rw[upd_ne (d b _ q λz=>z)];exact q,λb p q=>⟨#[],by rw[upd_ne (d b _ q λz=>z),q];simp⟩⟩
 by_cases a:b=e
 ·subst a;exact f
 ·exact⟨u,k b u a q⟩
end
noncomputable def TabsH(K:aD)(mg:ak->Option aH)(base:b9)(H:Hp):Prop:=∀(q:ak)(c:aL),J0 q=aC->cZ K (.ref c) q=aC->
 ∃Pt ps t,PySem.W.CodeHd base c Pt/\H Pt=aA (.tbl ps)/\ps[0]?=aA (.str (Zbl q) t)/\base.BuiltinsAt mg Pt
theorem TabsH.un{K:aD}{f:ak->Option aH}{base:b9}{fs p:List aL}{H e:Hp}{h l:b9}(t:TabsH K f base H)(u:Un fs p H e h l):TabsH K f base e:=λq c o r=>by
 obtain⟨i,a,tk,j,m,b,s⟩:=t q c o r;obtain⟨g,k⟩:=u.tbls i a m
 have d:0<a.size:=by
  cases z:a.size with
  | zero=>rw[Array.getElem?_eq_none (by omega)] at b;cases b
  | succ n=>omega
 exact⟨i,_,tk,j,k,by rw[Array.getElem?_append_left d];exact b,s⟩
noncomputable def trk(h:b9)(H:Hp):List aL:=(aE h.objs.size).filter λa=>(H a).isSome
noncomputable def OF(h:b9)(H:Hp):b9:=PySem.W.hideAll h (trk h H)
theorem J1(h:b9)(H:Hp):(OF h H).objs.size=h.objs.size:=PySem.W.hideAll_size _ _
theorem HC{h:b9}{H:Hp}{b:aL}{o:dN}(e:h.get? b=aA o)(n:H b=none):(OF h H).get? b=aA o:=
 PySem.W.hideAll_get _ e λa=>by have q:=(gQ.mp a).2;rw[n] at q;simp at q
theorem Ec{h:b9}{H:Hp}{b:aL}{o:dN}(e:(OF h H).get? b=aA o):h.get? b=aA o/\H b=none:=by
 have a:=PySem.W.of_hideAll (trk h H) e;refine⟨a,?_⟩
 cases q:H b with
 | none=>rfl
 | some x=>
  have c:b∈trk h H:=gQ.mpr ⟨aR.mpr (aS a),by simp[q]⟩;have z:(OF h H).get? b=none:=PySem.W.hideAll_none (trk h H) c;rw[z] at e;cases e
noncomputable def Ed(g h:b9)(L:aL):List (aL×dN):=(aE h.objs.size).filterMap λa=>if a=L\/(g.get? a).isSome=aC then none else(h.get? a).map λo=>(a,o)
noncomputable def Ys(g h:b9)(L d:aL):List (aL×dN):=(Ed g h L).filter λp=>decide (p.1≠d)
structure Mod(K:aD)(mg:ak->Option aH)(base:b9):Prop where
 kin:K.In base
 glob:base.Ns cV mg
 blt:∃mb,base.Ns jU mb/\∀x:ak,x≠"__name__"->mb x=dC x
 nolimit:base.NoLimit
 seer:base.NoSeer
structure Cx where
 prog:bW
 w:cN
 K:aD
 mg:ak->Option aH
 base:b9
 A:cH
 N:List ak
 s₀:aN
 H₀:Hp
 env:ju
 outer:List ju
 stack:List ju
 ex:List aL
 fn:ak->Bool
 calm:Bool
 pn:List (aL×dN)
 xe:aH->aN->Prop
noncomputable def Lh(l:List ju):List aL:=l.filterMap (·.frame)
abbrev Cx.fs(X:Cx):List aL:=Lh X.outer
noncomputable def Vis(sc:dP)(x:ak):Prop:=sc.names.lookup x=aA .local\/sc.names.lookup x=aA .cell\/sc.names.lookup x=aA .free
noncomputable def Ee(sc:dP)(x:ak):Prop:=sc.names.lookup x=aA .local\/sc.names.lookup x=aA .cell
noncomputable def Zbm(env:ju)(h:b9)(m:ak->Option aH)(x:ak)(u:aH):Prop:=
 (env.kindOf x=aA .local/\m x=aA u)\/((env.kindOf x=aA .cell\/env.kindOf x=aA .free)/\∃c,env.cells.lookup x=aA c/\h.IsCell c (aA u))
structure Cx.Ok(X:Cx):Prop where
 mod:Mod X.K X.mg X.base
 kind:X.env.scope.kind = .function
 glob:X.env.globals=cV
 blt:X.env.builtins=jU
 above:X.s₀.heap.objs.size<=X.env.locals
 inj:∀x y c,X.env.cells.lookup x=aA c->X.env.cells.lookup y=aA c->x=y
 has:∀x,(X.env.kindOf x=aA .cell\/X.env.kindOf x=aA .free)->∃c,X.env.cells.lookup x=aA c
 cab:∀x c,X.fn x=aC->X.env.cells.lookup x=aA c->X.s₀.heap.objs.size<=c
 hd:X.calm=aC->X.A.handled=none
 frames:X.A.frames=aA X.stack
 stk:X.stack=X.outer\/(X.stack=X.env::X.outer/\X.env.frame=aA X.env.locals)
 exf:∀b∈X.ex,b≠X.env.locals/\∀x c,X.env.cells.lookup x=aA c->c≠b
 bs:∀b o,X.base.get? b=aA o->X.s₀.heap.get? b=aA o/\X.H₀ b=none
 bsz:X.base.objs.size<=X.s₀.heap.objs.size
 noex:∀b o,X.base.get? b=aA o->b∉X.ex
 exfs:∀b∈X.ex,b∉X.fs
 funs:X.s₀.heap.FunFrames X.base X.outer
 frf:∀b∈X.fs,X.H₀ b=none
 tab:TabsH X.K X.mg X.base X.H₀
 cod:∀q:ak,X.env.func≠none->X.env.qual=q++".<locals>."->J0 q=aC->cZ X.K X.env.code q=aC
structure Inv(X:Cx)(kf:List (aL×dN))(σ:List (Option V))(H:Hp)(s:aN):Prop where
 ok:X.Ok
 os:s.os=X.s₀.os
 bare:iM s.gens
 base:Un X.fs X.ex X.H₀ H X.s₀.heap s.heap
 loc:∃m,s.heap.Ns X.env.locals m/\∀(i:Nat)(x:ak)(v:V),X.N[i]?=aA x->σ[i]?=aA (aA v)->Vis X.env.scope x->∃u,RelV v u/\Zbm X.env s.heap m x u
 cell:∀x c,X.env.cells.lookup x=aA c->∃v,s.heap.IsCell c v
 free:H X.env.locals=none
 freeC:∀x c,X.env.cells.lookup x=aA c->H c=none
 pin:∀p∈X.pn++kf,s.heap.get? p.1=aA p.2/\H p.1=none/\p.1≠X.env.locals/\p.1∉X.fs/\∀v,p.2.data≠.cell v
 hok:HOk X.prog X.w H s.heap
 len:σ.length=X.N.length
section
variable {X:Cx} {kf:List (aL×dN)} {σ:List (Option V)} {H H':Hp} {s:aN} {h':b9}
theorem Cx.Ok.nofr(ok:X.Ok){b:aL}{o:dN}(e:X.base.get? b=aA o):b∉X.fs:=λa=>by have:=(ok.funs.mem a).1;rw[e] at this;cases this
theorem Inv.bs(I:Inv X kf σ H s):∀b o,X.base.get? b=aA o->s.heap.get? b=aA o/\H b=none:=λb o e=>
 ⟨I.base.keep b o (I.ok.bs b o e).1 (I.ok.bs b o e).2 (I.ok.nofr e) (I.ok.noex b o e),I.base.free b o (I.ok.bs b o e).1 (I.ok.bs b o e).2 (I.ok.noex b o e)⟩
theorem Inv.bk(I:Inv X kf σ H s):∀b o,X.base.get? b=aA o->s.heap.get? b=aA o:=λb o e=>(I.bs b o e).1
theorem Inv.mod(I:Inv X kf σ H s):Mod X.K X.mg X.base:=I.ok.mod
theorem Inv.kIn(I:Inv X kf σ H s):X.K.In s.heap:=I.ok.mod.kin.keeps I.bk
theorem Inv.nolimit(I:Inv X kf σ H s):s.heap.NoLimit:=I.ok.mod.nolimit.keeps I.bk
theorem Inv.fr(I:Inv X kf σ H s):∃m,Fr X.base X.env.locals s.heap m:=
 let⟨m,a,_⟩:=I.loc
 ⟨m,a,I.bk,aQ I.ok.bsz I.ok.above⟩
theorem Inv.lt(I:Inv X kf σ H s):X.env.locals<s.heap.objs.size:=let⟨_,a,_⟩:=I.loc;a.lt
theorem Inv.sz(I:Inv X kf σ H s):X.s₀.heap.objs.size<=s.heap.objs.size:=aQ I.ok.above (cS I.lt)
theorem Inv.nofs(I:Inv X kf σ H s){a:aL}(h:s.heap.objs.size<=a):a∉X.fs:=λb=>by obtain⟨_,o,c,_⟩:=I.ok.funs.mem b;exact absurd (aa (aS c) (aQ I.sz h)) (cD _)
theorem Inv.cne(I:Inv X kf σ H s):∀x c,X.env.cells.lookup x=aA c->c≠X.env.locals:=λx c e z=>by obtain⟨v,o,f,d⟩:=I.cell x c e;obtain⟨m,⟨h,g,ep,b,a,_⟩,_⟩:=I.loc;rw[z,b] at f;cases f;rw[a] at d;cases d
theorem Inv.funs(I:Inv X kf σ H s):s.heap.FunFrames X.base X.outer:=by
 have all:∀(l:List ju),(∀b∈Lh l,b∈X.fs)->X.s₀.heap.FunFrames X.base l->s.heap.FunFrames X.base l:=by
  intro l
  induction l with
  | nil=>intro _ _;trivial
  | cons env r ih=>
   intro f k;obtain⟨m,⟨L,o,c,g,j,i⟩,h⟩:=k;have a:L∈X.fs:=f L (by unfold Lh;rw[gV,c];exact aZ);obtain⟨n,e⟩:=I.base.slot L o j (I.ok.frf L a) a λz=>I.ok.exfs L z a;exact⟨m,⟨L,_,c,g,e,i⟩,ih (λb d=>f b (by unfold Lh;rw[gV,c];exact aT _ d)) h⟩
 exact all X.outer (λ_ d=>d) I.ok.funs
theorem Inv.stack(I:Inv X kf σ H s):s.heap.FunFrames X.base X.stack:=by
 rcases I.ok.stk with e | ⟨e,b⟩
 ·rw[e];exact I.funs
 ·rw[e];obtain⟨m,a,_⟩:=I.loc;refine .cons (by rw[I.ok.kind];decide) b a ?_ I.funs;exact b9.get?_none_of_le (aQ I.ok.bsz I.ok.above)
theorem Inv.stkSub(I:Inv X kf σ H s):∀b∈Lh X.stack,b∈X.env.locals::X.fs:=λb a=>by
 rcases I.ok.stk with e | ⟨e,c⟩
 ·rw[e] at a;exact aT _ a
 ·rw[e] at a;unfold Lh at a;rw[gV,c] at a;exact a
theorem Inv.stkFree(I:Inv X kf σ H s):∀b∈Lh X.stack,H b=none:=λb a=>by
 rcases a9.mp (I.stkSub b a) with e | a
 ·rw[e];exact I.free
 ·obtain⟨_,o,c,_⟩:=I.ok.funs.mem a;exact I.base.free b o c (I.ok.frf b a) λz=>I.ok.exfs b z a
theorem Inv.step{U:Array GenState}{t':Nat}{d':Drawn}{ch:List aL}(I:Inv X kf σ H s)
  (h:∀b∈ch,(b∈X.ex\/X.s₀.heap.objs.size<=b)/\b≠X.env.locals/\(∀x c,X.env.cells.lookup x=aA c->c≠b)/\∀p∈X.pn++kf,p.1≠b)
  (g:∀b o,b≠X.env.locals->b∉X.fs->b∉ch->s.heap.get? b=aA o->H b=none->h'.get? b=aA o)
  (y:∀b o,b≠X.env.locals->b∈X.fs->b∉ch->s.heap.get? b=aA o->H b=none->∃O,h'.get? b=aA { o with slots:=O }) (free:∀b o,b∉ch->s.heap.get? b=aA o->H b=none->H' b=none)
  (B:∀b o,b∉ch->s.heap.get? b=aA o->∃E,h'.get? b=aA E)
  (M:∀b A,H b=aA (.tup A)->H' b=aA (.tup A)) (G:∀b o u,H b=aA (.frz o u)->H' b=aA (.frz o u)) (F:∀b N,H b=aA (.tbl N)->∃more,H' b=aA (.tbl (N++more)))
  (ns:∀m,s.heap.Ns X.env.locals m->h'.Ns X.env.locals m) (R:HOk X.prog X.w H' h') (Y:iM U) :
  Inv X kf σ H' { s with heap:=h',gens:=U,drawn:=d',toks:=t' }:=by
 have L:∀b o,X.s₀.heap.get? b=aA o->b≠X.env.locals:=λb o e=>bA (aa (aS e) I.ok.above)
 have w:∀b o,X.s₀.heap.get? b=aA o->b∉X.ex->b∉ch:=λb o e a C=>by
  rcases(h b C).1 with z | z
  ·exact a z
  ·exact absurd (aa (aS e) z) (cD _)
 have j:∀x c,X.env.cells.lookup x=aA c->∀v,s.heap.IsCell c v->h'.IsCell c v:=λx c e v ⟨o,D,P⟩=>by
  have f:=λz=>(h c z).2.2.1 x c e rfl;by_cases W:c∈X.fs
  ·obtain⟨O,q⟩:=y c o (I.cne x c e) W f D (I.freeC x c e);exact⟨_,q,P⟩
  ·exact⟨o,g c o (I.cne x c e) W f D (I.freeC x c e),P⟩
 refine⟨I.ok,I.os,Y,⟨λb o e n C a=>?_,λb o e n C a=>?_,λb o e n a=>?_,λb o e a=>?_,λb A e=>M b A (I.base.tups b A e),λb o A e=>G b o A (I.base.frzs b o A e),λb N e=>?_⟩,?_,λx c e=>?_,?_,λx c e=>?_,λp S=>?_,R,I.len⟩
 ·exact g b o (L b o e) C (w b o e a) (I.base.keep b o e n C a) (I.base.free b o e n a)
 ·obtain⟨O,t⟩:=I.base.slot b o e n C a;obtain⟨Q,J⟩:=y b _ (L b o e) C (w b o e a) t (I.base.free b o e n a);exact⟨Q,J⟩
 ·obtain⟨E,t⟩:=I.base.there b o e a;exact free b E (w b o e a) t (I.base.free b o e n a)
 ·obtain⟨E,t⟩:=I.base.there b o e a;exact B b E (w b o e a) t
 ·obtain⟨m1,t⟩:=I.base.tbls b N e;obtain⟨m2,J⟩:=F b _ t;exact⟨m1++m2,by rw[J,Array.append_assoc]⟩
 ·obtain⟨m,Z,hl⟩:=I.loc;refine⟨m,ns m Z,λi x v t J e3=>?_⟩;obtain⟨u,r,l⟩:=hl i x v t J e3;refine⟨u,r,?_⟩;rcases l with l | ⟨k,c,e,z⟩
  ·exact .inl l
  ·exact .inr ⟨k,c,e,j x c e _ z⟩
 ·obtain⟨v,z⟩:=I.cell x c e;exact⟨v,j x c e v z⟩
 ·obtain⟨m,⟨o,_,_,D,_⟩,_⟩:=I.loc;exact free _ o (λz=>(h _ z).2.1 rfl) D I.free
 ·obtain⟨v,o,D,P⟩:=I.cell x c e;exact free c o (λz=>(h c z).2.2.1 x c e rfl) D (I.freeC x c e)
 ·obtain⟨e,n,ne,T,d⟩:=I.pin p S;have f:=λz=>(h p.1 z).2.2.2 p S rfl;exact⟨g p.1 p.2 ne T f e n,free p.1 p.2 f e n,ne,T,d⟩
theorem Inv.un{t':Nat}(I:Inv X kf σ H s)(u:Un X.fs [] H H' s.heap h')(f:HOk X.prog X.w H' h'):Inv X kf σ H' { s with heap:=h',toks:=t' }:=by
 obtain⟨m,⟨o,t,ep,h,r⟩,_⟩:=id I.loc;obtain⟨p,j⟩:=u.any h I.free (by simp)
 exact I.step (ch:=[]) (λ_ z=>nomatch z) (λb o _ d _ e n=>u.keep b o e n d (by simp)) (λb o _ d _ e n=>u.slot b o e n d (by simp)) (λb o _ e n=>u.free b o e n (by simp)) (λb o _ e=>u.there b o e (by simp)) u.tups u.frzs u.tbls (λq k=>by
  obtain⟨l,c,g,a,i⟩:=k;rw[h] at a;cases a;exact⟨_,c,g,j,i⟩) f I.bare
theorem Inv.call{l:Array GenState}{t':Nat}{v:Drawn}{ch:List aL}(I:Inv X kf σ H s)(u:Un (Lh X.stack) ch H H' s.heap h')(i:HOk X.prog X.w H' h')(q:iM l)
  (d:∀b∈ch,(b∈X.ex\/X.s₀.heap.objs.size<=b)/\b≠X.env.locals/\(∀x c,X.env.cells.lookup x=aA c->c≠b)/\∀p∈X.pn++kf,p.1≠b) :
  Inv X kf σ H' { s with heap:=h',gens:=l,drawn:=v,toks:=t' }:=by
 obtain⟨m,⟨o,D,ep,k,r⟩,_⟩:=id I.loc;obtain⟨B,h⟩:=u.any k I.free λz=>(d _ z).2.1 rfl
 exact I.step d (λb o h y a e n=>u.keep b o e n (λz=>(a9.mp (I.stkSub b z)).elim h y) a) (λb o _ _ a e n=>u.any e n a) (λb o a e n=>u.free b o e n a) (λb o a e=>u.there b o e a) u.tups u.frzs u.tbls (λC w=>by
  obtain⟨A,g,j,f,t⟩:=w;rw[k] at f;cases f;exact⟨_,g,j,h,t⟩) i q
theorem Inv.turned{t':Nat}{a:aL}(I:Inv X kf σ H s)(k:∀b o,b≠a->s.heap.get? b=aA o->h'.get? b=aA o)(h:H a=none)(g:a≠X.env.locals)
  (l:a∈X.ex\/X.s₀.heap.objs.size<=a) (i:∀x c,X.env.cells.lookup x=aA c->c≠a) (j:∀p∈X.pn++kf,p.1≠a):Inv X kf σ H { s with heap:=h',toks:=t' }:=by
 have f:∀b u,H b=aA u->b≠a:=λb u e z=>by rw[z,h] at e;cases e
 refine I.step (ch:=[a]) (λb A=>?_) (λb o _ _ d e _=>k b o (λz=>d (by simp[z])) e) (λb o _ _ d e _=>⟨o.slots,k b o (λz=>d (by simp[z])) e⟩) (λ_ _ _ _ n=>n)
  (λb o d e=>⟨o,k b o (λz=>d (by simp[z])) e⟩) (λ_ _ e=>e) (λ_ _ _ e=>e) (λb B e=>⟨#[],by rw[e];simp⟩) (λm w=>?_) (λb u e=>?_) I.bare
 ·have e:b=a:=by simpa using A
  subst e;exact⟨l,g,i,j⟩
 ·obtain⟨o,y,ep,t,r⟩:=w;exact⟨o,y,ep,k _ o (aw g) t,r⟩
 ·refine(I.hok b u e).stay (λc v d q=>k c v ?_ q) (λ_ q=>q) (λ_ _ q=>q) λ_ _ q=>q;rcases d with z | z
  ·rw[z];exact f b u e
  ·exact f c _ z
theorem Inv.tok(I:Inv X kf σ H s)(t:Nat):Inv X kf σ H { s with toks:=t }:=I.un Un.refl I.hok
theorem Inv.kept{t':Nat}(I:Inv X kf σ H s)(k:∀b u,s.heap.get? b=aA u->h'.get? b=aA u):Inv X kf σ H { s with heap:=h',toks:=t' }:=I.un (Un.kept k) (I.hok.kept k)
theorem Inv.laid{a:aL}{o:HO}{t':Nat}(I:Inv X kf σ H s)(k:∀b u,s.heap.get? b=aA u->h'.get? b=aA u)(c:s.heap.objs.size<=a)(new:ObjOk X.prog X.w (upd H a o) h' a o) :
  Inv X kf σ (upd H a o) { s with heap:=h',toks:=t' }:=I.un (Un.laid k c (I.hok.fresh c)) (I.hok.laid k c new)
theorem Inv.write{x e:aL}{o:HO}{t':Nat}(I:Inv X kf σ H s)(c:UG (H x))(d:e=x\/H e=aA (.own x))(k:∀b u,b≠e->s.heap.get? b=aA u->h'.get? b=aA u)(a:∃u,h'.get? e=aA u)
  (new:ObjOk X.prog X.w (upd H x o) h' x o):Inv X kf σ (upd H x o) { s with heap:=h',toks:=t' }:=I.un (Un.write c d k a) (I.hok.write c d k a new)
theorem Inv.weak{a:List (Option V)}(I:Inv X kf σ H s)(f:a.length=σ.length)(w:∀(i:Nat) v,a[i]?=aA (aA v)->σ[i]?=aA (aA v)):Inv X kf a H s:=
 ⟨I.ok,I.os,I.bare,I.base,let⟨m,c,b⟩:=I.loc;⟨m,c,λi x v e g d=>b i x v e (w i v g) d⟩,I.cell,I.free,I.freeC,I.pin,I.hok,f.trans I.len⟩
theorem Inv.pins_of{a:List (aL×dN)}(I:Inv X kf σ H s)(h:∀p∈a,s.heap.get? p.1=aA p.2/\H p.1=none/\p.1≠X.env.locals/\p.1∉X.fs/\∀v,p.2.data≠.cell v):Inv X a σ H s:=
 ⟨I.ok,I.os,I.bare,I.base,I.loc,I.cell,I.free,I.freeC,λp b=>(bg.mp b).elim (λz=>I.pin p (b6 _ z)) (h p),I.hok,I.len⟩
theorem N5{N:List ak}(e:N.Nodup){i j:Nat}{x:ak}(a:N[i]?=aA x)(b:N[j]?=aA x):i=j:=by obtain⟨f,d⟩:=aU.mp a;obtain⟨g,c⟩:=aU.mp b;exact(jv e).mp (d.trans c.symm)
theorem J2{M:Model}{A:cH}{E:aH->aN->Prop}{i:Nat}{x:ak}{v:V}{u:aH}{Q:Unit->aN->Prop}(I:Inv X kf σ H s)(hN:X.N.Nodup)(R:X.N[i]?=aA x)(w:Ee X.env.scope x)(r:RelV v u)
  (h:∀s',Inv X kf (σ.set i (aA v)) H s'->(∃a,cT a s.heap s'.heap/\(a=X.env.locals\/X.env.cells.lookup x=aA a))->Q () s') (hf:X.fn x=aC\/X.env.scope.names.lookup x=aA .local:=by first | exact .inl rfl | exact .inr rfl | assumption):bH M A (storeName X.env x u) Q E s:=by
 obtain⟨m,hn,hl⟩:=id I.loc;have T:(X.env.scope.kind==.class || (X.env.scope.kind==.module&&X.env.locals != X.env.globals))=aB:=by rw[I.ok.kind];rfl
 have D:i<σ.length:=by rw[I.len];exact(aU.mp R).1
 have cne:=I.cne
 have l:∀{a:aL}{N:b9},(∃o,s.heap.get? a=aA o/\H a=none)->cT a s.heap N->HOk X.prog X.w H N:=λ{a N} ha f b ob e=>by
  obtain⟨_,_,B⟩:=ha;refine(I.hok b ob e).stay (λc W t q=>(f.2 c ?_).trans q) (λ_ q=>q) (λ_ _ q=>q) λ_ _ q=>q;rintro rfl;rcases t with rfl | t
  ·rw[B] at e;cases e
  ·rw[B] at t;cases t
 rcases w with F | F
 ·refine wpAny_storeName_local F hn (λN hn' f=>?_) T;obtain⟨oL,_,_,Z,_⟩:=id hn;refine h _ ⟨I.ok,I.os,I.bare,⟨λb o e n J w=>?_,λb o e n J w=>?_,I.base.free,λb o e w=>?_,I.base.tups,I.base.frzs,I.base.tbls⟩,⟨_,hn',λj y v' g C e3=>?_⟩,λy c e=>?_,I.free,I.freeC,λp hp=>?_,l ⟨oL,Z,I.free⟩ f,by simpa using I.len⟩ ⟨_,f,.inl rfl⟩
  ·exact(f.2 b (bA (aa (aS e) I.ok.above))).trans (I.base.keep b o e n J w)
  ·obtain⟨sl,g⟩:=I.base.slot b o e n J w;exact⟨sl,(f.2 b (bA (aa (aS e) I.ok.above))).trans g⟩
  ·obtain⟨o',g⟩:=I.base.there b o e w;exact⟨o',(f.2 b (bA (aa (aS e) I.ok.above))).trans g⟩
  ·by_cases L:j=i
   ·subst L;rw[R] at g;cases g;rw[iN D] at C;cases C;exact⟨u,r,.inl ⟨F,by simp⟩⟩
   ·rw[ic (aw L)] at C;obtain⟨u',r',q⟩:=hl j y v' g C e3;refine⟨u',r',?_⟩;rcases q with⟨k,e⟩ | ⟨k,c,e,z⟩
    ·refine .inl ⟨k,?_⟩;have:y≠x:=λe=>L (N5 hN g (e▸R));simp[this,e]
    ·exact .inr ⟨k,c,e,z.sameBut f (cne y c e)⟩
  ·obtain⟨W,z⟩:=I.cell y c e;exact⟨W,z.sameBut f (cne y c e)⟩
  ·obtain⟨e,n,ne,nf,d⟩:=I.pin p hp;exact⟨(f.2 p.1 ne).trans e,n,ne,nf,d⟩
 ·have G:X.fn x=aC:=by
   rcases hf with z | z
   ·exact z
   ·rw[z] at F;cases F
  obtain⟨c,t⟩:=I.ok.has x (.inl F);obtain⟨W,z⟩:=I.cell x c t;refine wpAny_storeName_cell I.ok.kind F t z (λN U f=>?_);obtain⟨oc,S,O⟩:=id z;refine h { s with heap:=N } ⟨I.ok,I.os,I.bare,⟨λb o e n J w=>?_,λb o e n J w=>?_,I.base.free,λb o e w=>?_,I.base.tups,I.base.frzs,I.base.tbls⟩,⟨m,hn.sameBut f (aw (cne x c t)),λj y v' g C e3=>?_⟩,λy Y e=>?_,I.free,I.freeC,λp hp=>?_,l ⟨oc,S,I.freeC x c t⟩ f,by simpa using I.len⟩ ⟨c,f,.inr t⟩
  ·exact(f.2 b (bA (aa (aS e) (I.ok.cab x c G t)))).trans (I.base.keep b o e n J w)
  ·obtain⟨sl,g⟩:=I.base.slot b o e n J w;exact⟨sl,(f.2 b (bA (aa (aS e) (I.ok.cab x c G t)))).trans g⟩
  ·obtain⟨o',g⟩:=I.base.there b o e w;exact⟨o',(f.2 b (bA (aa (aS e) (I.ok.cab x c G t)))).trans g⟩
  ·by_cases L:j=i
   ·subst L;rw[R] at g;cases g;rw[iN D] at C;cases C;exact⟨u,r,.inr ⟨.inl F,c,t,U⟩⟩
   ·rw[ic (aw L)] at C;obtain⟨u',r',q⟩:=hl j y v' g C e3;refine⟨u',r',?_⟩;rcases q with q | ⟨k,Y,e,z'⟩
    ·exact .inl q
    ·refine .inr ⟨k,Y,e,z'.sameBut f ?_⟩;rintro rfl;exact L (N5 hN g (I.ok.inj _ _ _ e t▸R))
  ·by_cases P:Y=c
   ·subst P;exact⟨_,U⟩
   ·obtain⟨w2,z2⟩:=I.cell y Y e;exact⟨w2,z2.sameBut f P⟩
  ·obtain⟨e,n,ne,nf,d⟩:=I.pin p hp;refine⟨(f.2 p.1 ?_).trans e,n,ne,nf,d⟩;intro q;rw[q,S] at e;have q':oc=p.2:=ay e;exact d W (by rw[<-q'];exact O)
theorem Qa{M:Model}{A:cH}{E:aH->aN->Prop}{i:Nat}{x:ak}{v:V}{u:aH}{Q:Unit->aN->Prop}(I:Inv X kf σ H s)(f:X.N.Nodup)(e:X.N[i]?=aA x)(b:Ee X.env.scope x)(r:RelV v u)
  (h:∀a,Inv X kf (σ.set i (aA v)) H a->Q () a) (c:X.fn x=aC\/X.env.scope.names.lookup x=aA .local:=by first | exact .inl rfl | exact .inr rfl | assumption):bH M A (storeName X.env x u) Q E s:=
 J2 I f e b r (λa d _=>h a d) c
theorem Inv.call'{a:aN}{ch:List aL}(I:Inv X kf σ H s)(h:a.os=s.os)(u:Un (Lh X.stack) ch H H' s.heap a.heap)(f:HOk X.prog X.w H' a.heap)(g:iM a.gens)
  (d:∀b∈ch,(b∈X.ex\/X.s₀.heap.objs.size<=b)/\b≠X.env.locals/\(∀x c,X.env.cells.lookup x=aA c->c≠b)/\∀p∈X.pn++kf,p.1≠b):Inv X kf σ H' a:=by
 obtain⟨l,j,i,t',k⟩:=a;have e:=h;subst e;exact I.call u f g d
end
abbrev XK:=aH->Option aL->Hp->Prop
abbrev St:=List (Option V)
abbrev VK:=V->Hp->Prop
abbrev TE:=St->Hp->VK->Prop
abbrev TT:=St->Hp->(Bool->Hp->Prop)->Prop
abbrev TA:=St->Hp->(List V->Hp->Prop)->Prop
structure Y3 where
 nx:St->Hp->Prop
 rt:VK
 bk:St->Hp->Prop:=λ_ _=>False
 ct:St->Hp->Prop:=λ_ _=>False
abbrev TS:=Y3->St->Hp->Prop
noncomputable def EP(X:Cx)(kf:List (aL×dN))(σ:St)(Q:VK)(u:aH)(s':aN):Prop:=∃v H',Inv X kf σ H' s'/\RelV v u/\Q v H'
noncomputable def TP(X:Cx)(kf:List (aL×dN))(σ:St)(Q:Bool->Hp->Prop)(b:Bool)(s':aN):Prop:=∃H',Inv X kf σ H' s'/\Q b H'
noncomputable def AP(X:Cx)(kf:List (aL×dN))(σ:St)(Q:List V->Hp->Prop)(us:List aH)(s':aN):Prop:=∃vs H',Inv X kf σ H' s'/\Vals vs us/\Q vs H'
noncomputable def SP(X:Cx)(kf:List (aL×dN))(D:Y3)(f:Flow)(s':aN):Prop:=
 match f with
 | .next=>∃σ' H',Inv X kf σ' H' s'/\D.nx σ' H'
 | .brk=>∃σ' H',Inv X kf σ' H' s'/\D.bk σ' H'
 | .cont=>∃σ' H',Inv X kf σ' H' s'/\D.ct σ' H'
 | .ret u=>∃v σ' H',Inv X kf σ' H' s'/\RelV v u/\D.rt v H'
noncomputable def PE(X:Cx)(e:av)(t:TE):Prop:=
 ∀(kf:List (aL×dN))(s:aN)(σ:St)(H:Hp)(Q:VK),Inv X kf σ H s->t σ H Q->bH (model X.prog X.w) X.A (eval e X.env) (EP X kf σ Q) X.xe s
noncomputable def PT(X:Cx)(e:av)(t:TT):Prop:=
 ∀(kf:List (aL×dN))(s:aN)(σ:St)(H:Hp)(Q:Bool->Hp->Prop),Inv X kf σ H s->t σ H Q->bH (model X.prog X.w) X.A (kP e X.env (eval e X.env)) (TP X kf σ Q) X.xe s
noncomputable def PW(X:Cx)(e:av)(t:TT):Prop:=
 ∀(whole:Sem aH)(kf:List (aL×dN))(s:aN)(σ:St)(H:Hp)(Q:Bool->Hp->Prop),Inv X kf σ H s->t σ H Q->bH (model X.prog X.w) X.A (kP e X.env whole) (TP X kf σ Q) X.xe s
theorem PW.pt{X:Cx}{e:av}{t:TT}(h:PW X e t):PT X e t:=h _
noncomputable def PA(X:Cx)(es:List av)(t:TA):Prop:=
 ∀(pos:el)(kf:List (aL×dN))(s:aN)(σ:St)(H:Hp)(Q:List V->Hp->Prop),Inv X kf σ H s->t σ H Q->bH (model X.prog X.w) X.A (spliced (eu pos (aY es X.env))) (AP X kf σ Q) X.xe s
noncomputable def PS(X:Cx)(st:bb)(t:TS):Prop:=
 ∀(kf:List (aL×dN))(s:aN)(σ:St)(H:Hp)(D:Y3),Inv X kf σ H s->t D σ H->bH (model X.prog X.w) X.A (exec st X.env) (SP X kf D) X.xe s
noncomputable def PSs(X:Cx)(st:List bb)(t:TS):Prop:=
 ∀(kf:List (aL×dN))(s:aN)(σ:St)(H:Hp)(D:Y3),Inv X kf σ H s->t D σ H->bH (model X.prog X.w) X.A (execs st X.env) (SP X kf D) X.xe s
theorem YS{c:Type}{t:Sem c}{Q b:c->aN->Prop}{M:Model}{A:cH}{E:aH->aN->Prop}{s:aN}(h:bH M A t Q E s)(d:∀a s,Q a s->b a s):bH M A t b E s:=c9 h d λ_ _ x=>x
section
variable {X:Cx}
theorem bin{a b:av}{k m:TE}(w:PE X a k)(A:PE X b m){i:List (aL×dN)}{s:aN}{d:St}{H:Hp}{R:V->V->Hp->Prop}(I:Inv X i d H s)(h:k d H λx j=>m d j λy c=>R x y c)
  {l:Type} {Q:l->aN->Prop} {f:aH->aH->Sem l}
  (z:∀v u s2 x y c,Inv X i d c s2->RelV x v->RelV y u->R x y c->bH (model X.prog X.w) X.A (f v u) Q X.xe s2) :
  bH (model X.prog X.w) X.A (eval a X.env) (λv g=>bH (model X.prog X.w) X.A (eval b X.env) (λu e=>bH (model X.prog X.w) X.A (f v u) Q X.xe e) X.xe g) X.xe s:=by
 refine YS (w i s d H _ I h) λv s1 ⟨x,j,n,p,o⟩=>?_;refine YS (A i s1 d j _ n o) λu s2 ⟨y,c,r,t,q⟩=>?_;exact z v u s2 x y c r p t q
noncomputable def Pq(i:Nat):TE:=λσ H Q=>∃v,σ[i]?=aA (aA v)/\Q v H
noncomputable def tC(v:V):TE:=λ_ H Q=>Q v H
theorem CP{i:Nat}{x:ak}{pos:el}(w:X.N[i]?=aA x)(n:Vis X.env.scope x)(f:(x==("__debug__" : ak))=aB:=by decide)(g:(x==("__classdict__" : ak))=aB:=by decide):PE X (.Name x pos) (Pq i):=by
 intro o s p H Q I h;obtain⟨v,e,h⟩:=h;obtain⟨m,k,q⟩:=I.loc;obtain⟨u,r,l⟩:=q i x v w e n;have d:EP X o p Q u s:=⟨v,H,I,r,h⟩;rcases l with⟨b,t⟩ | ⟨b,c,j,a⟩
 ·exact kQ (wpAny_loadName_local I.ok.kind b k t d) f
 ·rcases b with b | b
  ·exact kQ (wpAny_loadName_cell I.ok.kind b j a d) f
  ·exact kQ (wpAny_loadName_free I.ok.kind b j a d g) f
theorem CQ{i j pos}:PE X (.Constant (.int i) j pos) (tC (.int i)):=λ_ _ _ H _ I h=>wpAny_Constant_int ⟨.int i,H,I.tok _,⟨_,rfl⟩,h⟩
theorem Ay{b j pos}:PE X (.Constant (.bool b) j pos) (tC (.bl b)):=λ_ _ _ H _ I h=>Constant_bool ⟨.bl b,H,I,rfl,h⟩
theorem CS{j pos}:PE X (.Constant .none j pos) (tC .non):=λ_ _ _ H _ I h=>jP ⟨.non,H,I,rfl,h⟩
noncomputable def Gl(X:Cx)(x:ak):Prop:=X.env.kindOf x=aA .globalImplicit
theorem Ef{E:aH->aN->Prop}{d:List (aL×dN)}{s:aN}{e:St}{H:Hp}{x:ak}{u:aH}{pos:el}{Q:aH->aN->Prop}(I:Inv X d e H s)(b:Gl X x)(a:X.mg x=aA u)(h:Q u s)
  (c:(x==("__debug__" : ak))=aB:=by decide):bH (model X.prog X.w) X.A (eval (.Name x pos) X.env) Q E s:=
 g9 I.ok.kind b (Calls.loadGlobal_global (by rw[I.ok.glob];exact I.mod.glob.keeps I.bk) a h) c
theorem UU{E:aH->aN->Prop}{e:List (aL×dN)}{s:aN}{f:St}{H:Hp}{x:ak}{u:aH}{pos:el}{Q:aH->aN->Prop}(I:Inv X e f H s)(a:Gl X x)(i:X.mg x=none)(c:dC x=aA u)(h:Q u s)
  (b:x≠"__name__":=by decide) (d:(x==("__debug__" : ak))=aB:=by decide):bH (model X.prog X.w) X.A (eval (.Name x pos) X.env) Q E s:=by
 obtain⟨k,g,j⟩:=I.mod.blt;exact g9 I.ok.kind a (Calls.loadGlobal_builtin (by rw[I.ok.glob];exact I.mod.glob.keeps I.bk) i (by rw[I.ok.blt];exact g.keeps I.bk) ((j x b).trans c) h) d
theorem Eg{x:ak}{v:V}{u:aH}{pos:el}(b:Gl X x)(a:X.mg x=none)(e:dC x=aA u)(r:RelV v u)(c:x≠"__name__":=by decide)(d:(x==("__debug__" : ak))=aB:=by decide):PE X (.Name x pos) (tC v):=
 λ_ _ _ H _ I h=>UU I b a e ⟨v,H,I,r,h⟩ c d
variable {a b:av} {ta tb:TE} {pos:el}
noncomputable def PC(X:Cx)(op:kR)(a b:av)(t:TE):Prop:=
 ∀(kf:List (aL×dN))(s:aN)(σ:St)(H:Hp)(Q:VK),Inv X kf σ H s->t σ H Q->
  bH (model X.prog X.w) X.A (eval a X.env) (λv s₁=>bH (model X.prog X.w) X.A (eval b X.env) (λu s₂=>bH (model X.prog X.w) X.A (eT op v u) (EP X kf σ Q) X.xe s₂) X.xe s₁) X.xe s
theorem HD(b:av){op:kR}(h:op≠.In)(c:op≠.NotIn):cY op b=aB:=by
 have a:(op==kR.In)=aB:=by cases op<;>first | rfl | exact absurd rfl h
 have d:(op==kR.NotIn)=aB:=by cases op<;>first | rfl | exact absurd rfl c
 cases b<;>simp[cY,a,d]
noncomputable def Az(ta:TE):TE:=λσ H Q=>ta σ H λx H1=>Q (.bl (decide (x = .non))) H1
noncomputable def Ca(ta:TE):TE:=λσ H Q=>ta σ H λx H1=>Q (.bl (!decide (x = .non))) H1
theorem RelV.none_iff{x:V}{v:aH}(r:RelV x v):(v==aH.none)=decide (x = .non):=by
 cases x with
 | non=>cases r;rfl
 | bl _=>cases r;rfl
 | int _=>obtain⟨t,rfl⟩:=r;rfl
 | str _=>obtain⟨t,rfl⟩:=r;rfl
 | byt _=>obtain⟨t,rfl⟩:=r;rfl
 | flt _=>obtain⟨t,rfl⟩:=r;rfl
 | ref _=>cases r;rfl
 | ty _=>cases r;rfl
theorem CT{j pos'}(i:PE X a ta):PC X .Is a (.Constant .none j pos') (Az ta):=by intro b s f H Q I h;refine YS (i b s f H _ I h) λv s1 ⟨x,d,c,e,g⟩=>?_;exact jP (is_none_gen ⟨.bl _,d,c,by rw[e.none_iff];rfl,g⟩)
theorem Eh{j pos'}(i:PE X a ta):PC X .IsNot a (.Constant .none j pos') (Ca ta):=by intro b s f H Q I h;refine YS (i b s f H _ I h) λv s1 ⟨x,d,c,e,g⟩=>?_;exact jP (isnot_none_gen ⟨.bl _,d,c,by rw[e.none_iff];rfl,g⟩)
noncomputable def tB(t:TE):TT:=λσ H Q=>t σ H λx H1=>∃c,x = .bl c/\Q c H1
theorem HE{op:kR}{t:TE}(h:PC X op a b t)(e:cY op b=aB:=by first | exact HD _ (by decide) (by decide) | rfl):PT X (.Compare a [op] [b] pos) (tB t):=by intro j s l H Q I n;refine i8 (YS (h j s l H _ I n) λv s1 e=>YS e λu s2 i=>YS i λc o ⟨x,m,f,k,g⟩=>?_) e;obtain⟨d,rfl,q⟩:=g;cases k;exact cg ⟨m,f,q⟩
theorem CU{e:av}{t:TE}(h:PE X e t)(b:∀whole,kP e X.env whole=(do let v <-whole;standAt e.pos;holding [v] (truthy v)):=by intro _;rfl):PT X e (tB t):=by intro f s i H Q I k;refine isTrue_plain (YS (h f s i H _ I k) λv s1 ⟨x,j,a,g,c⟩=>?_) (b _);obtain⟨d,rfl,q⟩:=c;cases g;exact cg ⟨j,a,q⟩
variable {tA tB':TT} {Ys:List av}
noncomputable def AA(t u:TT):TT:=λσ H Q=>t σ H λc H1=>if c=aC then u σ H1 Q else Q aB H1
noncomputable def tOr(t u:TT):TT:=λσ H Q=>t σ H λc H1=>if c=aC then Q aC H1 else u σ H1 Q
noncomputable def Zbn(t:TT):TT:=λσ H Q=>t σ H λc H1=>Q (!c) H1
theorem Ei(f:PT X a tA):PW X (.BoolOp .And [a] pos) tA:=by
 intro g b s d H Q I h;refine isTrue_and (YS (f b s d H Q I h) λc s1 e=>?_)
 cases c with
 | true=>exact isTrue_and_nil e
 | false=>exact e
theorem CV(f:PT X a tA):PW X (.BoolOp .Or [a] pos) tA:=by
 intro g b s d H Q I h;refine isTrue_or (YS (f b s d H Q I h) λc s1 e=>?_)
 cases c with
 | false=>exact isTrue_or_nil e
 | true=>exact e
theorem CW(l:PT X a tA)(k:PW X (.BoolOp .And (b::Ys) pos) tB'):PW X (.BoolOp .And (a::b::Ys) pos) (AA tA tB'):=by
 intro j d s g H Q I h;refine isTrue_and (YS (l d s g H _ I h) λc s1 ⟨f,e,i⟩=>?_)
 cases c with
 | true=>exact k j d s1 g f Q e i
 | false=>exact⟨f,e,i⟩
theorem AB(l:PT X a tA)(k:PW X (.BoolOp .Or (b::Ys) pos) tB'):PW X (.BoolOp .Or (a::b::Ys) pos) (tOr tA tB'):=by
 intro j d s g H Q I h;refine isTrue_or (YS (l d s g H _ I h) λc s1 ⟨f,e,i⟩=>?_)
 cases c with
 | true=>exact⟨f,e,i⟩
 | false=>exact k j d s1 g f Q e i
theorem CY(f:PT X a tA):PT X (.UnaryOp .Not a pos) (Zbn tA):=by intro b s e H Q I h;exact isTrue_not (f b s e H (λc d=>Q (!c) d) I h)
noncomputable def AD(ta tb:TE):TE:=λσ H Q=>ta σ H λx H1=>∃c,x = .bl c/\if c=aC then tb σ H1 Q else Q (.bl aB) H1
noncomputable def AE(ta:TE):TE:=λσ H Q=>ta σ H λx H1=>∃c,x = .bl c/\Q (.bl (!c)) H1
theorem CZ{op}{t:TE}(h:PE X a t):PE X (.BoolOp op [a] pos) t:=λb s c H Q I d=>BoolOp_one (h b s c H Q I d)
theorem C0(l:PE X a ta)(k:PE X (.BoolOp .And (b::Ys) pos) tb):PE X (.BoolOp .And (a::b::Ys) pos) (AD ta tb):=by
 intro e s i H Q I h;refine BoolOp_and (YS (l e s i H _ I h) λv s1 ⟨x,g,f,j,d⟩=>?_);obtain⟨c,rfl,d⟩:=d;cases j;refine cg ?_
 cases c with
 | true=>exact k e s1 i g Q f d
 | false=>exact⟨.bl aB,g,f,rfl,d⟩
theorem C1(j:PE X a ta):PE X (.UnaryOp .Not a pos) (AE ta):=by intro d s i H Q I h;refine UnaryOp_ (YS (j d s i H _ I h) λv s1 ⟨x,f,e,g,b⟩=>?_);obtain⟨c,rfl,b⟩:=b;cases g;exact not_of (cg ⟨.bl (!c),f,e,rfl,b⟩)
noncomputable def tIf(t:TT)(ta tb:TE):TE:=λσ H Q=>t σ H λc H1=>if c=aC then ta σ H1 Q else tb σ H1 Q
theorem HF{c:av}(k:PT X c tA)(m:PE X a ta)(l:PE X b tb):PE X (.IfExp c a b pos) (tIf tA ta tb):=by
 intro e s f H Q I h;refine wpAny_IfExp (YS (k e s f H _ I h) λd s1 ⟨i,g,j⟩=>?_)
 cases d with
 | true=>exact m e s1 f i Q g j
 | false=>exact l e s1 f i Q g j
end
noncomputable def SqL(K:aD)(H:Hp)(a:aL)(xs:List V):Prop:=
 Rd H a (.lst xs)\/
  ∃(o:dN) (kq:Array aH) (n:Nat),K.lookup a=aA o/\o.cls = .type "list"/\o.dict=none/\o.data = .seq kq n/\kq.size<=sizeLine/\Vals xs kq.toList
noncomputable def SqT(K:aD)(H:Hp)(a:aL)(xs:List V):Prop:=
 Rd H a (.tup xs)\/
  ∃(o:dN) (kq:Array aH) (n:Nat),K.lookup a=aA o/\o.cls = .type "tuple"/\o.data = .seq kq n/\kq.size<=sizeLine/\Vals xs kq.toList
noncomputable def Zbo:aH->Option V
 | .none=>aA .non
 | .bool b=>aA (.bl b)
 | .int i _=>aA (.int i)
 | .str x _=>aA (.str x)
 | .bytes b _=>aA (.byt b)
 | .float b _=>aA (.flt b)
 | .ref a=>aA (.ref a)
 | .type n=>aA (.ty n)
 | _=>none
theorem RelV.abs{x:V}{u:aH}(r:RelV x u):Zbo u=aA x:=by
 cases x with
 | non=>cases r;rfl
 | bl _=>cases r;rfl
 | int _=>obtain⟨t,rfl⟩:=r;rfl
 | str _=>obtain⟨t,rfl⟩:=r;rfl
 | byt _=>obtain⟨t,rfl⟩:=r;rfl
 | flt _=>obtain⟨t,rfl⟩:=r;rfl
 | ref _=>cases r;rfl
 | ty _=>cases r;rfl
theorem RelV.inj{x y:V}{u:aH}(r:RelV x u)(q:RelV y u):x=y:=ay (r.abs.symm.trans q.abs)
theorem Vals.inj:∀{xs ys:List V}{us:List aH},Vals xs us->Vals ys us->xs=ys
 | _,_,_,.nil,.nil=>rfl
 | _,_,_,.cons r t,.cons r' t'=>by rw[r.inj r',Vals.inj t t']
section
variable {X:Cx} {kf:List (aL×dN)} {σ:St} {H:Hp} {s:aN} {a:aL} {xs ys:List V}
theorem SqL.of{K:aD}(h:H a=aA (.lst xs)):SqL K H a xs:=.inl (.inl h)
theorem SqT.of{K:aD}(h:H a=aA (.tup xs)):SqT K H a xs:=.inl (.inl h)
theorem Inv.list(I:Inv X kf σ H s)(h:SqL X.K H a xs):∃b:List aH,Vals xs b/\PlainL s.heap a b.toArray/\xs.length<=sizeLine:=by
 rcases h with h | ⟨o,b,n,f,g,d,c,i,r⟩
 ·obtain⟨z,b,n,r,e⟩:=h.ok I.hok;exact⟨b,r,⟨_,n,e,rfl,rfl,rfl⟩,z⟩
 ·refine⟨b.toList,r,⟨o,n,I.kIn a o f,g,d,by simpa using c⟩,?_⟩;have e:=r.length;simp only[fG] at e;omega
theorem Inv.tuple(I:Inv X kf σ H s)(h:SqT X.K H a xs):∃b:List aH,Vals xs b/\IsTup s.heap a b.toArray/\xs.length<=sizeLine:=by
 rcases h with h | ⟨o,b,n,d,f,c,g,r⟩
 ·obtain⟨z,b,r,p⟩:=h.ok I.hok;exact⟨b,r,p,z.1⟩
 ·refine⟨b.toList,r,⟨o,I.kIn a o d,f,n,by simpa using c⟩,?_⟩;have e:=r.length;simp only[fG] at e;omega
theorem Inv.list_inj(I:Inv X kf σ H s)(h:SqL X.K H a xs)(g:SqL X.K H a ys):xs=ys:=by
 obtain⟨i,r,⟨o,n,e,_,_,d⟩,_⟩:=I.list h;obtain⟨b,j,⟨k,l,f,_,_,c⟩,_⟩:=I.list g;rw[e] at f;cases f;rw[d] at c;injection c with d1 _
 have:i=b:=by simpa using congrArg k6 d1
 subst this;exact r.inj j
theorem Inv.tuple_inj(I:Inv X kf σ H s)(h:SqT X.K H a xs)(g:SqT X.K H a ys):xs=ys:=by
 obtain⟨i,r,⟨o,e,_,n,d⟩,_⟩:=I.tuple h;obtain⟨b,j,⟨k,f,_,l,c⟩,_⟩:=I.tuple g;rw[e] at f;cases f;rw[d] at c;injection c with d1 _
 have:i=b:=by simpa using congrArg k6 d1
 subst this;exact r.inj j
end
abbrev Cx.wish(X:Cx)(E:aH->aN->Prop):Cx:={ X with xe:=E }
abbrev Cx.nox(X:Cx):Cx:=X.wish λ_ _=>False
theorem Cx.Ok.wish{X:Cx}(ok:X.Ok)(E:aH->aN->Prop):(X.wish E).Ok:=
 ⟨ok.mod,ok.kind,ok.glob,ok.blt,ok.above,ok.inj,ok.has,ok.cab,ok.hd,ok.frames,ok.stk,ok.exf,ok.bs,ok.bsz,ok.noex,ok.exfs,ok.funs,ok.frf,ok.tab,ok.cod⟩
theorem Cx.Ok.unwish{X:Cx}{E:aH->aN->Prop}(ok:(X.wish E).Ok):X.Ok:=
 ⟨ok.mod,ok.kind,ok.glob,ok.blt,ok.above,ok.inj,ok.has,ok.cab,ok.hd,ok.frames,ok.stk,ok.exf,ok.bs,ok.bsz,ok.noex,ok.exfs,ok.funs,ok.frf,ok.tab,ok.cod⟩
section
variable {X:Cx} {kf:List (aL×dN)} {σ:St} {H:Hp} {s:aN} {E:aH->aN->Prop}
theorem Inv.wish(I:Inv X kf σ H s)(E:aH->aN->Prop):Inv (X.wish E) kf σ H s:=⟨I.ok.wish E,I.os,I.bare,I.base,I.loc,I.cell,I.free,I.freeC,I.pin,I.hok,I.len⟩
theorem Inv.unwish(I:Inv (X.wish E) kf σ H s):Inv X kf σ H s:=⟨I.ok.unwish,I.os,I.bare,I.base,I.loc,I.cell,I.free,I.freeC,I.pin,I.hok,I.len⟩
theorem SP.unwish{D:Y3}{f:Flow}{c:aN}(h:SP (X.wish E) kf D f c):SP X kf D f c:=by
 cases f with
 | next=>obtain⟨a,b,I,q⟩:=h;exact⟨a,b,I.unwish,q⟩
 | brk=>obtain⟨a,b,I,q⟩:=h;exact⟨a,b,I.unwish,q⟩
 | cont=>obtain⟨a,b,I,q⟩:=h;exact⟨a,b,I.unwish,q⟩
 | ret u=>obtain⟨v,a,b,I,r,q⟩:=h;exact⟨v,a,b,I.unwish,r,q⟩
theorem PSs.nox{st:List bb}{t:TS}(h:PSs X.nox st t):PSs X st t:=λa s b H D I c=>
 c9 (h a s b H D (I.wish _) c) (λ_ _ q=>q.unwish) λ_ _ z=>eI z
end
section
variable {X:Cx} {st:bb} {Ys:List bb} {t u:TS} {e:av} {te:TE} {pos:el}
noncomputable def Cb:TS:=λD σ H=>D.nx σ H
noncomputable def Zbp(t u:TS):TS:=λD σ H=>t { D with nx:=u D } σ H
theorem Ej:PSs X [] Cb:=λ_ _ a H _ I h=>gR ⟨a,H,I,h⟩
theorem N6(d:PS X st t)(i:PSs X Ys u):PSs X (st::Ys) (Zbp t u):=by
 intro b s e H D I h;refine wpAny_execs_cons (YS (d b s e H { D with nx:=u D } I h) λf s1 q=>?_)
 cases f with
 | next=>
  obtain⟨a,c,g,q⟩:=q;exact i b s1 a c D g q
 | ret v=>exact q
 | brk=>exact q
 | cont=>exact q
theorem K5(a:PS X st t):PSs X [st] t:=by
 intro b s c H D I h;refine wpAny_execs_cons (YS (a b s c H D I h) λf s1 q=>?_)
 cases f with
 | next=>exact gR q
 | ret v=>exact q
 | brk=>exact q
 | cont=>exact q
theorem Inv.quiet{a:List (aL×dN)}{b:St}{H:Hp}{s:aN}(I:Inv X a b H s):interactive X.env=aB:=by simp[interactive,I.ok.kind]
noncomputable def K6(te:TE):TS:=λD σ H=>te σ H λ_ H1=>D.nx σ H1
theorem Uq(g:PE X e te)(b:g7 e none pos.line X.env=pure aB:=by rfl):PS X (.Expr e pos) (K6 te):=by intro c s a H D I h;exact wpAny_Expr_any (YS (g c s a H _ I h) λv s1 ⟨x,f,d,j,i⟩=>⟨a,f,d,i⟩) I.quiet b
noncomputable def Zbq(te:TE):TS:=λD σ H=>te σ H D.rt
theorem Lk(g:PE X e te):PS X (.Return (aA e) pos) (Zbq te):=by intro b s a H D I h;exact wpAny_Return_some (YS (g b s a H _ I h) λv s1 ⟨x,d,c,f,i⟩=>⟨x,a,d,c,f,i⟩)
noncomputable def Zbr(c:TT)(t u:TS):TS:=λD σ H=>c σ H λb H1=>if b=aC then t D σ H1 else u D σ H1
theorem AF{c:av}{a b:List bb}{k:TT}(m:PT X c k)(l:PSs X a t)(n:PSs X b u):PS X (.If c a b pos) (Zbr k t u):=by
 intro e s f H D I h;refine wpAny_If (YS (m e s f H _ I h) λd s1 ⟨j,g,i⟩=>?_)
 cases d with
 | true=>exact l e s1 f j D g i
 | false=>exact n e s1 f j D g i
end
abbrev TG:=V->St->Hp->(St->Hp->Prop)->Prop
abbrev Cc:=List V->St->Hp->(St->Hp->Prop)->Prop
noncomputable def PG(X:Cx)(target:av)(t:TG):Prop:=
 ∀(kf:List (aL×dN))(s:aN)(σ:St)(H:Hp)(v:V)(u:aH)(Q:St->Hp->Prop),Inv X kf σ H s->RelV v u->t v σ H Q->
  bH (model X.prog X.w) X.A (assign target X.env u) (λ_ s'=>∃σ' H',Inv X kf σ' H' s'/\Q σ' H') X.xe s
noncomputable def PGs(X:Cx)(ts:List av)(t:Cc):Prop:=
 ∀(kf:List (aL×dN))(s:aN)(σ:St)(H:Hp)(vs:List V)(us:List aH)(Q:St->Hp->Prop),Inv X kf σ H s->Vals vs us->t vs σ H Q->
  bH (model X.prog X.w) X.A (assignInOrder ((gg ts X.env).map (·.2)) us) (λ_ s'=>∃σ' H',Inv X kf σ' H' s'/\Q σ' H') X.xe s
abbrev C2:=V->V->V->Hp->(Hp->Prop)->Prop
noncomputable def AG(X:Cx)(t:C2):Prop:=
 ∀(kf:List (aL×dN))(s:aN)(σ:St)(H:Hp)(o i v:V)(ov iv u:aH)(Q:Hp->Prop),Inv X kf σ H s->RelV o ov->RelV i iv->RelV v u->t o i v H Q->
  bH (model X.prog X.w) X.A (setItem ov iv u) (λ_ s'=>∃H',Inv X kf σ H' s'/\Q H') X.xe s
section
variable {X:Cx} {pos:el}
noncomputable def Th(i:Nat):TG:=λv σ H Q=>Q (σ.set i (aA v)) H
theorem RF{i:Nat}{x:ak}(e:X.N.Nodup)(d:X.N[i]?=aA x)(a:Ee X.env.scope x)(b:X.fn x=aC\/X.env.scope.names.lookup x=aA .local:=by first | exact .inl rfl | exact .inr rfl | assumption):PG X (.Name x pos) (Th i):=by intro g s j H v u Q I r h;exact wpAny_assign_Name (Qa I e d a r (λf c=>⟨_,H,c,h⟩) b)
noncomputable def AH:Cc:=λvs σ H Q=>vs=[]/\Q σ H
noncomputable def Cd(t:TG)(u:Cc):Cc:=λvs σ H Q=>∃v r,vs=v::r/\t v σ H λσ' H'=>u r σ' H' Q
theorem Yt:PGs X [] AH:=by intro b s a H vs c Q I r h;obtain⟨e,h⟩:=h;subst e;cases r;exact assignInOrder_nil ⟨a,H,I,h⟩
theorem Zx{e:av}{a:List av}{t:TG}{u:Cc}(k:PG X e t)(m:PGs X a u)
  (i:(gg (e::a) X.env).map (·.2)=assign e X.env::(gg a X.env).map (·.2):=by rfl):PGs X (e::a) (Cd t u):=by
 intro c s j H vs o Q I r h;obtain⟨v,n,f,h⟩:=h;subst f
 cases r with
 | cons r rr=>
  rw[i];refine assignInOrder_cons (YS (k c s j H _ _ _ I r h) λ_ s1 ⟨b,l,d,g⟩=>?_);exact m c s1 b l _ _ Q d rr g
noncomputable def AI(K:aD)(n:Nat)(t:Cc):TG:=λv σ H Q=>∃a xs,v = .ref a/\SqT K H a xs/\xs.length=n/\t xs σ H Q
theorem Y0{c:List av}{k:Nat}{t:Cc}{n:Nat}(z:X.calm=aC)(h:PGs X c t)
  (j:(gg c X.env).length=n:=by rfl) (d:(gg c X.env).findIdx? (·.1)=none:=by rfl):PG X (.Tuple c k pos) (AI X.K n t):=by
 intro p s w H v u Q I r f;obtain⟨a,A,m,y,x,f⟩:=f;subst m;cases r;obtain⟨C,g,i,B⟩:=I.tuple y;refine assign_Tuple_tuple (I.ok.hd z) i (by simp[j,<-x,g.length]) d λD q=>?_;have l:=I.kept (t':=s.toks) λb o e=>q b o (bA (aS e)) e;exact h p _ w H A _ Q l (by simpa using g) f
noncomputable def C3(to ti:TE)(t:C2):TG:=λv σ H Q=>to σ H λo H1=>ti σ H1 λi H2=>t o i v H2 λH3=>Q σ H3
theorem WM{o i:av}{e f:TE}{t:C2}(B:PE X o e)(A:PE X i f)(n:AG X t)
  (F:∀v,assign (.Subscript o i pos) X.env v=(do
   let a <-holding [v] (eval o X.env);let b <-holding [v,a] (eval i X.env)
   standAt pos
   holding [v,a,b] (setItem a b v)
   release [v,a,b] []):=by intro _;rfl):PG X (.Subscript o i pos) (C3 e f t):=by
 intro d s c H v u Q I r h;refine aM (gy (YS (B d s c H _ I h) λa s1 ⟨x,D,g,p,k⟩=>?_));refine aM (gy (YS (A d s1 c D _ g k) λb s2 ⟨y,m,w,z,q⟩=>?_));refine aM (jQ (aM (gy (YS (n d s2 c m x y v a b u _ w p z r q) λ_ E ⟨C,l,j⟩=>?_))));exact wpAny_release ⟨c,C,l,j⟩
noncomputable def Ll(te:TE)(g:TG):TS:=λD σ H=>te σ H λx H1=>g x σ H1 D.nx
theorem WN{a e:av}{d:TE}{g:TG}(j:PE X e d)(f:PG X a g)(l:swapsWithSole [a] e pos.line X.env=pure aB:=by rfl)(p:swappedStores [a] e X.env=pure none:=by rfl)
  (n:(gg [a] X.env).map (·.2)=[assign a X.env]:=by rfl):PS X (.Assign [a] e pos) (Ll d g):=by
 intro b s c H D I h;refine wpAny_Assign_stores (YS (j b s c H _ I h) λv s1 ⟨x,o,i,m,k⟩=>?_) l p;rw[n];exact YS (f b s1 c o x v _ i m k) λ_ s2 q=>q
theorem C4{i:Nat}{x:ak}{e:av}{b:TE}{a:el}(r:X.N.Nodup)(o:X.N[i]?=aA x)(j:Ee X.env.scope x)(d:PE X e b)(g:g7 e (aA (.Name x a)) pos.line X.env=pure aB:=by rfl)(q:X.fn x=aC\/X.env.scope.names.lookup x=aA .local:=by first | exact .inl rfl | exact .inr rfl | assumption) :
  PS X (.Assign [.Name x a] e pos) (Ll b (Th i)):=by
 intro k s m H D I h;refine wpAny_Assign_Name (YS (d k s m H _ I h) λv s1 ⟨y,p,c,l,f⟩=>?_) g;exact Qa c r o j l (λs2 n=>⟨_,p,n,f⟩) q
end
section
variable {X:Cx} {pos:el}
noncomputable def C5(c:TT)(tb:TS):TS:=λD σ H=>∃W:Nat->St->Hp->Prop,(∃m,W m σ H)/\∀m σ H,W m σ H->
 c σ H λb H1=>if b=aC then ∃N:St->Hp->Prop,(∀σ' H',N σ' H'->∃m',m'<m/\W m' σ' H')/\tb { D with nx:=N,ct:=N,bk:=D.nx } σ H1 else D.nx σ H1
theorem HG{c:av}{e:List bb}{y:TT}{x:TS}(r:jJ (model X.prog X.w) X.A X.env X.xe)(J:PT X c y)(L:PSs X e x):PS X (.While c e [] pos) (C5 y x):=by
 intro m s E H D I h;obtain⟨W,⟨A,F⟩,turn⟩:=h;refine wpAny_While (codeAny_whileLoop (λn C=>∃σ' H',Inv X m σ' H' C/\W n σ' H') ?_ A ⟨E,H,I,F⟩);rintro n s1 ⟨d,w,B,G⟩;refine dZ r (YS (J m s1 d w _ B (turn n d w G)) λb s2 ⟨t,u,j⟩=>?_)
 cases b with
 | true=>
  obtain⟨N,z,j⟩:=j;refine dZ r (YS (L m s2 d t _ u j) λf M i=>?_)
  cases f with
  | next=>
   obtain⟨a,g,k,o⟩:=i;obtain⟨l,q,p⟩:=z a g o;exact⟨l,q,a,g,k,p⟩
  | cont=>
   obtain⟨a,g,k,o⟩:=i;obtain⟨l,q,p⟩:=z a g o;exact⟨l,q,a,g,k,p⟩
  | brk=>exact i
  | ret v=>exact i
 | false=>
  exact gR ⟨d,t,u,j⟩
end
structure It where
 go:Nat->Hp->Prop
 yld:Nat->Hp->V->Hp->Prop
 stop:Nat->Hp->Prop
noncomputable def Vh(X:Cx)(kf:List (aL×dN))(H:Hp)(b:aL):Prop:=
 H b=none/\b≠X.env.locals/\b∉X.fs/\(b∈X.ex\/X.s₀.heap.objs.size<=b)/\(∀x c,X.env.cells.lookup x=aA c->c≠b)/\∀p∈X.pn++kf,p.1≠b
theorem Inv.fpOk{X:Cx}{f:List (aL×dN)}{h:St}{H d:Hp}{s:aN}{b:aL}(I:Inv X f h H s)(a:s.heap.objs.size<=b)(g:d b=none):Vh X f d b:=by
 refine⟨g,fD (aa I.lt a),I.nofs a,.inr (aQ I.sz a),λx c e z=>?_,λp i z=>?_⟩
 ·obtain⟨v,q⟩:=I.cell x c e;exact absurd (aa q.lt (by rw[z];exact a)) (cD _)
 ·exact absurd (aa (aS (I.pin p i).1) (by rw[z];exact a)) (cD _)
structure OG(P:bW)(w:cN)(K:aD)(tg:av)(J:It)(fp:List aL)(it:aL)(tn:Nat->b9->Prop):Prop where
 mem:it∈fp
 obj:∀i h,tn i h->∀b∈fp,∃o,h.get? b=aA o/\∀v,o.data≠.cell v
 keep:∀i h h',tn i h->(∀b∈fp,∀o,h.get? b=aA o->h'.get? b=aA o)->tn i h'
 item:∀(X:Cx),X.prog=P->X.w=w->X.K=K->X.calm=aC->∀(i:Nat)(kf:List (aL×dN))(s:aN)(σ:St)(H:Hp)(E:aH->aN->Prop),Inv X kf σ H s->(∀b∈fp,Vh X kf H b)->tn i s.heap->J.go i H->
  bH (model P w) X.A (k7 (.ref it)) (λr s1=>∃u,r=aA u/\
   bH (model P w) X.A (iY tg (.ref it) u) (λ_ s2=>∃x H',Inv X kf σ H' s2/\RelV x u/\J.yld i H x H'/\tn (i+1) s2.heap/\∀b∈fp,H' b=none) E s1) E s
 done:∀(X:Cx),X.prog=P->X.w=w->X.K=K->X.calm=aC->∀(i:Nat)(kf:List (aL×dN))(s:aN)(σ:St)(H:Hp)(E:aH->aN->Prop),Inv X kf σ H s->(∀b∈fp,Vh X kf H b)->tn i s.heap->J.stop i H->
  bH (model P w) X.A (k7 (.ref it)) (λr s1=>r=none/\Inv X kf σ H s1) E s
 self:∀(A:cH)(i:Nat)(s:aN)(Q:aH->aN->Prop)(E:aH->aN->Prop),tn i s.heap->Q (.ref it) s->bH (model P w) A (pyIter (.ref it)) Q E s
abbrev TI:=St->Hp->(It->Hp->Prop)->Prop
noncomputable def PIE(X:Cx)(kf:List (aL×dN))(σ:St)(tg:av)(R:It->Hp->Prop)(itv:aH)(s2:aN):Prop:=
 ∃(it:aL) (fp:List aL) (tn:Nat->b9->Prop) (J:It) (H':Hp),itv = .ref it/\Inv X kf σ H' s2/\OG X.prog X.w X.K tg J fp it tn/\tn 0 s2.heap/\(∀b∈fp,Vh X kf H' b)/\R J H'
noncomputable def PI(X:Cx)(tg iter:av)(wi:TI):Prop:=
 ∀(kf:List (aL×dN))(s:aN)(σ:St)(H:Hp)(R:It->Hp->Prop),Inv X kf σ H s->wi σ H R->
  bH (model X.prog X.w) X.A (eval iter X.env) (λv s1=>bH (model X.prog X.w) X.A (pyIter v) (PIE X kf σ tg R) X.xe s1) X.xe s
theorem HH{M:Model}{A:cH}{E:aH->aN->Prop}{s:aN}{b:av}{c:aL}{u:aH}{o:dN}{n:String}{vs:Array aH}{Q:Unit->aN->Prop}(g:s.heap.get? c=aA o)(f:o.cls = .type n)(d:o.data = .fields vs)
    (e:["enumerate","zip","dict_itemiterator","dict_reverseitemiterator","odict_iterator","itertools.zip_longest","itertools.pairwise"].contains n=aB) (a:Q () s):bH M A (iY b (.ref c) u) Q E s:=by
  cases b<;>first
    | exact aj a
    | (cases u<;>first
        | exact aj a
        | (refine aM (wpAny_load g ?_)
           rw[f,d];show bH M A (if(["enumerate","zip","dict_itemiterator","dict_reverseitemiterator","odict_iterator","itertools.zip_longest","itertools.pairwise"].contains n&&vs[0]?==aA (ie _))=aC then _ else _) Q E s;rw[ku (by intro h;rw[e] at h;cases h)];exact aj a))
noncomputable def Itl(K:aD)(a:aL):It:=
 ⟨λi H=>∃xs x,SqL K H a xs/\xs[i]?=aA x,λi H x H'=>H'=H/\∀xs,SqL K H a xs->xs[i]?=aA x,λi H=>∃xs,SqL K H a xs/\xs.length<=i⟩
noncomputable def Itt(K:aD)(a:aL):It:=
 ⟨λi H=>∃xs x,SqT K H a xs/\xs[i]?=aA x,λi H x H'=>H'=H/\∀xs,SqT K H a xs->xs[i]?=aA x,λi H=>∃xs,SqT K H a xs/\xs.length<=i⟩
noncomputable def AJ(lo:Int)(n:Nat):It:=⟨λi _=>i<n,λi H x H'=>H'=H/\x = .int (lo+i),λi _=>n<=i⟩
theorem J3{P:bW}{w:cN}{K:aD}{U:av}(a g:aL):OG P w K U (Itl K a) [g] g (λi h=>h.IsListIter g a i) where
 mem:=by simp
 obj:=λi h st b f=>by
  have e:b=g:=by simpa using f
  subst e;obtain⟨o,e,c,d⟩:=st;exact⟨o,e,λv z=>by rw[d] at z;cases z⟩
 keep:=λi h G st k=>st.at λo e=>k g (by simp) o e
 item:=by intro X C F y J i N s O H E I m st n;subst C F y;obtain⟨W,x,l,r⟩:=n;obtain⟨Q,D,p,M⟩:=I.list l;obtain⟨u,Y,T⟩:=D.get r;obtain⟨A,f1,f2,B,q,t⟩:=m g (by simp);refine wpAny_pyNext_list_item st p.isList (by simpa using Y) λG j S=>?_;have L:=I.turned (t':=s.toks) (λb o f e=>(S.2 b f).trans e) A f1 B q t;obtain⟨o,e,c,d⟩:=id j;exact⟨u,rfl,HH e c d rfl ⟨x,H,L,T,⟨rfl,λys R=>by rw[I.list_inj R l];exact r⟩,j,λb f=>(m b f).1⟩⟩
 done:=by intro X C F y J i N s O H E I m st n;subst C F y;obtain⟨W,l,r⟩:=n;obtain⟨Q,D,p,M⟩:=I.list l;obtain⟨A,f1,f2,B,q,t⟩:=m g (by simp);have hl:=D.length;exact wpAny_pyNext_list_end (I.ok.hd J) st p.isList (by simp;omega) λG Z=>⟨rfl,I.turned (λb o f e=>Z b o f e) A f1 B q t⟩
 self:=λ_ _ _ _ _ st h=>wpAny_pyIter_listiter st h
theorem Lm{P:bW}{w:cN}{K:aD}{U:av}(a g:aL):OG P w K U (Itt K a) [g] g (λi h=>h.IsTupleIter g a i) where
 mem:=by simp
 obj:=λi h st b f=>by
  have e:b=g:=by simpa using f
  subst e;obtain⟨o,e,c,d⟩:=st;exact⟨o,e,λv z=>by rw[d] at z;cases z⟩
 keep:=λi h G st k=>st.at λo e=>k g (by simp) o e
 item:=by intro X C F y J i N s O H E I m st n;subst C F y;obtain⟨W,x,l,r⟩:=n;obtain⟨Q,D,p,M⟩:=I.tuple l;obtain⟨u,Y,T⟩:=D.get r;obtain⟨A,f1,f2,B,q,t⟩:=m g (by simp);refine wpAny_pyNext_tuple_item st (p) (by simpa using Y) λG j S=>?_;have L:=I.turned (t':=s.toks) (λb o f e=>(S.2 b f).trans e) A f1 B q t;obtain⟨o,e,c,d⟩:=id j;exact⟨u,rfl,HH e c d rfl ⟨x,H,L,T,⟨rfl,λys R=>by rw[I.tuple_inj R l];exact r⟩,j,λb f=>(m b f).1⟩⟩
 done:=by intro X C F y J i N s O H E I m st n;subst C F y;obtain⟨W,l,r⟩:=n;obtain⟨Q,D,p,M⟩:=I.tuple l;obtain⟨A,f1,f2,B,q,t⟩:=m g (by simp);have hl:=D.length;exact wpAny_pyNext_tuple_end (I.ok.hd J) st (p) (by simp;omega) λG Z=>⟨rfl,I.turned (λb o f e=>Z b o f e) A f1 B q t⟩
 self:=λ_ _ _ _ _ st h=>wpAny_pyIter_tupleiter st h
theorem Ln{P:bW}{w:cN}{K:aD}{G:av}(a:aL)(lo:Int)(n:Nat):OG P w K G (AJ lo n) [a] a (λi h=>IsRangeIter h a (lo+(i:Nat)*1) ((n:Int)-(i:Nat)) 1) where
 mem:=by simp
 obj:=λi h st b c=>by
  have e:b=a:=by simpa using c
  subst e
  exact⟨_,st,λv z=>by
   have D:=z;cases D⟩
 keep:=λi h l st k=>k a (by simp) _ st
 item:=by intro X A B y r i u s x H E I f st g;subst A B y;obtain⟨p,f1,f2,q,j,m⟩:=f a (by simp);have W:=Walks.range (prog:=X.prog) (w:=X.w) (I.ok.hd r) a lo 1 n;refine W.item i s _ _ g st λv l tk F d kk=>?_;obtain⟨t,rfl⟩:=F;have C:Inv X u x H { s with heap:=l,toks:=tk }:=I.turned (λb o c e=>kk b o (by simpa using c) e) p f1 q j m;refine⟨_,rfl,HH d rfl rfl rfl ⟨.int (lo+i),H,C,⟨t,?_⟩,⟨rfl,rfl⟩,d,λb c=>(f b c).1⟩⟩;rw[gJ]
 done:=by intro X A B y r i u s x H E I f st g;obtain⟨p,f1,f2,q,j,m⟩:=f a (by simp);exact wpAny_pyNext_range_end (I.ok.hd r) st (by have:n<=i:=g;omega) λl J=>⟨rfl,I.turned (λb o c e=>J b o c e) p f1 q j m⟩
 self:=λ_ _ _ _ _ st h=>wpAny_pyIter_rangeiter st h
section
variable {X:Cx} {tg:av}
noncomputable def AK(K:aD)(tl:TE):TI:=λσ H R=>tl σ H λx H1=>∃a,x = .ref a/\(∃xs,SqL K H1 a xs)/\R (Itl K a) H1
noncomputable def Zbt(K:aD)(tl:TE):TI:=λσ H R=>tl σ H λx H1=>∃a,x = .ref a/\(∃xs,SqT K H1 a xs)/\R (Itt K a) H1
theorem Ek{l:av}{d:TE}(k:PE X l d):PI X tg l (AK X.K d):=by
 intro g s j H R I h;refine YS (k g s j H _ I h) λv s1 ⟨x,n,c,i,f⟩=>?_;obtain⟨a,e,⟨y,m⟩,q⟩:=f;subst e;cases i;obtain⟨u,w,p,t⟩:=c.list m;refine wpAny_pyIter_list p.isList ?_;refine⟨s1.heap.objs.size,[s1.heap.objs.size],_,_,n,rfl,c.kept λb o e=>aF _ e,J3 a _,⟨_,a0 _ rfl,rfl,rfl⟩,λb r=>?_,q⟩;have e:b=s1.heap.objs.size:=by simpa using r
 subst e;exact c.fpOk (aJ _) (c.hok.fresh (aJ _))
theorem C6{l:av}{d:TE}(k:PE X l d):PI X tg l (Zbt X.K d):=by
 intro g s j H R I h;refine YS (k g s j H _ I h) λv s1 ⟨x,n,c,i,f⟩=>?_;obtain⟨a,e,⟨y,m⟩,q⟩:=f;subst e;cases i;obtain⟨u,w,p,t⟩:=c.tuple m;refine jV (p) ?_;refine⟨s1.heap.objs.size,[s1.heap.objs.size],_,_,n,rfl,c.kept λb o e=>aF _ e,Lm a _,⟨_,a0 _ rfl,rfl,rfl⟩,λb r=>?_,q⟩;have e:b=s1.heap.objs.size:=by simpa using r
 subst e;exact c.fpOk (aJ _) (c.hok.fresh (aJ _))
theorem N7{d:List (aL×dN)}{f:St}{H:Hp}{s:aN}{R:It->Hp->Prop}{E:aH->aN->Prop}{lo a:Int}{t u v:Tok}{tk:Nat}(I:Inv X d f H s)(j : -(2^62)<=lo)(m:lo<2^62)(i : -(2^62)<=a)(g:a<2^62)
  (q:R (AJ lo (a-lo).toNat) H):bH (model X.prog X.w) X.A (pyIter (.ref s.heap.objs.size)) (PIE X d f tg R) E { s with heap:=s.heap.push { cls:=.type "range",data:=.fields #[.int lo t,.int a u,.int 1 v] },toks:=tk }:=by
 refine wpAny_pyIter_range (IsRange.new ..) (small_one j m i g) ?_;have c:Inv X d f H { s with heap:=s.heap.push { cls:=.type "range",data:=.fields #[.int lo t,.int a u,.int 1 v] },toks:=tk }:=I.kept λb o e=>aF _ e
 refine⟨(s.heap.push { cls:=.type "range",data:=.fields #[.int lo t,.int a u,.int 1 v] }).objs.size,[(s.heap.push { cls:=.type "range",data:=.fields #[.int lo t,.int a u,.int 1 v] }).objs.size],_,_,H,rfl,
  c.kept λb o e=>aF _ e,Ln _ lo (a-lo).toNat,?_,λb l=>?_,q⟩
 ·have h:lo+((0:Nat):Int)*1=lo:=by simp
  have k:(((a-lo).toNat:Nat):Int)-((0:Nat):Int)=jL.Range.rangeSize lo a 1:=by rw[rangeSize_one];split<;>omega
  rw[h,k];exact a0 _ rfl
 ·have e:b=(s.heap.push { cls:=.type "range",data:=.fields #[.int lo t,.int a u,.int 1 v] }).objs.size:=by simpa using l
  subst e;exact c.fpOk (aJ _) (c.hok.fresh (aJ _))
noncomputable def AL(ta:TA):TI:=λσ H R=>ta σ H λvs H1=>∃j:Int,vs=[.int j]/\-(2^62)<=j/\j<2^62/\R (AJ 0 j.toNat) H1
noncomputable def AM(ta:TA):TI:=λσ H R=>ta σ H λvs H1=>∃i j:Int,vs=[.int i,.int j]/\(-(2^62)<=i/\i<2^62/\-(2^62)<=j/\j<2^62)/\R (AJ i (j-i).toNat) H1
theorem J4{a:av}{c:TA}{p pos:el}(d:Gl X "range")(o:X.mg "range" = none)(n:PA X [a] c)(g:aY [a] X.env=[(aB,eval a X.env)]:=by rfl):PI X tg (.Call (.Name "range" p) [a] [] pos) (AL c):=by
 intro i s l H R I h;refine Call_ (UU I d o boot_range (cX (YS (n pos i s l H _ I h) λu s1 ⟨vs,v,f,k,b⟩=>?_) g rfl));obtain⟨j,e,b,m,q⟩:=b;subst e
 cases k with
 | cons r rr=>
  cases rr;obtain⟨t,rfl⟩:=r;exact call_range_1 (N7 f (by omega) (by omega) b m (by simpa using q))
theorem J5{a b:av}{f:TA}{p pos:el}(g:Gl X "range")(y:X.mg "range" = none)(x:PA X [a,b] f)(m:aY [a,b] X.env=[(aB,eval a X.env),(aB,eval b X.env)]:=by rfl)(c:aY [b] X.env=[(aB,eval b X.env)]:=by rfl) :
  PI X tg (.Call (.Name "range" p) [a,b] [] pos) (AM f):=by
 intro n s v H R I h;refine Call_ (UU I g y boot_range (cX (YS (x pos n s v H _ I h) λz s1 ⟨vs,A,k,o,d⟩=>?_) (by rw[m,c]) (by rw[c];rfl)));obtain⟨i,j,e,⟨d,w,l,u⟩,q⟩:=d;subst e
 cases o with
 | cons r rr=>
  cases rr with
  | cons r' rr=>
   cases rr;obtain⟨t,rfl⟩:=r;obtain⟨t',rfl⟩:=r';exact call_range_2 (N7 k d w l u q)
noncomputable def Zbu(wi:TI)(g:TG)(tb:TS):TS:=λD σ H=>wi σ H λJ H1=>∃W:Nat->Nat->St->Hp->Prop,(∃m,W 0 m σ H1)/\∀i m σ H,W i m σ H->
 (J.stop i H/\D.nx σ H)\/(J.go i H/\∃N:St->Hp->Prop,(∀σ' H',N σ' H'->∃m',m'<m/\W (i+1) m' σ' H')/\∀x H',J.yld i H x H'->g x σ H' λσ2 H2=>tb { D with nx:=N,ct:=N,bk:=D.nx } σ2 H2)
noncomputable def TX(fp:List aL)(h:b9):List (aL×dN):=fp.filterMap λb=>(h.get? b).map λo=>(b,o)
theorem Vi{a:List aL}{h:b9}{b:aL}{o:dN}(c:b∈a)(e:h.get? b=aA o):(b,o)∈TX a h:=jW.mpr ⟨b,c,by rw[e];rfl⟩
theorem J6{a:List aL}{h:b9}{p:aL×dN}(f:p∈TX a h):p.1∈a/\h.get? p.1=aA p.2:=by
 obtain⟨b,c,e⟩:=jW.mp f
 cases q:h.get? b with
 | none=>rw[q] at e;cases e
 | some o=>
  rw[q] at e;have d:=ay e;subst d;exact⟨c,q⟩
theorem Inv.pinned{a:List (aL×dN)}{f:St}{H:Hp}{s:aN}{c:List aL}(I:Inv X a f H s)(l:∀b∈c,Vh X a H b)(k:∀b∈c,∃o,s.heap.get? b=aA o/\∀v,o.data≠.cell v):Inv X (a++TX c s.heap) f H s:=
 I.pins_of λp i=>(bg.mp i).elim (λz=>I.pin p (af _ z)) λz=>by obtain⟨g,e⟩:=J6 z;obtain⟨j,f1,f2,_⟩:=l p.1 g;obtain⟨o,h,d⟩:=k p.1 g;rw[e] at h;cases h;exact⟨e,j,f1,f2,d⟩
theorem Inv.unpinned{a c:List (aL×dN)}{b:St}{H:Hp}{s:aN}(I:Inv X (a++c) b H s):Inv X a b H s:=I.pins_of λp d=>I.pin p (af _ (b6 _ d))
theorem C7{k:av}{w:List bb}{Z:TI}{g:TG}{tb:TS}{pos:el}(C:jJ (model X.prog X.w) X.A X.env X.xe)(hc:X.calm=aC)(hi:PI X tg k Z)(hg:PG X tg g)(j:PSs X w tb)
  (hs:∀x,b7 k X.env x=pure x:=by intro _;rfl):PS X (.For tg k w [] pos) (Zbu Z g tb):=by
 intro y s σ H D I h;refine wpAny_For (YS (hi y s σ H _ I h) λv s1 h1=>YS h1 λitv s2 h2=>?_) hs;obtain⟨it,B,tn,J,H2,e,I2,T,R,f2,W,⟨m0,w0⟩,turn⟩:=h2;subst e
 -- what stays aC of the iterator's objects through the loop
 have l:∀{H':Hp},(∀b∈B,H' b=none)->∀b∈B,Vh X y H' b:=λhn b j=>⟨hn b j,(f2 b j).2⟩;refine codeAny_forLoop_any (λn U=>∃i σ' H',Inv X y σ' H' U/\tn i U.heap/\(∀b∈B,H' b=none)/\W i n σ' H') ?_ m0 ⟨0,σ,H2,I2,R,λb j=>(f2 b j).1,w0⟩;rintro n Y ⟨i,p,L,I3,A,G,w3⟩;rcases turn i n p L w3 with⟨F,qn⟩ | ⟨go,N,hN,step⟩
 ·refine dZ C (YS (T.done X rfl rfl rfl hc i y Y p L X.xe I3 (l G) A F) λr s4 ⟨M,I4⟩=>?_);subst M;exact gR ⟨p,L,I4,qn⟩
 ·refine dZ C (YS (T.item X rfl rfl rfl hc i y Y p L X.xe I3 (l G) A go) λr s4 ⟨u,M,h4⟩=>?_);subst M;refine dZ C (YS h4 λ_ s5 ⟨x,H5,I5,r5,y5,z,O⟩=>?_);have P:=I5.pinned (l O) (T.obj _ _ z);refine dZ C (YS (hg _ s5 p H5 x u _ P r5 (step x H5 y5)) λ_ s6 ⟨S,H6,I6,q6⟩=>?_);refine dZ C (YS (j _ s6 S H6 _ I6 q6) λf Q t=>?_);have again:∀{a:St}{q:Hp},Inv X (y++TX B s5.heap) a q Q->N a q->∃m,m<n/\∃i σ' H',Inv X y σ' H' Q/\tn i Q.heap/\(∀b∈B,H' b=none)/\W i m σ' H':=λ{a q} c E=>by obtain⟨m',hm,w7⟩:=hN a q E;refine⟨m',hm,i+1,a,q,c.unpinned,T.keep _ _ _ z λb j o e=>(c.pin (b,o) (af _ (af _ (Vi j e)))).1,λb j=>?_,w7⟩;obtain⟨o,e,d⟩:=T.obj _ _ z b j;exact(c.pin (b,o) (af _ (af _ (Vi j e)))).2.1
  cases f with
  | next=>obtain⟨a,q,c,E⟩:=t;exact again c E
  | cont=>obtain⟨a,q,c,E⟩:=t;exact again c E
  | brk=>obtain⟨a,q,c,t⟩:=t;exact⟨a,q,c.unpinned,t⟩
  | ret v=>obtain⟨x7,a,q,c,r7,t⟩:=t;exact⟨x7,a,q,c.unpinned,r7,t⟩
end
abbrev R2:=V->V->Hp->VK->Prop
noncomputable def Tg(X:Cx)(f:aH->aH->Sem aH)(r:R2):Prop:=
 ∀(kf:List (aL×dN))(s:aN)(σ:St)(H:Hp)(x y:V)(v u:aH)(Q:VK),Inv X kf σ H s->RelV x v->RelV y u->r x y H Q->
  bH (model X.prog X.w) X.A (f v u) (EP X kf σ Q) X.xe s
noncomputable def UnR(X:Cx)(f:aH->Sem aH)(r:V->Hp->VK->Prop):Prop:=
 ∀(kf:List (aL×dN))(s:aN)(σ:St)(H:Hp)(x:V)(v:aH)(Q:VK),Inv X kf σ H s->RelV x v->r x H Q->
  bH (model X.prog X.w) X.A (f v) (EP X kf σ Q) X.xe s
noncomputable def XJ(X:Cx)(f:aH)(r:List V->Hp->VK->Prop):Prop:=
 ∀(kf:List (aL×dN))(s:aN)(σ:St)(H:Hp)(xs:List V)(us:List aH)(Q:VK),Inv X kf σ H s->Vals xs us->r xs H Q->
  bH (model X.prog X.w) X.A (call f us) (EP X kf σ Q) X.xe s
noncomputable def Zbw(X:Cx)(r:V->Hp->(Bool->Hp->Prop)->Prop):Prop:=
 ∀(kf:List (aL×dN))(s:aN)(σ:St)(H:Hp)(x:V)(v:aH)(Q:Bool->Hp->Prop),Inv X kf σ H s->RelV x v->r x H Q->
  bH (model X.prog X.w) X.A (truthy v) (TP X kf σ Q) X.xe s
noncomputable def Aq(r:R2)(ta tb:TE):TE:=λσ H Q=>ta σ H λx H1=>tb σ H1 λy H2=>r x y H2 Q
noncomputable def tUn(r:V->Hp->VK->Prop)(ta:TE):TE:=λσ H Q=>ta σ H λx H1=>r x H1 Q
noncomputable def rI(C:Int->Int->Prop)(g:Int->Int->V):R2:=λx y H Q=>∃i j,x = .int i/\y = .int j/\C i j/\Q (g i j) H
noncomputable def Ce(g:Int->Int->V):R2:=λx y H Q=>∃i j,x = .int i/\y = .int j/\Q (g i j) H
noncomputable def rU(g:Int->V):V->Hp->VK->Prop:=λx H Q=>∃i,x = .int i/\Q (g i) H
section
variable {X:Cx} {a b c:av} {ta tb tc:TE} {pos:el}
theorem C8(q:PE X a ta)(t:PE X b tb){i:List (aL×dN)}{s:aN}{d:St}{H:Hp}{R:V->V->Hp->Prop}(I:Inv X i d H s)
  (h:ta d H λx j=>tb d j λy c=>R x y c) {Q:aH->aN->Prop} {f:aH->aH->Sem aH}
  (r:∀v u s2 x y c,Inv X i d c s2->RelV x v->RelV y u->R x y c->bH (model X.prog X.w) X.A (f v u) Q X.xe s2) :
  bH (model X.prog X.w) X.A (eval a X.env) (λv g=>bH (model X.prog X.w) X.A (eval b X.env) (λu e=>bH (model X.prog X.w) X.A (f v u) Q X.xe e) X.xe g) X.xe s:=by
 refine YS (q i s d H _ I h) λv s1 ⟨x,j,k,m,l⟩=>?_;refine YS (t i s1 d j _ k l) λu s2 ⟨y,c,o,p,n⟩=>?_;exact r v u s2 x y c o m p n
theorem HI{op:Operator}{r:R2}(j:Tg X (dE op) r)(k:PE X a ta)(l:PE X b tb):PE X (.BinOp a op b pos) (Aq r ta tb):=by intro f s g H Q I h;exact wpAny_BinOp (C8 k l I h λv u s2 x y d i e c q=>j f s2 g d x y v u Q i e c q)
theorem AN{op:UnaryOp}{r:V->Hp->VK->Prop}(i:UnR X (unaryOp op) r)(j:PE X a ta):PE X (.UnaryOp op a pos) (tUn r ta):=by intro b s c H Q I h;exact UnaryOp_ (YS (j b s c H _ I h) λv s1 ⟨x,e,d,f,g⟩=>i b s1 c e x v Q d f g)
theorem C9{f:aH->aH->Sem aH}{C:Int->Int->Prop}{g:Int->Int->Int}
  (rule:∀(i j:Int)(t u:Tok)(s:aN)(Q:aH->aN->Prop)(E:aH->aN->Prop),C i j->Q (.int (g i j) s.toks) { s with toks:=s.toks+1 }->bH (model X.prog X.w) X.A (f (.int i t) (.int j u)) Q E s) :
  Tg X f (rI C λi j=>.int (g i j)):=by
 intro d s e H x y v u Q I b a h;obtain⟨i,j,rfl,rfl,c,q⟩:=h;obtain⟨t,rfl⟩:=b;obtain⟨t',rfl⟩:=a;exact rule i j t t' s _ _ c ⟨.int (g i j),H,I.tok _,⟨_,rfl⟩,q⟩
theorem AO{f:aH->aH->Sem aH}{g:Int->Int->Int}
  (rule:∀(i j:Int)(t u:Tok)(s:aN)(Q:aH->aN->Prop)(E:aH->aN->Prop),Q (.int (g i j) s.toks) { s with toks:=s.toks+1 }->bH (model X.prog X.w) X.A (f (.int i t) (.int j u)) Q E s) :
  Tg X f (Ce λi j=>.int (g i j)):=by
 intro c s d H x y v u Q I b a h;obtain⟨i,j,rfl,rfl,q⟩:=h;obtain⟨t,rfl⟩:=b;obtain⟨t',rfl⟩:=a;exact rule i j t t' s _ _ ⟨.int (g i j),H,I.tok _,⟨_,rfl⟩,q⟩
theorem AQ{f:aH->aH->Sem aH}{g:Int->Int->Bool}
  (rule:∀(i j:Int)(t u:Tok)(s:aN)(Q:aH->aN->Prop)(E:aH->aN->Prop),Q (.bool (g i j)) s->bH (model X.prog X.w) X.A (f (.int i t) (.int j u)) Q E s) :
  Tg X f (Ce λi j=>.bl (g i j)):=by
 intro c s d H x y v u Q I b a h;obtain⟨i,j,rfl,rfl,q⟩:=h;obtain⟨t,rfl⟩:=b;obtain⟨t',rfl⟩:=a;exact rule i j t t' s _ _ ⟨.bl (g i j),H,I,rfl,q⟩
noncomputable def Lo(i j:Int):Prop:=0<j/\j<1073741824
noncomputable def Cf(i j:Int):Prop:=j≠0/\j.natAbs<1073741824
noncomputable def N8(i j:Int):Prop:=0<=j/\j<=1000000/\i.natAbs<2^64
noncomputable def CMul(i j:Int):Prop:=(-(2^64)<i/\i<2^64)\/(-(2^64)<j/\j<2^64)
theorem CMul.ok{i j:Int}(h:CMul i j):IntMulOk i j:=by
 rcases h with⟨a,b⟩ | ⟨a,b⟩
 ·exact .of_left (intBits_le_64 a b)
 ·exact .of_right (intBits_le_64 a b)
theorem Ba:Tg X (dE .Add) (Ce λi j=>.int (i+j)):=AO λ_ _ _ _ _ _ _ q=>add_int q
theorem Bc:Tg X (dE .Sub) (Ce λi j=>.int (i-j)):=AO λ_ _ _ _ _ _ _ q=>sub_int q
theorem Be:Tg X (dE .Mult) (rI CMul λi j=>.int (i*j)):=C9 λ_ _ _ _ _ _ _ a q=>mul_int q a.ok
theorem El:Tg X (dE .FloorDiv) (rI Lo λi j=>.int (i/j)):=C9 λi j _ _ _ _ _ a q=>by have b:=a.1;have c:=a.2;exact ja (by omega) (by rw[dQ i (by omega)];exact q) (.inl (PyProof.noPylong_small (by omega)))
theorem Bf:Tg X (dE .Mod) (rI (λ_ j=>0<j) λi j=>.int (i%j)):=C9 λi j _ _ _ _ _ a q=>by exact mod_int' (by omega) (by rw[Int.fmod_eq_emod_of_nonneg i (by omega)];exact q)
theorem Em:Tg X (dE .Mod) (rI (λ_ j=>j≠0) λi j=>.int (i.fmod j)):=C9 λ_ _ _ _ _ _ _ a q=>mod_int' a q
theorem Bg:Tg X (dE .Pow) (rI N8 λi j=>.int (i^j.toNat)):=C9 λ_ _ _ _ _ _ _ a q=>pow_int_small a.1 a.2.1 a.2.2 q
theorem unI{f:aH->Sem aH}{g:Int->Int}
  (rule:∀(i:Int)(t:Tok)(s:aN)(Q:aH->aN->Prop)(E:aH->aN->Prop),Q (.int (g i) s.toks) { s with toks:=s.toks+1 }->bH (model X.prog X.w) X.A (f (.int i t)) Q E s) :
  UnR X f (rU λi=>.int (g i)):=by
 intro b s c H x v Q I a h;obtain⟨i,rfl,q⟩:=h;obtain⟨t,rfl⟩:=a;exact rule i t s _ _ ⟨.int (g i),H,I.tok _,⟨_,rfl⟩,q⟩
theorem Bh:UnR X (unaryOp .USub) (rU λi=>.int (-i)):=unI λ_ _ _ _ _ q=>neg_int q
end
section
variable {X:Cx} {a b c:av} {ta tb tc:TE} {pos:el}
theorem AS:Tg X (eT .Lt) (Ce λi j=>.bl (decide (i<j))):=AQ λ_ _ _ _ _ _ _ q=>lt_int q
theorem AU:Tg X (eT .Gt) (Ce λi j=>.bl (decide (j<i))):=AQ λ_ _ _ _ _ _ _ q=>gt_int q
theorem TY(b:av){op:kR}(h:op≠.In:=by decide)(c:op≠.NotIn:=by decide):cY op b=aB:=by
 have a:(op==kR.In)=aB:=by cases op<;>first | rfl | exact absurd rfl h
 have d:(op==kR.NotIn)=aB:=by cases op<;>first | rfl | exact absurd rfl c
 cases b<;>simp[cY,a,d]
theorem En{op:kR}{r:R2}(j:Tg X (eT op) r)(k:PE X a ta)(m:PE X b tb)(l:cY op b=aB):PE X (.Compare a [op] [b] pos) (Aq r ta tb):=by intro f s g H Q I h;exact wpAny_Compare1 (C8 k m I h λv u s2 x y d i e c q=>j f s2 g d x y v u Q i e c q) l
noncomputable def K7(t:TE):TT:=λσ H Q=>t σ H λx H'=>∃k,x = .bl k/\Q k H'
theorem Eo{op:kR}{r:R2}(t:Tg X (eT op) r)(w:PE X a ta)(E:PE X b tb)(A:cY op b=aB):PT X (.Compare a [op] [b] pos) (K7 (Aq r ta tb)):=by
 intro d s f H Q I h
 refine i8 (YS (w d s f H _ I h) λv s1 ⟨x,D,g,n,j⟩=>YS (E d s1 f D _ g j) λu s2 ⟨y,m,p,q,o⟩=>
  YS (t d s2 f m x y v u _ p n q o) λc F ⟨z,B,l,C,k,e,i⟩=>?_) A
 subst e;cases C;exact cg ⟨B,l,i⟩
noncomputable def Zbx(K:aD)(x:V)(H:Hp)(k:Bool):Prop:=
 match x with
 | .non=>k=aB
 | .bl b=>k=b
 | .int i=>k=(i != 0)
 | .str y=>y.length<=sizeLine/\k=((y.length:Int) != 0)
 | .byt y=>y.size<=sizeLine/\k=((y.size:Int) != 0)
 | .ref p=>(∃xs,SqL K H p xs/\k = !xs.isEmpty)\/(∃xs,SqT K H p xs/\k = !xs.isEmpty)\/∃kg,H p=aA (.dK kg)/\k = !kg.isEmpty
 | _=>False
theorem Lp{a:Type}{b:List (a×V)}{vs:List (a×aH)}(r:KV b vs):(!vs.isEmpty) = !b.isEmpty:=by cases r<;>rfl
theorem Qb{a:List V}{b:List aH}(r:Vals a b):(!b.toArray.isEmpty) = !a.isEmpty:=by cases r<;>simp
theorem OH:(sizeLine:Nat)<2^63:=by rw[ig];decide
theorem tru_ok:Zbw X (λx H Q=>∃k,Zbx X.K x H k/\Q k H):=by
 intro z s A H x v Q I d h;obtain⟨k,e,q⟩:=h;have w:=ig
 cases x with
 | non=>
  cases d;have a:=e;subst a;exact truthy_none ⟨H,I,q⟩
 | bl b=>
  cases d;have a:=e;subst a;exact cg ⟨H,I,q⟩
 | int i=>
  obtain⟨t,rfl⟩:=d;have a:=e;subst a;exact PySem.P.truthy_int ⟨H,I,q⟩
 | str y=>
  obtain⟨t,rfl⟩:=d;obtain⟨n,a⟩:=e;subst a;exact PySem.P.truthy_str (by omega) ⟨H,I.tok _,q⟩
 | byt y=>
  obtain⟨t,rfl⟩:=d;obtain⟨n,a⟩:=e;subst a;exact PySem.W.truthy_bytes (by omega) ⟨H,I.tok _,q⟩
 | ref p=>
  cases d;have a:=e;rcases a with⟨o,f,a⟩ | ⟨o,f,a⟩ | ⟨B,f,a⟩
  ·subst a;obtain⟨l,r,g,j⟩:=I.list f;have c:=r.length;exact wpAny_truthy_list g.isList (by simp only[aP];omega) ⟨H,I.tok _,by rw[Qb r];exact q⟩
  ·subst a;obtain⟨l,r,g,j⟩:=I.tuple f;have c:=r.length;exact truthy_tuple g (by simp only[aP];omega) ⟨H,I.tok _,by rw[Qb r];exact q⟩
  ·subst a;obtain⟨j,u,vs,r,m⟩:=I.hok p _ f;have c:=Paired.length r;exact wpAny_truthy_dict u m (by omega) ⟨H,I.tok _,by rw[Lp r];exact q⟩
 | _=>exact(e).elim
theorem Ti{x:V}{a:List aH}(r:Vals [x] a):∃u,a=[u]/\RelV x u:=by
 cases r with
 | cons r1 r2=>cases r2;exact⟨_,rfl,r1⟩
theorem Cg{x y:V}{a:List aH}(r:Vals [x,y] a):∃u w',a=[u,w']/\RelV x u/\RelV y w':=by
 cases r with
 | cons r1 r2=>
  cases r2 with
  | cons r3 r4=>cases r4;exact⟨_,_,rfl,r1,r3⟩
theorem N9:XJ X (.builtin "abs") (λa H Q=>∃i,a=[.int i]/\Q (.int (if i<0 then -i else i)) H):=by intro b s c H a d Q I r h;obtain⟨i,rfl,q⟩:=h;obtain⟨u,rfl,t,rfl⟩:=Ti r;exact call_abs_int λu tk=>⟨.int (if i<0 then -i else i),H,I.tok _,⟨_,rfl⟩,q⟩
theorem J7(c:X.calm=aC):XJ X (.builtin "min") (λb H Q=>∃i j,b=[.int i,.int j]/\Q (.int (if j<i then j else i)) H):=by
 intro d s e H b g Q I r h;obtain⟨i,j,rfl,q⟩:=h;obtain⟨u,l,rfl,⟨t,rfl⟩,⟨t',rfl⟩⟩:=Cg r;refine min_two_ints (I.ok.hd c) λf tk k=>⟨_,H,I.kept k,?_,q⟩;by_cases a:j<i
 ·rw[kr a,kr a];exact⟨_,rfl⟩
 ·rw[ku a,ku a];exact⟨_,rfl⟩
noncomputable def AV(K:aD)(x:V)(H:Hp)(n:Nat):Prop:=
 match x with
 | .str y=>y.length<=sizeLine/\n=y.length
 | .byt y=>y.size<=sizeLine/\n=y.size
 | .ref p=>(∃xs,SqL K H p xs/\n=xs.length)\/∃xs,SqT K H p xs/\n=xs.length
 | _=>False
theorem HJ:XJ X (.builtin "len") (λc H Q=>∃x n,c=[x]/\AV X.K x H n/\Q (.int n) H):=by
 intro o s v H c w Q I r h;obtain⟨x,n,rfl,e,q⟩:=h;obtain⟨u,rfl,d⟩:=Ti r;have m:=ig
 cases x with
 | str y=>
  obtain⟨t,rfl⟩:=d;obtain⟨l,b⟩:=e;subst b;exact len_str (by omega) ⟨.int _,H,I.tok _,⟨_,rfl⟩,q⟩
 | byt y=>
  obtain⟨t,rfl⟩:=d;obtain⟨l,b⟩:=e;subst b;exact PySem.W.len_bytes (by omega) ⟨.int _,H,I.tok _,⟨_,rfl⟩,q⟩
 | ref p=>
  cases d;have b:=e;rcases b with⟨c,f,b⟩ | ⟨c,f,b⟩
  ·subst b;obtain⟨k,g,i,j⟩:=I.list f;have a:=g.length;exact Calls.call_len_list i.isList (by simp only[aP];omega) ⟨.int c.length,H,I.tok _,⟨_,by simp only[aP];rw[a]⟩,q⟩
  ·subst b;obtain⟨k,g,i,j⟩:=I.tuple f;have a:=g.length;exact len_tuple i (by simp only[aP];omega) ⟨.int c.length,H,I.tok _,⟨_,by simp only[aP];rw[a]⟩,q⟩
 | _=>exact(e).elim
end
structure ObjM(h:b9)(x dx C:aL)(mA:ak->Option aH):Prop where
 obj:h.get? x=aA (iX C dx)
 ns:h.Ns1 dx mA
 ne:dx≠x
theorem J8{h:b9}{f:aL}{d:ak->Option aH}(n:h.Ns1 f d):∃od,h.get? f=aA od/\∀b,ij b od=aA (d b):=by
 obtain⟨o,g,ep,l,j,p,_,m⟩:=n;refine⟨o,l,λb=>?_⟩;have e:=m b;unfold nsFind findBy at e;rw[<-Array.find?_toList] at e;unfold ij;rw[j]
 dsimp only
 split
 ·rename_i y q;rw[q] at e;exact congrArg aA e
 ·rename_i q;rw[q] at e;have a:g.toList.any (·.refKey)=aB:=by rw[fT];intro y k;obtain⟨z,t,c⟩:=p y (Array.mem_toList_iff.mp k);simp[DictEntry.refKey,c]
  have i:¬g.toList.any (·.refKey)=aC:=by rw[a];exact bT
  rw[ku i];exact congrArg aA e
theorem ObjM.look{h:b9}{x c C:aL}{b:ak->Option aH}(I:ObjM h x c C b):∃a,PySem.W.InstAt h x (iX C c) C (aA a)/\∀name,ij name a=aA (b name):=
 let⟨a,e,d⟩:=J8 I.ns
 ⟨a,⟨I.obj,rfl,rfl,e⟩,d⟩
section
variable {P:bW} {w:cN} {H H':Hp} {h h':b9} {a C dx:aL} {fs fs':List (ak×V)}
theorem Ep(c:HOk P w H h)(e:H a=aA (.ins C dx fs)):∃b,ObjM h a dx C b/\(∀f,CO (fs.lookup f) (b f))/\k5 b (fs.map (·.1))/\fs.length<=1000/\H dx=aA (.own a):=by obtain⟨d,z,ne,g,b,n,r,q⟩:=(c a _ e);exact⟨b,⟨g,n,ne⟩,r,q,z,d⟩
end
structure Cls(K:aD)(C:aL):Prop where
 pg:jw K C ak.empty=aC
 hd:PySem.W.hasDictIn K C=aC
 po:PySem.W.plainOver K C=aC
 sa:kS K (.ref C) "__setattr__" = aA (aA (.builtin "object.__setattr__"))
theorem Cls.get{K:aD}{C:aL}(c:Cls K C)(f:ak):jw K C f=aC:=c.pg
section
variable {X:Cx} {kf:List (aL×dN)} {σ:St} {H:Hp} {s:aN} {A:cH} {E:aH->aN->Prop} {Q:aH->aN->Prop} {c:aH} {b:Bool}
inductive TyOf(K:aD)(H:Hp):V->aH->Prop where
 | non:TyOf K H .non (.type "NoneType")
 | bl (x:Bool):TyOf K H (.bl x) (.type "bool")
 | int (i:Int):TyOf K H (.int i) (.type "int")
 | str (x:ak):TyOf K H (.str x) (.type "str")
 | flt (x:UInt64):TyOf K H (.flt x) (.type "float")
 | lst {a:aL} {xs:List V} (e:H a=aA (.lst xs)):TyOf K H (.ref a) (.type "list")
 | frz {a:aL} {o:dN} {xs:List V} (e:H a=aA (.frz o (.lst xs))):TyOf K H (.ref a) (.type "list")
 | tup {a:aL} {xs:List V} (e:H a=aA (.tup xs)):TyOf K H (.ref a) (.type "tuple")
 | dK {a:aL} {kg:List (Pp×V)} (e:H a=aA (.dK kg)):TyOf K H (.ref a) (.type "dict")
 | dT {a:aL} {kg:List (List Pp×V)} (e:H a=aA (.dT kg)):TyOf K H (.ref a) (.type "dict")
 | ins {a C dx:aL} {fs:List (ak×V)} (e:H a=aA (.ins C dx fs)) (cl:Cls K C) (ha:kS K (.ref C) "__class__" = aA (aA (.builtin "object.__class__")))
   (hn:PySem.W.specialIn K (.builtin "object.__class__") "__get__" = aA (aA (.builtin "getset_descriptor.__get__"))) (htk:PySem.W.takesIn K (.builtin "object.__class__")=aA aC)
   (hm:PySem.W.mroIn K C (.type "object")=aA aC):TyOf K H (.ref a) (.ref C)
theorem J9{x:V}{u t:aH}(I:Inv X kf σ H s)(d:RelV x u)(ty:TyOf X.K H x t)(e:cj X.K t c=aA b)(h:∀tk,Q (.bool b) { s with toks:=tk }) :
  bH (model X.prog X.w) A (call (.builtin "isinstance") [u,c]) Q E s:=by
 cases ty with
 | non=>cases (d);exact cM PySem.W.kitx_none I.kIn cz e (λz=>nomatch z) h
 | bl y=>cases (d);exact cM PySem.W.kitx_bool I.kIn cz e (λz=>nomatch z) h
 | int i=>obtain⟨t,q⟩:=(d);cases q;exact cM PySem.W.kitx_int I.kIn cz e (λz=>nomatch z) h
 | str y=>obtain⟨t,q⟩:=(d);cases q;exact cM PySem.W.kitx_str I.kIn cz e (λz=>nomatch z) h
 | flt y=>obtain⟨t,q⟩:=(d);cases q;exact cM PySem.W.kitx_float I.kIn cz e (λz=>nomatch z) h
 | @lst a j ea=>
  cases (d);obtain⟨_,_,n,_,f⟩:=(I.hok a _ ea);exact cM jb I.kIn ⟨_,f,rfl⟩ e (λz=>nomatch z) h
 | @frz a ob j ea=>
  cases (d);obtain⟨_,_,_,n,_,f⟩:=(I.hok a _ ea);exact cM jb I.kIn ⟨_,f,rfl⟩ e (λz=>nomatch z) h
 | @tup a j ea=>
  cases (d);obtain⟨_,_,_,p⟩:=(I.hok a _ ea);obtain⟨o,f,g,_⟩:=p;exact cM PySem.W.kitx_tuple I.kIn ⟨o,f,g⟩ e (λz=>nomatch z) h
 | @dK a kg ea=>
  cases (d);obtain⟨_,_,vs,_,p⟩:=(I.hok a _ ea);obtain⟨o,k,ep,f,g,_⟩:=p;exact cM jc I.kIn ⟨o,f,g.1⟩ e (λz=>nomatch z) h
 | @dT a kg ea=>
  cases (d);obtain⟨_,_,j,_,o,k,ep,f,g,_⟩:=(I.hok a _ ea);exact cM jc I.kIn ⟨o,f,g.1⟩ e (λz=>nomatch z) h
 | @ins a C dx fs ea cl ha hn htk hm=>
  cases (d);obtain⟨l,O,_⟩:=Ep I.hok ea;obtain⟨m,J,_⟩:=O.look;exact cM (PySem.W.kitx_own (cl.get _) cl.hd ha hn htk hm) I.kIn J e (λz=>nomatch z) h
end
structure Room(k:Nat)(A:cH):Prop where
 hd:A.handled=none
 dp:A.depth+3*k+5<ik
 un:A.units+16*k+200<fU
 gd:A.guards=aA []
theorem Room.mono{j k:Nat}{A:cH}(r:Room k A)(h:j<=k):Room j A:=⟨r.hd,by have:=r.dp;omega,by have:=r.un;omega,r.gd⟩
theorem Room.deeper{k:Nat}{A:cH}(r:Room (k+1) A)(env:ju):Room k (A.deeper env):=
 ⟨r.hd,by have:=r.dp;show A.depth+1+3*k+5<_;omega,by have:=r.un;show A.units+3+16*k+200<_;omega,r.gd⟩
theorem Room.depth{k:Nat}{A:cH}(r:Room k A):A.depth<ik:=by have:=r.dp;omega
theorem Room.units{k:Nat}{A:cH}(r:Room k A):A.units+64<fU:=by have:=r.un;omega
noncomputable def Er:TA:=λ_ H Q=>Q [] H
noncomputable def Qc(ta:TE)(tr:TA):TA:=λσ H Q=>ta σ H λx H1=>tr σ H1 λxs H2=>Q (x::xs) H2
section
variable {X:Cx} {e:av} {es:List av} {te:TE} {t:TA} {pos:el}
theorem UW:PA X [] Er:=λ_ _ _ _ H Q I h=>Calls.spliced_nil ⟨[],H,I,.nil,h⟩
theorem Y7(n:PE X e te)(g:PA X es t)(i:aY (e::es) X.env=(aB,eval e X.env)::aY es X.env:=by rfl):PA X (e::es) (Qc te t):=by intro pos a s b H Q I h;rw[i];refine Calls.spliced_cons (YS (n a s b H _ I h) λu s1 ⟨x,o,c,j,d⟩=>?_);exact YS (g pos a s1 b o _ c d) λq s2 ⟨p,f,l,m,k⟩=>⟨x::p,f,l,.cons j m,k⟩
noncomputable def AW(t:TA):TE:=λσ H Q=>t σ H λxs H1=>xs.length<=sizeLine/\∀p,H1 p=none->Q (.ref p) (upd H1 p (.tup xs))
noncomputable def Zby(t:TA):TE:=λσ H Q=>t σ H λxs H1=>xs.length<=sizeLine/\∀p,H1 p=none->Q (.ref p) (upd H1 p (.lst xs))
theorem Lq{x1}(h:PA X es t):PE X (.Tuple es x1 pos) (AW t):=by intro c s d H Q I g;refine wpAny_Tuple_spliced (YS (h pos c s d H _ I g) λf s1 ⟨k,i,a,r,z,q⟩=>⟨by rw[<-r.length];exact z,?_⟩);have j:=a.hok.fresh (aJ _);refine⟨.ref s1.heap.objs.size,upd i s1.heap.objs.size (.tup k),a.laid (λb u e=>aF _ e) (aJ _) ?_,rfl,q _ j⟩;exact⟨⟨z,λo e=>R9 e⟩,f,r,⟨_,a0 _ rfl,rfl,_,rfl⟩⟩
theorem HK(h:PA X es t):PE X (.List es pos) (Zby t):=by intro c s d H Q I g;refine wpAny_List_spliced (YS (h pos c s d H _ I g) λf s1 ⟨k,i,a,r,z,q⟩=>⟨by rw[<-r.length];exact z,?_⟩);have j:=a.hok.fresh (aJ _);refine⟨.ref s1.heap.objs.size,upd i s1.heap.objs.size (.lst k),a.laid (λb u e=>aF _ e) (aJ _) ?_,rfl,q _ j⟩;exact⟨z,f,0,r,a0 _ rfl⟩
end
abbrev Sp:=List V->Hp->VK->XK->Prop
abbrev Es:=List ju->Hp->aN->XK->aH->aN->Prop
structure Et(P:bW)(w:cN)(K:aD)(mg:ak->Option aH)(base:b9)(A:cH)(outer:List ju)(s:aN)(H:Hp):Prop where
 frames:A.frames=aA outer
 mod:Mod K mg base
 bs:∀b o,base.get? b=aA o->s.heap.get? b=aA o/\H b=none
 bsz:base.objs.size<=s.heap.objs.size
 funs:s.heap.FunFrames base outer
 frf:∀b∈Lh outer,H b=none
 tab:TabsH K mg base H
 hok:HOk P w H s.heap
 bare:iM s.gens
noncomputable def CE(outer:List ju)(P:bW)(w:cN)(H:Hp)(s:aN)(Q:VK)(u:aH)(s':aN):Prop:=
 ∃v H',s'.os=s.os/\iM s'.gens/\Un (Lh outer) [] H H' s.heap s'.heap/\HOk P w H' s'.heap/\RelV v u/\Q v H'
noncomputable def CR(CX:Es)(outer:List ju)(P:bW)(w:cN)(H:Hp)(s:aN)(Q:VK)(E:XK)(r:k8)(s':aN):Prop:=
 match r with
 | .ok (.ret u)=>CE outer P w H s Q u s'
 | .ok _=>False
 | .error e=>CX outer H s E e s'
structure Ru(P:bW)(w:cN)(K:aD)(mg:ak->Option aH)(base:b9)(CX:Es)(k:Nat)(f:aL)(fd:du)(ps:List ak)(sp:Sp):Prop where
 len:∀vs H Q E,sp vs H Q E->vs.length=ps.length
 run:∀(A:cH)(outer:List ju)(s:aN)(H:Hp)(args:Args)(us:List aH)(vs:List V)(Q:VK)(E:XK),Room k A->Et P w K mg base A outer s H->jd s fd args (ps.zip us)->Vals vs us->sp vs H Q E->
  iO (model P w) A (.call (.ref f) args) (CR CX outer P w H s Q E) s
section
variable {X:Cx} {kf:List (aL×dN)} {σ:St} {H:Hp} {s s':aN}
theorem Inv.env0(I:Inv X kf σ H s):Et X.prog X.w X.K X.mg X.base X.A X.stack s H:=
 ⟨I.ok.frames,I.ok.mod,I.bs,aQ I.ok.bsz I.sz,I.stack,I.stkFree,I.ok.tab.un I.base,I.hok,I.bare⟩
theorem Inv.after{Q:VK}{u:aH}(I:Inv X kf σ H s)(h:CE X.stack X.prog X.w H s Q u s'):EP X kf σ Q u s':=by obtain⟨v,e,os,a,un,c,r,q⟩:=h;obtain⟨i,g,d,t,f⟩:=s';obtain rfl:=os;exact⟨v,e,I.call un c a (λb z=>absurd z (by simp)),r,q⟩
end
noncomputable def HL(sp:Sp)(dvs:List V)(E:XK)(t:TA):TE:=λσ H Q=>t σ H λvs H1=>sp (vs++dvs) H1 Q E
noncomputable def Binds(K:aD)(fd:du)(ps:List ak)(ds:List aH):Prop:=
 ∀(s:aN)(us:List aH),K.In s.heap->(us++ds).length=ps.length->jd s fd ⟨us,[]⟩ (ps.zip (us++ds))
theorem Binds.all{K:aD}{c:du}{b:List ak}(h:∀a:List aH,a.length=b.length->iG c ⟨a,[]⟩=pure (b.zip a)):Binds K c b []:=λs a _ d=>by rw[dI] at d ⊢;exact .of_eq (h a d)
noncomputable def Lr(CX:Es)(X:Cx)(E:XK):Prop:=∀(kf:List (aL×dN))(σ:St)(H:Hp)(s:aN)(e:aH)(s':aN),Inv X kf σ H s->CX X.stack H s E e s'->X.xe e s'
section
variable {X:Cx} {CX:Es} {k:Nat} {f C:aL} {fd:du} {ps:List ak} {sp:Sp} {dvs:List V} {ds:List aH} {E:XK} {x m:ak} {p pos apos:el} {e o:av} {es:List av} {ta:TE} {t:TA}
theorem Bi{c:List (aL×dN)}{d:St}{H:Hp}{s:aN}{Q:VK}{a:List aH}{vs:List V}(F:Ru X.prog X.w X.K X.mg X.base CX k f fd ps sp)(i:Room k X.A)(o:Binds X.K fd ps ds)(l:Vals dvs ds)(m:Lr CX X E)
  (I:Inv X c d H s) (r:Vals vs a) (h:sp (vs++dvs) H Q E):bH (model X.prog X.w) X.A (call (.ref f) a) (EP X c d Q) X.xe s:=by
 have g:=r.append l;have n:(a++ds).length=ps.length:=by rw[<-g.length];exact F.len _ _ _ _ h
 refine wpAny_call (je (F.run X.A X.stack s H ⟨a,[]⟩ (a++ds) (vs++dvs) Q E i I.env0 (o s a I.kIn n) g h) λr j b=>?_)
 cases r with
 | error e=>exact m c d H s e j I b
 | ok fl=>
  cases fl with
  | ret u=>exact I.after b
  | next=>exact eI b
  | brk=>exact eI b
  | cont=>exact eI b
theorem Eu(F:Ru X.prog X.w X.K X.mg X.base CX k f fd ps sp)(i:Room k X.A)(d:Gl X x)(u:X.mg x=aA (.ref f))(v:fV X.K (.ref f)=aC)(w:Binds X.K fd ps ds)(j:Vals dvs ds)(l:Lr CX X E)
  (o:PA X (e::es) t) (a:(x==("__debug__" : ak))=aB:=by decide) (g:aY (e::es) X.env=(aB,eval e X.env)::aY es X.env:=by rfl) (b:(eu pos (aY es X.env)).any (·.1)=aB:=by rfl) :
  PE X (.Call (.Name x p) (e::es) [] pos) (HL sp dvs E t):=by
 intro m s n H Q I h;refine gh (Ef I d u ?_ a);refine PySem.W.callWith_K I.ok.mod.kin v (YS (o pos m s n H _ I h) λy s1 ⟨vs,z,c,r,q⟩=>⟨c.kIn,?_⟩) g b;exact Bi F i w j l c r q
end
structure Zm(N P:List ak)(sc:dP):Prop where
 kind:sc.kind = .function
 co:sc.isCoroutine=aB
 gen:sc.isGenerator=aB
 nd:N.Nodup
 pre:N.take P.length=P
 par:∀x∈P,sc.names.lookup x=aA .local\/sc.names.lookup x=aA .cell
 nofree:∀y∈sc.names,y.2≠.free
theorem PU{kindOf:ak->Option dR}{x:ak}:∀{binds:List (ak×aH)}{m:ak->Option aH},(∀v,(x,v)∉binds)->kT kindOf binds m x=m x
 | [],_,_=>rfl
 | (n,v)::r,m,h=>by
  unfold kT;rw[PU λw a=>h w (aT _ a)];split
  ·have:x≠n:=by rintro rfl;exact h v aZ
   simp[this]
  ·rfl
theorem PX{kindOf:ak->Option dR}{x:ak}:∀{binds:List (ak×aH)}{m:ak->Option aH},(∀v,(x,v)∉binds)->kU kindOf binds m x=m x
 | [],_,_=>rfl
 | (n,v)::r,m,h=>by
  unfold kU;rw[PX λw a=>h w (aT _ a)];split
  ·rfl
  ·have:x≠n:=by rintro rfl;exact h v aZ
   simp[this]
theorem PY{kindOf:ak->Option dR}{x:ak}{v:aH}:∀{P:List ak}{vs:List aH}{i:Nat}{m:ak->Option aH},P.Nodup->P[i]?=aA x->vs[i]?=aA v->kindOf x=aA .local->
  kT kindOf (P.zip vs) m x=aA v
 | [],_,_,_,_,h,_,_=>by simp at h
 | _::_,[],_,_,_,_,h,_=>by simp at h
 | p::P,w::vs,0,m,nd,h1,h2,hk=>by simp at h1 h2;subst h1;subst h2;show kT kindOf ((p,w)::P.zip vs) m p=_;unfold kT;rw[PU λv a=>(bN.mp nd).1 (iZ a).1,kr hk];simp
 | p::P,w::vs,i+1,m,nd,h1,h2,hk=>by show kT kindOf ((p,w)::P.zip vs) m x=_;unfold kT;exact PY (i:=i) (bN.mp nd).2 (by simpa using h1) (by simpa using h2) hk
theorem PZ{kindOf:ak->Option dR}{x:ak}{v:aH}:∀{P:List ak}{vs:List aH}{i:Nat}{m:ak->Option aH},P.Nodup->P[i]?=aA x->vs[i]?=aA v->kindOf x≠aA .local->
  kU kindOf (P.zip vs) m x=aA v
 | [],_,_,_,_,h,_,_=>by simp at h
 | _::_,[],_,_,_,_,h,_=>by simp at h
 | p::P,w::vs,0,m,nd,h1,h2,hk=>by simp at h1 h2;subst h1;subst h2;show kU kindOf ((p,w)::P.zip vs) m p=_;unfold kU;rw[PX λv a=>(bN.mp nd).1 (iZ a).1,ku hk];simp
 | p::P,w::vs,i+1,m,nd,h1,h2,hk=>by show kU kindOf ((p,w)::P.zip vs) m x=_;unfold kU;exact PZ (i:=i) (bN.mp nd).2 (by simpa using h1) (by simpa using h2) hk
noncomputable def start(N:List ak)(vs:List V):St:=vs.map aA++aX (N.length-vs.length) none
noncomputable def Qd(CX:Es)(P:bW)(w:cN)(K:aD)(mg:ak->Option aH)(base:b9)(N:List ak)(qual:ak)(scope:dP)(f:aL)(cd:aH)(A:cH)(outer:List ju)(s:aN)(H:Hp)(E:XK):Cx where
 prog:=P
 w:=w
 K:=K
 mg:=mg
 base:=base
 A:=A.deeper (gE qual scope s.heap.objs.size f cd)
 N:=N
 s₀:=s
 H₀:=H
 env:=gE qual scope s.heap.objs.size f cd
 outer:=outer
 stack:=gE qual scope s.heap.objs.size f cd::outer
 ex:=[]
 calm:=aC
 fn:=λ_=>aC
 pn:=[]
 xe:=λe s'=>bH (model P w) (A.deeper (gE qual scope s.heap.objs.size f cd)) (leaving (gE qual scope s.heap.objs.size f cd) e) (λ_ s''=>CX outer H s E e s'') (λe' s''=>CX outer H s E e' s'') s'
theorem Ma{a:dP}{n:Nat}{x:ak}(h:a.names.lookup x=aA .cell):∃c,(g8 n a.names []).lookup x=aA c:=by have q:=iP a.names n [] (.inl h);exact bq.mp q
theorem Ew{a b c:ak}(h:a++c=b++c):a=b:=by
 obtain⟨a⟩:=a;obtain⟨b⟩:=b;have f:a++c.cps=b++c.cps:=congrArg ak.cps h;have d:a.toList++c.cps.toList=b.toList++c.cps.toList:=by rw[<-jM,<-jM,f]
 have e:=Array.toList_inj.mp (List.append_cancel_right d);rw[e]
theorem Ia{Q:Es}{P:bW}{w:cN}{K:aD}{I:ak->Option aH}{base:b9}{N n:List ak}{g:ak}{d:dP}{f:aL}{B:aH}{A:cH}{j:List ju}{s s1:aN}{H:Hp}{E:XK}{L:List aH}{vs:List V}
  (J:cZ K B g=aC) (S:Zm N n d) (R:A.handled=none) (m:Et P w K I base A j s H) (Z:vs.length=n.length) (r:Vals vs L)
  (x:InCallC s s.heap.objs.size (kT (gE g d s.heap.objs.size f B).kindOf (n.zip L) λ_=>none) (g8 (s.heap.objs.size+1) d.names []) (kU (gE g d s.heap.objs.size f B).kindOf (n.zip L) λ_=>none) s1) :
  Inv (Qd Q P w K I base N g d f B A j s H E) [] (start N vs) H s1:=by
 have X:n.length<=N.length:=by have:=congrArg gL S.pre;rw[bK] at this;omega
 obtain⟨F,tk,rfl,M⟩:=x.done;have t:∀b:aL,b∉(Qd Q P w K I base N g d f B A j s H E).ex:=λb z=>absurd (show b∈([]:List aL) from z) (by simp)
 refine⟨⟨m.mod,S.kind,rfl,rfl,aJ _,λy z c F l=>?_,λy o=>?_,λy c _ h=>?_,λ_=>R,cH.frames_deeper m.frames,.inr ⟨rfl,rfl⟩,λb z=>absurd z (t b),m.bs,m.bsz,λb _ _=>t b,λb z=>absurd z (t b),m.funs,m.frf,m.tab,λq _ U _=>by rw[<-Ew U];exact J⟩,
  rfl,m.bare,Un.kept M,⟨_,x.toInCall.ns,λi y v F l Y=>?_⟩,λy c h=>⟨_,x.cell y c h⟩,m.hok.fresh (aJ _),λy c h=>?_,λp C=>absurd (show p∈([]:List (aL×dN)) from C) (by simp),m.hok.kept M,?_⟩
 ·exact name_of_addr x.apart (cu F) (cu l)
 ·have o:=o;rcases o with o | o
  ·exact Ma o
  ·exact absurd rfl (S.nofree _ (cu o))
 ·exact cS (x.above y c (cu h))
 ·have G:i<vs.length:=by
   unfold start at l;by_cases G:i<vs.length
   ·exact G
   ·rw[bJ (by simpa using G)] at l;rw[ba] at l;split at l<;>cases l
  have T:vs[i]?=aA v:=by
   unfold start at l;rw[ah (by simpa using G),aW] at l
   cases e:vs[i]? with
   | none=>rw[e] at l;cases l
   | some a=>rw[e] at l;cases l;rfl
  obtain⟨u,O,W⟩:=r.get T;have C:n[i]?=aA y:=by rw[<-S.pre,di (by omega)];exact F
  have D:n.Nodup:=by rw[<-S.pre];exact S.nd.sublist (jf _ _)
  refine⟨u,W,?_⟩;rcases S.par y (cI C) with k | k
  ·exact .inl ⟨k,PY D C O k⟩
  ·obtain⟨c,e⟩:=Ma k;refine .inr ⟨.inl k,c,e,?_⟩;have q:=x.cell y c e;rw[PZ D C O (by show d.names.lookup y≠_;rw[k];decide)] at q;exact q
 ·exact m.hok.fresh (cS (x.above y c (cu h)))
 ·unfold start;show _=N.length;rw[az,aO,cy];omega
theorem Xe{R:Es}{P:bW}{w:cN}{K:aD}{O:ak->Option aH}{base:b9}{k:Nat}{f:aL}{m d:ak}{h:Arguments}{i:List bb}{a:dP}{dV kV F Z g ct oc:aH}{an od:Option aL}
  {X:Array (Option aH)} {N M:List ak} {sp:Sp} (lk:K.lookup f=aA ⟨oc,od,.func (ck m d h i a dV kV F Z an g ct),X⟩) (D:cZ K g d=aC) (S:Zm N M a)
  (len:∀vs H Q E,sp vs H Q E->vs.length=M.length)
  (z:∀(A:cH)(c:List ju)(s:aN)(H:Hp)(vs:List V)(Q:VK)(E:XK),Room k (A.deeper (gE d a s.heap.objs.size f g))->sp vs H Q E->
   ∃t,PSs (Qd R P w K O base N d a f g A c s H E) i t/\t { nx:=λ_ l=>Q .non l,rt:=Q } (start N vs) H) :
  Ru P w K O base R (k+1) f (ck m d h i a dV kV F Z an g ct) M sp:=by
 refine⟨len,λA c s H args us vs Q E T G hb r C=>?_⟩;have hl:=len _ _ _ _ C;have KX:=G.mod.kin.keeps λb o e=>(G.bs b o e).1;have W:=G.mod.nolimit.keeps λb o e=>(G.bs b o e).1
 have p:∀y∈M.zip us,a.names.lookup y.1=aA .local\/(a.names.lookup y.1=aA .cell/\((g8 (s.heap.objs.size+1) a.names []).lookup y.1).isSome=aC):=λ⟨n,v⟩ hy=>by
  rcases S.par n (iZ hy).1 with q | q
  ·exact .inl q
  ·exact .inr ⟨q,iP _ _ _ (.inl q)⟩
 refine codeAny_call_function T.depth (KX _ _ lk) rfl S.co S.gen rfl (PySem.W.codeRec_of KX D) (hb _ _ _ _ ?_);refine wpAny_newFunctionEnv_cells S.kind p λenv he s1 x=>?_;subst he;refine⟨W.keeps x.toInCall.keep,codeAny_func ?_⟩;obtain⟨t,ht,hq⟩:=z A c s H vs Q E (T.deeper _) C;have I:Inv (Qd R P w K O base N d a f g A c s H E) [] (start N vs) H s1:=Ia D S T.hd G hl r x;refine c9 (ht [] s1 (start N vs) H _ I hq) (λfl U B=>?_) λe U B=>B
 have L:∀{j:St}{l:Hp}{v:V}{u:aH},Inv (Qd R P w K O base N d a f g A c s H E) [] j l U->RelV v u->Q v l->CE c P w H s Q u U:=
  λ{j l v u} J Y q=>⟨v,l,J.os,J.bare,J.base,J.hok,Y,q⟩
 cases fl with
 | ret u=>
  obtain⟨v,j,l,J,Y,q⟩:=B;exact L J Y q
 | next=>
  obtain⟨j,l,J,q⟩:=B;exact L (v:=V.non) J rfl q
 | brk=>
  obtain⟨_,_,_,q⟩:=B;exact eI q
 | cont=>
  obtain⟨_,_,_,q⟩:=B;exact eI q
section
variable {X:Cx} {x:ak} {p pos:el} {e:av} {es:List av} {t:TA} {id T:String} {r:List V->Hp->VK->Prop}
noncomputable def tCB(r:List V->Hp->VK->Prop)(t:TA):TE:=λσ H Q=>t σ H λvs H1=>r vs H1 Q
theorem HM(v:XJ X (.builtin id) r)(f:Gl X x)(q:X.mg x=none)(l:dC x=aA (.builtin id))(n:PA X (e::es) t)(g:x≠"__name__":=by decide)(a:(x==("__debug__" : ak))=aB:=by decide)
  (j:aY (e::es) X.env=(aB,eval e X.env)::aY es X.env:=by rfl) (b:(eu pos (aY es X.env)).any (·.1)=aB:=by rfl):PE X (.Call (.Name x p) (e::es) [] pos) (tCB r t):=by
 intro c s d H Q I h;refine gh (UU I f q l ?_ g a);exact PyProof.Rows.callWith_builtin1 (YS (n pos c s d H _ I h) λo s1 ⟨vs,u,i,m,k⟩=>v c s1 d u vs o Q i m k) j b
theorem P0(v:XJ X (.type T) r)(f:Gl X x)(q:X.mg x=none)(l:dC x=aA (.type T))(n:PA X (e::es) t)(g:x≠"__name__":=by decide)(a:(x==("__debug__" : ak))=aB:=by decide)
  (j:aY (e::es) X.env=(aB,eval e X.env)::aY es X.env:=by rfl) (b:(eu pos (aY es X.env)).any (·.1)=aB:=by rfl):PE X (.Call (.Name x p) (e::es) [] pos) (tCB r t):=by
 intro c s d H Q I h;refine gh (UU I f q l ?_ g a);exact cX (YS (n pos c s d H _ I h) λo s1 ⟨vs,u,i,m,k⟩=>v c s1 d u vs o Q i m k) j b
end
end L2
namespace HT
open PySem PyProof.Rows
section
variable {prog:bW} {w:cN} {A:cH} {E:aH->aN->Prop} {s:aN}
theorem cat_tup{t b:aL}{vs a:List aH}{Q:aH->aN->Prop}(v:IsTup s.heap t vs.toArray)(B:IsTup s.heap b a.toArray)(q:vs≠[])
  (y:a=[]->Q (.ref t) s) (C:a≠[]->Q (.ref s.heap.objs.size) { s with heap:=s.heap.push { cls:=.type "tuple",data:=.seq (vs++a).toArray } })
  (m:vs.length+a.length<=sizeLine):bH (model prog w) A (dE .Add (.ref t) (.ref b)) Q E s:=by
 obtain⟨⟨k,o,d,p⟩,h,z,n,x⟩:=id v;obtain⟨⟨r,g,data2,f⟩,c,l,u,j⟩:=id B;subst z x l j;have e:vs.toArray++a.toArray=(vs++a).toArray:=by simp
 by_cases i:a=[]
 ·exact jg ⟨_,h,rfl⟩ ⟨_,c,rfl⟩ iH jR fW fP (fJ _ _)
   (tuple_addW1 t b vs.toArray a.toArray n u o g p f (by simpa using q) (by simp[i])) ⟨h,c,y i⟩
 ·refine jg ⟨_,h,rfl⟩ ⟨_,c,rfl⟩ iH jR fW fP (fJ _ _)
   (tuple_addW2 t b vs.toArray a.toArray n u o g p f (by simpa using q) (by simpa using i) (by rw[aP];exact m)) ⟨h,c,?_⟩
  rw[e];exact C i
noncomputable def sIx(n d:Nat):Option Int->Nat
 | none=>d
 | some v=>if v<0 then(v+(n:Int)).toNat else min v.toNat n
theorem sIx_none(n d:Nat):sIx n d none=d:=rfl
theorem sIx_nat(n d k:Nat):sIx n d (aA (k:Int))=min k n:=rfl
theorem K8(v:Int)(n d:Nat):(if v<0 then max (v+(n:Int)) 0 else min v (n:Int))=((sIx n d (aA v):Nat):Int):=by
 show(if v<0 then max (v+(n:Int)) 0 else min v (n:Int))=(((if v<0 then(v+(n:Int)).toNat else min v.toNat n):Nat):Int);by_cases a:v<0
 ·simp only[kr a];omega
 ·simp only[ku a];omega
theorem Ls(lo a:Option Int)(n:Nat):gm lo a 1 (n:Int)=(((sIx n 0 lo:Nat):Int),((sIx n n a:Nat):Int)):=by
 refine Prod.ext ?_ ?_
 ·cases lo with
  | none=>rfl
  | some v=>exact K8 v n 0
 ·cases a with
  | none=>rfl
  | some v=>exact K8 v n n
theorem Lu(i j:Nat):dY (i:Int) (j:Int) 1=j-i:=by
 unfold dY;split<;>omega
theorem Qe{v:aH}{o:Option Int}{Q:Option Int->aN->Prop}(p:jX v o)(h:Q o s):bH (model prog w) A (jL.Slice.slicePartIndex v) Q E s:=by
 cases p with
 | none=>exact slicePart_none h
 | int i t=>exact slicePart_int h
theorem TZ{e:aL}{d f:aH}{lo b:Option Int}{n:Nat}{Q:Int×Int×Nat->aN->Prop}(i:s.heap.IsSliceOf e d f .none)(k:jX d lo)(g:jX f b)
  (h:Q (((sIx n 0 lo:Nat):Int),1,sIx n n b-sIx n 0 lo) s):bH (model prog w) A (jL.Slice.sliceApplied (.ref e) (pure (n:Int))) Q E s:=by
 obtain⟨os,c,j,a⟩:=id i;refine aM (aM (cO c a rfl (aM (cO c a rfl (aM (cO c a rfl (aj ?_)))))));refine aM (slicePart_none ?_);refine aM (Qe k (aM (Qe g (aM (aj ?_)))));show bH _ _ (match gm lo b 1 (n:Int) with | (lo,b)=>pure (lo,(1:Int),dY lo b 1)) _ _ s;rw[Ls lo b n];show bH _ _ (pure (((sIx n 0 lo:Nat):Int),(1:Int),dY ((sIx n 0 lo:Nat):Int) ((sIx n n b:Nat):Int) 1)) _ _ s;rw[Lu];exact aj h
theorem HN(a:Array aH)(i k:Nat):((aE k).filterMap λ(m:Nat)=>a[((i:Int)+(m:Int)*1).toNat]?).toArray=((a.toList.drop i).take k).toArray:=by
 have e:(λ(m:Nat)=>a[((i:Int)+(m:Int)*1).toNat]?)=λm=>a[i+m]?:=by
  funext m;have:((i:Int)+(m:Int)*1).toNat=i+m:=by omega
  rw[this]
 rw[e];have:=pick_run a i k;rw[List.filterMap_map] at this;have b:((λx=>a[x]?) ∘ λx=>i+x)=λm=>a[i+m]?:=rfl;rw[b] at this;rw[this]
theorem getItem_tuple_cut{t e:aL}{a:Array aH}{m l:aH}{lo c:Option Int}{Q:aH->aN->Prop}(d:IsTup s.heap t a)(k:s.heap.IsSliceOf e m l .none)(r:jX m lo)(p:jX l c)
  (n:¬(sIx a.size 0 lo=0/\sIx a.size a.size c=a.size))
  (h:Q (.ref s.heap.objs.size) { s with heap:=s.heap.push { cls:=.type "tuple",data:=.seq ((a.toList.drop (sIx a.size 0 lo)).take (sIx a.size a.size c-sIx a.size 0 lo)).toArray } })
  (u:a.size<=sizeLine):bH (model prog w) A (kN (.ref t) (.ref e)) Q E s:=by
 have b:sizeOk (.seq ((a.toList.drop (sIx a.size 0 lo)).take (sIx a.size a.size c-sIx a.size 0 lo)).toArray):=by show((a.toList.drop (sIx a.size 0 lo)).take (sIx a.size a.size c-sIx a.size 0 lo)).toArray.size<=sizeLine;rw[aP,bK,cE,fG];omega
 obtain⟨os,f,j,o⟩:=id k;have i:s.TypeIs (.ref e) "slice":=⟨os,f,j⟩;unfold kN
 try with_reducible refine gy ?_
 first | refine aM (aj ?_) | skip
 refine aM (wpAny_sequenceKey d.typeIs rfl ?_)
 refine aM (dG d.typeIs dq
  (fE dq d.typeIs entry_tuple_getitem ?_ (args_tuple_getitem _ _)))
 show bH _ _ (jL.Tuple.tupleItemsOf (.ref t) >>= _) _ _ s;refine aM (tupleItemsOf_ d ?_);refine aM (wpAny_typeOf i ?_);refine aM (TZ k r p ?_);have g:¬((((sIx a.size 0 lo:Nat):Int)==0&&(1:Int)==1&&(sIx a.size a.size c-sIx a.size 0 lo)==a.size)=aC):=by intro q;rw[bX,bX] at q;have v:=eq_of_beq q.1.1;have x:=eq_of_beq q.2;exact n ⟨by omega,by omega⟩
 show bH _ _ (if(((sIx a.size 0 lo:Nat):Int)==0&&(1:Int)==1&&(sIx a.size a.size c-sIx a.size 0 lo)==a.size)=aC then _ else _) _ _ s;rw[ku g,HN]
 first
  | exact aM (dH (aj ⟨_,rfl,aj h⟩) b)
  | exact aM (dH (aM (aj (aj ⟨_,rfl,aj h⟩))) b)
  | exact aM (aM (dH (aj (aj ⟨_,rfl,aj h⟩)) b))
  | exact aM (aM (dH (aj ⟨_,rfl,aj h⟩) b))
end
end HT
namespace L2
open PySem PySem.Spec PyProof.Rows
abbrev TO:=St->Hp->(Option Int->Hp->Prop)->Prop
noncomputable def PO(X:Cx)(e:Option av)(t:TO):Prop:=
 ∀(kf:List (aL×dN))(s:aN)(σ:St)(H:Hp)(Q:Option Int->Hp->Prop),Inv X kf σ H s->t σ H Q->
  bH (model X.prog X.w) X.A (evalPart e X.env) (λu s'=>∃o H',Inv X kf σ H' s'/\jX u o/\Q o H') X.xe s
noncomputable def Ex:TO:=λ_ H Q=>Q none H
noncomputable def AX(t:TE):TO:=λσ H Q=>t σ H λx H1=>∃i,x = .int i/\Q (aA i) H1
section
variable {X:Cx} {e:av} {te:TE} {lo hi:Option av} {tl th:TO} {pos p2:el}
theorem Ey:PO X none Ex:=by intro a s b H Q I h;exact aj ⟨none,H,I,.none,h⟩
theorem Ez(h:PE X e te):PO X (aA e) (AX te):=by intro a s f H Q I j;refine YS (h a s f H _ I j) λu s1 ⟨x,c,b,d,g⟩=>?_;obtain⟨i,rfl,q⟩:=g;obtain⟨t,rfl⟩:=d;exact⟨aA i,c,b,.int i t,q⟩
noncomputable def SlR(X:Cx)(r:V->Option Int->Option Int->Hp->VK->Prop):Prop:=
 ∀(kf:List (aL×dN))(s:aN)(σ:St)(H:Hp)(x:V)(v vl vu:aH)(lo hi:Option Int)(sl:aL)(Q:VK),Inv X kf σ H s->RelV x v->s.heap.IsSliceOf sl vl vu .none->jX vl lo->jX vu hi->r x lo hi H Q->
  ∃T id,typeLookup (.type T) "__getitem__" = pure (aA (.builtin id))/\s.TypeIs v T/\bH (model X.prog X.w) X.A (kN v (.ref sl)) (EP X kf σ Q) X.xe s
noncomputable def tSl(r:V->Option Int->Option Int->Hp->VK->Prop)(te:TE)(tl th:TO):TE:=λσ H Q=>te σ H λx H1=>tl σ H1 λl H2=>th σ H2 λu H3=>r x l u H3 Q
theorem Mc{r:V->Option Int->Option Int->Hp->VK->Prop}(y:SlR X r)(o:PE X e te)(E:PO X lo tl)(L:PO X hi th):PE X (.Subscript e (.Slice lo hi none p2) pos) (tSl r te tl th):=by intro c s d H Q I h;refine Subscript_ (YS (o c s d H _ I h) λv s1 ⟨x,F,m,z,p⟩=>?_);refine wpAny_Slice (YS (E c s1 d F _ m p) λf s2 ⟨l,w,C,J,A⟩=>YS (L c s2 d w _ C A) λg a ⟨u,i,t,B,n⟩=>?_);refine aj ?_;have G:Inv X c d i { a with heap:=a.heap.push { cls:=.type "slice",data:=.fields #[f,g,.none] } }:=t.kept λb M q=>aF _ q;obtain⟨T,id,D,k,j⟩:=y c { a with heap:=a.heap.push { cls:=.type "slice",data:=.fields #[f,g,.none] } } d i x v f g l u a.heap.objs.size Q G z (b9.IsSliceOf.new ..) J B n;exact tail_any k D j rfl
noncomputable def Ib(xs:List V)(lo hi:Option Int):List V:=(xs.drop (HT.sIx xs.length 0 lo)).take (HT.sIx xs.length xs.length hi-HT.sIx xs.length 0 lo)
theorem S8(a:List V)(lo b:Option Int):(Ib a lo b).length<=a.length:=by unfold Ib;rw[bK,cE];omega
noncomputable def Zb0(K:aD):V->Option Int->Option Int->Hp->VK->Prop:=λx lo hi H Q=>∃a xs,x = .ref a/\SqT K H a xs/\
 ¬(HT.sIx xs.length 0 lo=0/\HT.sIx xs.length xs.length hi=xs.length)/\∀p,H p=none->Q (.ref p) (upd H p (.tup (Ib xs lo hi)))
theorem Bj:SlR X (Zb0 X.K):=by
 intro w s y H x v z B lo i u Q I j k p n h;obtain⟨a,d,rfl,l,t,q⟩:=h;cases j;obtain⟨m,r,f,g⟩:=I.tuple l;have c:m.toArray.size=d.length:=by rw[aP];exact r.length.symm
 refine⟨"tuple",_,dq.lookup,f.typeIs,?_⟩;refine HT.getItem_tuple_cut f k p n (by rw[c];exact t) ?_ (by rw[c];exact g);rw[c];refine⟨.ref s.heap.objs.size,_,I.laid (λb A q=>aF _ q) (aJ _) ?_,rfl,q _ (I.hok.fresh (aJ _))⟩;exact⟨⟨aQ (S8 d lo i) g,λo e=>R9 e⟩,_,(r.drop (HT.sIx d.length 0 lo)).take (HT.sIx d.length d.length i-HT.sIx d.length 0 lo),jx _ _⟩
noncomputable def AY(K:aD):R2:=λx y H Q=>∃a b xs ys,x = .ref a/\y = .ref b/\SqT K H a xs/\SqT K H b ys/\xs≠[]/\xs.length+ys.length<=sizeLine/\
 (ys=[]->Q (.ref a) H)/\(ys≠[]->∀p,H p=none->Q (.ref p) (upd H p (.tup (xs++ys))))
theorem Vals.nil_iff{a:List V}{b:List aH}(r:Vals a b):b=[]↔a=[]:=by
 cases r with
 | nil=>simp
 | cons _ _=>simp
theorem EA:Tg X (dE .Add) (AY X.K):=by intro t s A H x y v u Q I k i h;obtain⟨a,b,E,D,rfl,rfl,p,r,l,f,j,m⟩:=h;cases k;cases i;obtain⟨B,d,n,_⟩:=I.tuple p;obtain⟨g,c,p2,_⟩:=I.tuple r;refine HT.cat_tup n p2 (λz=>l (d.nil_iff.mp z)) (λz=>⟨.ref a,H,I,rfl,j (c.nil_iff.mp z)⟩) (λz=>?_) (by rw[<-d.length,<-c.length];exact f);refine⟨.ref s.heap.objs.size,_,I.laid (λb C q=>aF _ q) (aJ _) ?_,rfl,m (λw=>z (c.nil_iff.mpr w)) _ (I.hok.fresh (aJ _))⟩;exact⟨⟨by rw[az];exact f,λo e=>R9 e⟩,_,d.append c,jx _ _⟩
end
noncomputable def Md(n:Nat)(i:Int):Option Nat:=if 0<=i then(if i<n then aA i.toNat else none) else if -(n:Int)<=i then aA (i+n).toNat else none
noncomputable def S9{α:Type}(xs:List α)(i:Int):Option α:=(Md xs.length i).bind λj=>xs[j]?
theorem K9{n:Nat}{i:Int}{j:Nat}(h:Md n i=aA j):seqIndex? i n=aA j/\j<n/\-(n:Int)<=i/\i<n:=by
 unfold Md at h;by_cases b:0<=i
 ·rw[kr b] at h;by_cases a:i<n
  ·rw[kr a] at h;have e:=ay h;exact⟨by rw[kD b a,e],by omega,by omega,a⟩
  ·rw[ku a] at h;cases h
 ·rw[ku b] at h;by_cases a : -(n:Int)<=i
  ·rw[kr a] at h;have e:=ay h;exact⟨by rw[jh (by omega) a,e],by omega,a,by omega⟩
  ·rw[ku a] at h;cases h
theorem OI{b:Type}{a:List b}{i:Int}{v:b}(h:S9 a i=aA v):∃j,seqIndex? i a.length=aA j/\a[j]?=aA v/\j<a.length/\-(a.length:Int)<=i/\i<a.length:=by
 unfold S9 at h
 cases e:Md a.length i with
 | none=>rw[e] at h;cases h
 | some j=>
  rw[e] at h;obtain⟨c,g,d,f⟩:=K9 e;exact⟨j,c,h,g,d,f⟩
theorem Vj{b:Type}{a:List b}{j:Nat}{v:b}(h:a[j]?=aA v):S9 a (j:Int)=aA v:=by
 have c:=(aU.mp h).1;have e:Md a.length (j:Int)=aA j:=by unfold Md;rw[kr (by omega),kr (by omega)];simp
 unfold S9;rw[e];exact h
noncomputable def OJ(b:av):Prop:=∀o i,subscripted b aB o i=operate [o,i] (kN o i)
noncomputable def IxR(X:Cx)(r:R2):Prop:=
 ∀(value slice:av)(kf:List (aL×dN))(s:aN)(σ:St)(H:Hp)(x y:V)(v u:aH)(Q:VK),Inv X kf σ H s->RelV x v->RelV y u->r x y H Q->
  subscripted slice aB v u=operate [v,u] (kN v u)->bH (model X.prog X.w) X.A (subscriptTail value slice v u) (EP X kf σ Q) X.xe s
noncomputable def MtR(X:Cx)(id:String)(r:V->List V->Hp->VK->Prop):Prop:=
 ∀(kf:List (aL×dN))(s:aN)(σ:St)(H:Hp)(x:V)(xs:List V)(v:aH)(us:List aH)(Q:VK),Inv X kf σ H s->RelV x v->Vals xs us->r x xs H Q->
  bH (model X.prog X.w) X.A (call (.builtin id) (v::us)) (EP X kf σ Q) X.xe s
section
variable {X:Cx} {a b:av} {ta tb:TE} {pos:el}
theorem IxR.or{r i:R2}(h:IxR X r)(j:IxR X i):IxR X (λx y H Q=>r x y H Q\/i x y H Q):=by
 intro b a f s g H x y v u Q I d c q e;rcases q with q | q
 ·exact h b a f s g H x y v u Q I d c q e
 ·exact j b a f s g H x y v u Q I d c q e
theorem HP{r:R2}(f:IxR X r)(l:PE X a ta)(m:PE X b tb)(g:OJ b):PE X (.Subscript a b pos) (Aq r ta tb):=by intro i s j H Q I h;exact Subscript_ (C8 l m I h λv u s2 x y d k e c q=>f a b i s2 j d x y v u Q k e c q (g _ _))
noncomputable def Bk(K:aD):R2:=λx y H Q=>∃p xs i v,x = .ref p/\y = .int i/\SqL K H p xs/\S9 xs i=aA v/\Q v H
noncomputable def AZ(K:aD):R2:=λx y H Q=>∃p xs i v,x = .ref p/\y = .int i/\SqT K H p xs/\S9 xs i=aA v/\Q v H
noncomputable def A1:R2:=λx y H Q=>∃z i c,x = .str z/\y = .int i/\z.length<=sizeLine/\S9 z.cps.toList i=aA c/\Q (.str ⟨#[c]⟩) H
theorem ix_list:IxR X (Bk X.K):=by
 intro f c D s E H x y v u Q I C n h k;obtain⟨p,O,i,z,rfl,rfl,J,A,q⟩:=h;cases C;obtain⟨t,rfl⟩:=n;obtain⟨F,r,d,M⟩:=I.list J;obtain⟨j,b,B,N,o,m⟩:=OI A;obtain⟨w,g,ZZ⟩:=r.get B;have G:=r.length;have L:=OH;have a:EP X D E Q w s:=⟨z,H,I,ZZ,q⟩;by_cases l:0<=i
 ·have e:i.toNat=j:=by rw[kD l m] at b;exact ay b
  exact item_listR d.isList l (by omega) (by rw[e];simpa using g) a k
 ·have e:(i+(F.toArray.size:Int)).toNat=j:=by rw[jh (by omega) o] at b;rw[aP,<-G];exact ay b
  exact iQ d.isList.typeIs slot_list_getitem.lookup
   (wpAny_getItem_list_neg d.isList (by omega) (by rw[aP]<;>omega) (by omega) (by rw[e];simpa using g) ⟨rfl,a⟩) k
theorem ix_tup:IxR X (AZ X.K):=by
 intro c a n s o H x y v u Q I l e h m;obtain⟨p,M,i,z,rfl,rfl,C,f,q⟩:=h;cases l;obtain⟨t,rfl⟩:=e;obtain⟨L,r,d,G⟩:=I.tuple C;obtain⟨j,A,g,J,F,D⟩:=OI f;obtain⟨w,k,ZZ⟩:=r.get g;have B:=r.length;have E:=OH;have b:EP X n o Q w s:=⟨z,H,I,ZZ,q⟩
 exact iQ d.typeIs slot_tuple_getitem.lookup
  (getItem_tuple d (by omega) (by omega) (by rw[aP,<-B];exact A) (by simpa using k) ⟨rfl,b⟩) m
theorem Bm:IxR X A1:=by
 intro b a B s D H x y v u Q I n f h o;obtain⟨z,i,c,rfl,rfl,A,k,q⟩:=h;obtain⟨t,rfl⟩:=n;obtain⟨t',rfl⟩:=f;obtain⟨j,d,m,C,g,e⟩:=OI k;have p:z.cps.toList.length=z.length:=by simp[ak.length]
 rw[p] at d g e;have w:=OH
 exact tail_any (typeIs_str s z t) slot_str_getitem.lookup (getItem_str (by
  have l:decide (i < -(2^63:Int))=aB:=decide_eq_false (by omega);have r:decide (i ≥ 2^63)=aB:=decide_eq_false (by omega);rw[l,r,Bool.or_false]) (by rw[d];simpa using m) ⟨.str ⟨#[c]⟩,H,I.tok _,⟨_,rfl⟩,q⟩) o
noncomputable def rIx(K:aD):R2:=λx y H Q=>Bk K x y H Q\/AZ K x y H Q\/A1 x y H Q
theorem Bn:IxR X (rIx X.K):=ix_list.or (ix_tup.or Bm)
theorem Lv(a:List aH)(n j:Nat)(u:aH):jY (·.setIfInBounds j u) { cls:=.type "list",data:=.seq a.toArray n }={ cls:=.type "list",data:=.seq (a.set j u).toArray n }:=by simp[jY]
theorem Inv.lst{c:List (aL×dN)}{d:St}{H:Hp}{s:aN}{p:aL}{b:List V}(I:Inv X c d H s)(h:H p=aA (.lst b)) :
  ∃(a:List aH) (n:Nat),Vals b a/\s.heap.get? p=aA { cls:=.type "list",data:=.seq a.toArray n }/\b.length<=sizeLine:=by
 obtain⟨z,a,n,r,e⟩:=I.hok p _ h;exact⟨a,n,r,e,z⟩
theorem Inv.lstUpd{g:List (aL×dN)}{i:St}{H:Hp}{s:aN}{p:aL}{o d:List V}{j a:List aH}{n c:Nat}{f:dN->dN}(I:Inv X g i H s)(h:H p=aA (.lst o))
  (m:s.heap.get? p=aA { cls:=.type "list",data:=.seq j.toArray n }) (k:f { cls:=.type "list",data:=.seq j.toArray n }={ cls:=.type "list",data:=.seq a.toArray c }) (r:Vals d a) (l:d.length<=sizeLine) (t:Nat) :
  Inv X g i (upd H p (.lst d)) { s with heap:=s.heap.update p f,toks:=t }:=by
 have e:(s.heap.update p f).get? p=aA { cls:=.type "list",data:=.seq a.toArray c }:=by rw[i9 f m (by rw[k]<;>rfl),k]
 refine I.write (by rw[h];trivial) (.inl rfl) (λb u v q=>(iR _ _ (aw v)).trans q) ⟨_,e⟩ ?_;exact⟨l,a,c,r,e⟩
noncomputable def HQ:V->V->V->Hp->(Hp->Prop)->Prop:=λo i v H Q=>∃p xs k j,o = .ref p/\i = .int k/\H p=aA (.lst xs)/\Md xs.length k=aA j/\Q (upd H p (.lst (xs.set j v)))
theorem Y4:AG X HQ:=by
 intro E s F H o i v G L u Q I z y A h;obtain⟨p,J,k,j,rfl,rfl,f,B,q⟩:=h;cases z;obtain⟨t,rfl⟩:=y;obtain⟨m,n,r,b,x⟩:=I.lst f;obtain⟨a,D,l,e⟩:=K9 B;have c:=r.length;have C:=OH
 have w:=
  I.lstUpd f b (Lv m n j u) (r.set A j) (by rw[bt];exact x) s.toks
 by_cases g:0<=k
 ·have d:k.toNat=j:=by rw[kD g e] at a;exact ay a
  exact PySem.W.ki_setAt b g (by omega) (by rw[aP,<-c];exact e) (by rw[d];exact⟨_,w,q⟩)
 ·have d:(k+(m.toArray.size:Int)).toNat=j:=by rw[jh (by omega) l] at a;rw[aP,<-c];exact ay a
  exact PySem.W.ki_setBack b (by omega) (by rw[aP,<-c];exact l) (by omega) (by rw[d];exact⟨_,w,q⟩)
theorem OK(lo a:Option Int)(n:Nat):(fQ lo a none n).1=((HT.sIx n 0 lo:Nat):Int)/\(fQ lo a none n).2.1=((HT.sIx n n a:Nat):Int)/\(fQ lo a none n).2.2=1:=by
 refine⟨?_,?_,rfl⟩
 ·cases lo with
  | none=>simp[fQ,HT.sIx]
  | some i=>
   simp only[fQ,HT.sIx,jy];by_cases h:i<0
   ·simp only[h,if_true]<;>omega
   ·simp only[h,if_false]<;>omega
 ·cases a with
  | none=>simp[fQ,HT.sIx]
  | some i=>
   simp only[fQ,HT.sIx,jy];by_cases h:i<0
   ·simp only[h,if_true]<;>omega
   ·simp only[h,if_false]<;>omega
theorem Pr(a:List aH)(lo b:Option Int):slicePick a.toArray lo b none=((a.drop (HT.sIx a.length 0 lo)).take (HT.sIx a.length a.length b-HT.sIx a.length 0 lo)).toArray:=by
 obtain⟨c,e,d⟩:=OK lo b a.toArray.size;unfold slicePick;rw[c,e,d];simp only[sliceRange_one,pick_run]<;>rfl
noncomputable def Zb1(K:aD):V->Option Int->Option Int->Hp->VK->Prop:=λx lo hi H Q=>∃a xs,x = .ref a/\SqL K H a xs/\∀p,H p=none->Q (.ref p) (upd H p (.lst (Ib xs lo hi)))
theorem EB:SlR X (Zb1 X.K):=by intro o s p H x v u y lo f n Q I i j m l h;obtain⟨a,d,rfl,k,q⟩:=h;cases i;obtain⟨t,r,e,g⟩:=I.list k;have c:=r.length;refine⟨"list",_,slot_list_getitem.lookup,e.isList.typeIs,?_⟩;refine wpAny_getItem_list_slice e.isList j m l .none (by simp) ?_ (by rw[aP]<;>omega);rw[Pr,<-c];refine⟨.ref s.heap.objs.size,_,I.laid (λb w q=>aF _ q) (aJ _) ?_,rfl,q _ (I.hok.fresh (aJ _))⟩;exact⟨aQ (S8 d lo f) g,_,0,(r.drop (HT.sIx d.length 0 lo)).take (HT.sIx d.length d.length f-HT.sIx d.length 0 lo),a0 _ rfl⟩
theorem Xj:XJ X (.type "list") (λz H Q=>∃p g,z=[.ref p]/\(SqL X.K H p g\/SqT X.K H p g)/\∀l,H l=none->Q (.ref l) (upd H l (.lst g))):=by
 intro B s C H z D Q I r h;obtain⟨p,g,rfl,m,q⟩:=h;obtain⟨u,rfl,A⟩:=Ti r;cases A
 have t:∀(c:List aH),Vals g c->g.length<=sizeLine->∀(a:b9)(f:Nat),(∀b o',s.heap.get? b=aA o'->a.get? b=aA o')->
   a.get? s.heap.objs.size=aA { cls:=.type "list",dict:=none,data:=.seq c.toArray f,slots:=#[] }->EP X B C Q (.ref s.heap.objs.size) { s with heap:=a }:=λc d i a f k e=>
  ⟨.ref s.heap.objs.size,_,I.laid k (aJ _) (show ObjOk X.prog X.w _ a _ (.lst g) from⟨i,c,f,d,e⟩),rfl,q _ (I.hok.fresh (aJ _))⟩
 rcases m with m | m
 ·obtain⟨c,d,y,i⟩:=I.list m;have j:=d.length;obtain⟨o,w,x,n,v⟩:=y.isList;exact call_list_seq p (.inl rfl) w x v (λa f k e=>t c d i a f k e) (by simp only[aP]<;>omega)
 ·obtain⟨c,d,y,i⟩:=I.tuple m;have j:=d.length;obtain⟨o,w,x,n,v⟩:=y;exact call_list_seq p (.inr rfl) w x v (λa f k e=>t c d i a f k e) (by simp only[aP]<;>omega)
theorem Zk:XJ X (.type "tuple") (λm H Q=>∃p a,m=[.ref p]/\((SqL X.K H p a/\∀l,H l=none->Q (.ref l) (upd H l (.tup a)))\/(SqT X.K H p a/\Q (.ref p) H))):=by
 intro x s y H m z Q I r h;obtain⟨p,a,rfl,h⟩:=h;obtain⟨u,rfl,n⟩:=Ti r;cases n;rcases h with⟨d,q⟩ | ⟨d,q⟩
 ·obtain⟨j,c,f,i⟩:=I.list d;have k:=c.length;refine call_tuple_list f.isList (λt w=>?_) (by simp only[aP]<;>omega);have g:=I.kept (t':=s.toks) w
  have v:=
   g.laid (t':=s.toks) (λb o e=>aF _ e) (aJ _) (show ObjOk X.prog X.w _ _ _ (.tup a) from⟨⟨i,λo e=>R9 e⟩,j,c,jx _ _⟩)
  exact⟨.ref t.objs.size,_,v,rfl,q _ (g.hok.fresh (aJ _))⟩
 ·obtain⟨j,c,f,i⟩:=I.tuple d;exact call_tuple_same f ⟨.ref p,H,I,rfl,q⟩
noncomputable def tyV(K:aD)(T:String)(x:V)(H:Hp):Prop:=match x with
 | .str _=>T = "str"
 | .int _=>T = "int"
 | .ref p=>(T = "list"/\∃xs,SqL K H p xs)\/(T = "tuple"/\∃o,K.lookup p=aA o/\o.cls = .type "tuple"/\o.dict=none)\/
   (T = "dict"/\((∃kg,H p=aA (.dK kg))\/∃kg,H p=aA (.dT kg)))\/(T = "set"/\∃S n,H p=aA (.set S n))\/(T = "tuple"/\∃xs,H p=aA (.tup xs))
 | _=>False
theorem Bp{k:List (aL×dN)}{l:St}{H:Hp}{s:aN}{T:String}{x:V}{v:aH}(I:Inv X k l H s)(r:RelV x v)(ty:tyV X.K T x H) :
  s.TypeIs v T/\∀a,v = .ref a->∃ob,s.heap.get? a=aA ob/\ob.dict=none:=by
 cases x with
 | str z=>
  obtain⟨t,rfl⟩:=r;cases (ty);exact⟨typeIs_str s z t,λ_ e=>nomatch e⟩
 | int i=>
  obtain⟨t,rfl⟩:=r;cases (ty);exact⟨iS s i t,λ_ e=>nomatch e⟩
 | ref p=>
  cases r;rcases ty with⟨rfl,y,u⟩ | ⟨rfl,o,b,w,h⟩ | ⟨rfl,b⟩ | ⟨rfl,S,n,b⟩ | ⟨rfl,y,b⟩;rotate_left 4
  ·obtain⟨z,m,_,o,g,f,_⟩:=(I.hok p _ b);refine⟨⟨o,g,f⟩,λa e=>?_⟩;cases e;exact⟨o,g,z.2 o g⟩
  ·obtain⟨m,_,j,_⟩:=I.list u;refine⟨j.isList.typeIs,λa e=>?_⟩;cases e;obtain⟨o,n,e,c,h,_⟩:=j;exact⟨o,e,h⟩
  ·refine⟨⟨o,I.kIn p o b,w⟩,λa e=>?_⟩;cases e;exact⟨o,I.kIn _ o b,h⟩
  ·have z:∃o,s.heap.get? p=aA o/\o.ExactDict:=by
    rcases b with⟨q,b⟩ | ⟨q,b⟩
    ·obtain⟨_,_,_,_,o,_,_,e,d,_⟩:=I.hok p _ b;exact⟨o,e,d⟩
    ·obtain⟨_,_,_,_,o,_,_,e,d,_⟩:=I.hok p _ b;exact⟨o,e,d⟩
   obtain⟨o,e,d⟩:=z;refine⟨⟨o,e,d.1⟩,λa f=>?_⟩;cases f;exact⟨o,e,d.2.1⟩
  ·obtain⟨o,_,_,_,e,d,_⟩:=I.hok p _ b;refine⟨⟨o,e,d.1⟩,λa f=>?_⟩;cases f;exact⟨o,e,d.2.1⟩
 | _=>exact eI ty
noncomputable def tBM(K:aD)(T:String)(r:V->List V->Hp->VK->Prop)(to:TE)(t:TA):TE:=λσ H Q=>to σ H λx H1=>tyV K T x H1/\t σ H1 λxs H2=>r x xs H2 Q
variable {o e:av} {es:List av} {to:TE} {t:TA} {name:ak} {apos cpos:el} {T id:String} {r:V->List V->Hp->VK->Prop}
theorem Ja(D:PlainAttrs T)(f:Slot T name id)(i:typeOf (.builtin id)=pure (.type "method_descriptor"))(F:MtR X id r)(B:PE X o to)(C:PA X (e::es) t)
  (c:attributeBase o name X.env (eval o X.env)=eval o X.env:=by rfl)
  (d:((eu cpos (aY (e::es) X.env)).all (λx=>!x.1)&&(backToKw cpos (keywordEach [] X.env)).all (λx=>x.1.isSome)
   &&decide ((e::es).length+([]:List Keyword).length+(if([]:List Keyword).isEmpty then 0 else 1)<30))=aC:=by rfl)
  (b:(apos.endLine==cpos.line)=aC:=by rfl) (u:aY (e::es) X.env=(aB,eval e X.env)::aY es X.env:=by rfl) (a:(eu cpos (aY es X.env)).any (·.1)=aB:=by rfl) :
  PE X (.Call (.Attribute o name apos) (e::es) [] cpos) (tBM X.K T r to t):=by
 intro g s j H Q I h;refine wpAny_Call_method_late c d b rfl (YS (B g s j H _ I h) λv s1 ⟨x,G,k,l,ty,n⟩=>?_);obtain⟨z,p⟩:=Bp k l ty;refine⟨T,id,D,f,i,z,p,?_⟩;have m:=C cpos g s1 j G _ k n;rw[u] at m ⊢;refine Calls.callWith_builtin (by show(aB || (eu cpos (aY es X.env)).any (·.1))=aB;rw[a]<;>rfl) (Calls.evalArgs_plain ?_);exact YS m λE s2 ⟨vs,q,y,A,w⟩=>F g s2 j q x vs v E Q y l A w
end
noncomputable def MtM(X:Cx)(id:String)(r:V->List V->Hp->VK->Prop):Prop:=
 ∀(kf:List (aL×dN))(s:aN)(σ:St)(H:Hp)(x:V)(xs:List V)(v:aH)(us:List aH)(Q:VK),Inv X kf σ H s->RelV x v->Vals xs us->r x xs H Q->
  bH (model X.prog X.w) X.A (call (.builtin id) (v::us)) (EP X kf σ Q) X.xe s
theorem Vals.one:∀{x:V}{us:List aH},Vals [x] us->∃u,us=[u]/\RelV x u
 | _,_,.cons r .nil=>⟨_,rfl,r⟩
theorem Vals.two:∀{x y:V}{us:List aH},Vals [x,y] us->∃u v,us=[u,v]/\RelV x u/\RelV y v
 | _,_,_,.cons r (.cons q .nil)=>⟨_,_,rfl,r,q⟩
theorem Vals.dropLast{a:List V}{b:List aH}(h:Vals a b):Vals a.dropLast b.dropLast:=by
 induction h with
 | nil=>exact .nil
 | cons r t ih=>
  cases t with
  | nil=>exact .nil
  | cons q t'=>exact .cons r ih
theorem Vals.rep{a:List V}{b:List aH}(h:Vals a b):∀k:Nat,Vals (aX k a).flatten (aX k b).flatten
 | 0=>.nil
 | k+1=>by rw[dO,dO,eV,eV];exact Vals.append h (Vals.rep h k)
theorem T3(a:List aH):∀(k:Nat)(acc:List aH),
  jZ (λc b=>c++b) acc.toArray (aX k a.toArray)=(acc++(aX k a).flatten).toArray
 | 0,acc=>by simp
 | k+1,acc=>by
  have e:acc.toArray++a.toArray=(acc++a).toArray:=by simp
  have d:(acc++a)++(aX k a).flatten=acc++(aX (k+1) a).flatten:=by rw[dO,eV,fX]
  rw[<-d,<-T3 a k (acc++a),<-e,dO,List.foldl_cons]
section
variable {X:Cx} {kf:List (aL×dN)} {σ:St} {H:Hp} {s:aN} {l b:aL} {xs ys zs:List V}
theorem Inv.lset{b a:List aH}{n:Nat}{f:Array aH->Array aH}{t':Nat}(I:Inv X kf σ H s)(c:H l=aA (.lst xs))
  (e:s.heap.get? l=aA { cls:=.type "list",data:=.seq b.toArray n }) (d:f b.toArray=a.toArray) (j:Vals ys a) (i:ys.length<=sizeLine) :
  Inv X kf σ (upd H l (.lst ys)) { s with heap:=s.heap.update l (jY f),toks:=t' }:=by
 have q:=PySem.IsL.update e f;rw[d] at q;refine I.write (by rw[c];exact trivial) (.inl rfl) (λk u g h=>(iR s.heap (jY f) (aw g)).trans h) ⟨_,q⟩ ?_;exact⟨i,a,_,j,q⟩
theorem Inv.lnew{a:List aH}{t':Nat}(I:Inv X kf σ H s)(c:Vals ys a)(b:ys.length<=sizeLine) :
  Inv X kf σ (upd H s.heap.objs.size (.lst ys)) { s with heap:=s.heap.push { cls:=.type "list",data:=.seq a.toArray },toks:=t' }:=
 I.laid (λ_ _ q=>aF _ q) (aJ _) ⟨b,a,0,c,a0 _ rfl⟩
theorem Inv.fresh(I:Inv X kf σ H s):H s.heap.objs.size=none:=I.hok.fresh (aJ _)
theorem Inv.lstM(I:Inv X kf σ H s)(b:H l=aA (.lst xs)):xs.length<=sizeLine/\∃(a:List aH) (n:Nat),Vals xs a/\xs.length=a.length/\s.heap.get? l=aA { cls:=.type "list",data:=.seq a.toArray n }:=by obtain⟨z,a,n,r,e⟩:=I.hok l _ b;exact⟨z,a,n,r,r.length,e⟩
theorem Me{n:Nat}(h:n<=sizeLine):fK n=aB:=by exact decide_eq_false (by omega)
end
section
variable {X:Cx}
noncomputable def Jb:V->List V->Hp->VK->Prop:=λx vs H Q=>∃l xs y,x = .ref l/\vs=[y]/\H l=aA (.lst xs)/\xs.length<sizeLine/\Q .non (upd H l (.lst (xs++[y])))
theorem P4:MtM X "list.append" Jb:=by intro i s j H x vs v m Q I b f h;obtain⟨l,o,y,rfl,rfl,a,g,q⟩:=h;cases b;obtain⟨u,rfl,d⟩:=f.one;obtain⟨z,c,n,r,k,e⟩:=I.lstM a;refine fO F.slot_list_append ⟨_,e,rfl⟩ F.entry_list_append (F.args_list_append_2 _ _) (PySem.list_append l c.toArray n u (by rw[aP];omega)) ⟨e,?_⟩;refine⟨.non,_,I.lset a e (by simp) (r.append (.cons d .nil)) ?_,rfl,q⟩;rw[az,gD];omega
noncomputable def EC:V->List V->Hp->VK->Prop:=λx vs H Q=>∃l b xs zs,x = .ref l/\vs=[.ref b]/\H l=aA (.lst xs)/\H b=aA (.lst zs)/\xs.length+zs.length<=sizeLine/\Q .non (upd H l (.lst (xs++zs)))
theorem mt_extend:MtM X "list.extend" EC:=by
 intro B s C H x vs v E Q I i w h;obtain⟨l,b,J,y,rfl,rfl,g,j,A,q⟩:=h;cases i;obtain⟨u,rfl,t⟩:=w.one;cases t;obtain⟨z,d,n,r,D,e⟩:=I.lstM g;obtain⟨G,a,o,k,m,p⟩:=I.lstM j;have f:d.toArray.size+a.toArray.size<=sizeLine:=by rw[aP,aP];omega
 have c:¬(!d.toArray.isEmpty&&fK (d.toArray.size+a.toArray.size))=aC:=by rw[Me f,Bool.and_false];exact bT
 refine fO F.slot_list_extend ⟨_,e,rfl⟩ F.entry_list_extend (F.args_list_extend_2 _ _)
  (AutoSeq1.list_extend_list_list_0 l d.toArray n b a.toArray o c (by omega) (by omega)) ⟨e,p,?_⟩
 refine⟨.non,_,I.lset g e (by simp) (r.append k) ?_,rfl,q⟩;rw[az];omega
noncomputable def Zb5:R2:=λx y H Q=>∃l b xs zs,x = .ref l/\y = .ref b/\H l=aA (.lst xs)/\H b=aA (.lst zs)/\xs.length+zs.length<=sizeLine/\∀p,H p=none->Q (.ref p) (upd H p (.lst (xs++zs)))
theorem Bq:Tg X (dE .Add) Zb5:=by
 intro t s w H x y v u Q I f d h;obtain⟨l,b,D,o,rfl,rfl,k,g,p,q⟩:=h;cases f;cases d;obtain⟨z,c,n,r,A,e⟩:=I.lstM k;obtain⟨C,a,B,i,j,m⟩:=I.lstM g;refine PySem.P.add_list e m ?_ (by rw[aP,aP];omega);have ea:c.toArray++a.toArray=(c++a).toArray:=by simp
 rw[ea];exact⟨.ref _,_,I.lnew (r.append i) (by rw[az];omega),rfl,q _ I.fresh⟩
noncomputable def Zb6:R2:=λx y H Q=>∃l k xs,x = .ref l/\y = .int k/\H l=aA (.lst xs)/\-(2^63)<=k/\k<2^63/\xs.length*k.toNat<=sizeLine/\
 ∀p,H p=none->Q (.ref p) (upd H p (.lst (aX k.toNat xs).flatten))
theorem OL{b:Type}(a:List b)(k:Nat):(aX k a).flatten.length=k*a.length:=by simp
theorem Br:Tg X (dE .Mult) Zb6:=by
 intro L s M H x y v u Q I w o h;obtain⟨l,k,N,rfl,rfl,E,D,p,j,q⟩:=h;cases w;obtain⟨t,rfl⟩:=o;obtain⟨z,b,n,r,J,e⟩:=I.lstM E;have g:b.toArray.size*k.toNat<=sizeLine:=by rw[aP,<-J];exact j
 have d:¬b.toArray.size*k.toNat>(2^63-1)/8:=by
  have:(sizeLine:Nat)<=(2^63-1)/8:=by decide
  omega
 have f:¬(!Builtin.List.listFitsIndex k)=aC:=by rw[fitsIndex_both D p];exact bT
 have c:¬fK (b.toArray.size*k.toNat)=aC:=by rw[Me g];exact bT
 have i:jZ (λC B=>C++B) #[] (aX (if b.toArray.isEmpty=aC then 0 else k.toNat) b.toArray)=(aX k.toNat b).flatten.toArray:=by
  have G:=λm=>by have:=T3 b m [];rw[List.nil_append] at this;exact this
  rw[G]
  cases b with
  | nil=>simp
  | cons a r'=>rw[ku (by simp)]
 refine gn rfl ⟨_,e,rfl⟩ (λA=>iS A k t) noFill_list_mul F.fills_int_mul F.slot_int_rmul repeat_list F.slot_int_index.lookup
  (fO F.slot_int_rmul (iS s k t) F.entry_int_rmul (F.args_int_rmul_2 _ _) (int___rmul___int_list k t l b.toArray n)
   ⟨e,rfl,⟨_,e,rfl⟩,fO F.slot_list_mul ⟨_,e,rfl⟩ F.entry_list_mul (F.args_list_mul_2 _ _) (AutoListH.list___mul___list_int_3 l b.toArray n k t f d c) ⟨e,?_⟩⟩)
 rw[i];exact⟨.ref _,_,I.lnew (r.rep k.toNat) (by rw[OL,cp];exact j),rfl,q _ I.fresh⟩
end
end L2
namespace Att
open PySem PySem.W PySem.Calls PyProof.Rows
theorem Rv{P:Params}{h:b9}:∀(c:List Int)(vs:List aH),WellAll P h vs (c.map jz)->IntsAre vs c:=by
 intro c
 induction c with
 | nil=>
  intro vs w;cases w;exact .nil
 | cons n c ih=>
  intro vs w
  cases w with
  | cons a b=>
   cases a;exact .cons _ _ (ih _ b)
theorem script_of{l:OpenLaw}{n:Nat}(o:l.most=aA n){P:Params}{h:b9}{b:List WData}{c:List aH}
  (e:l.row.toRowW.claim.pre b=aC) (m:WellAll P h c b) :
  ∃a vs f,c=[jt a]/\b=[WData.list (f.map jz)]/\h.get? a=aA { cls:=.type "list",data:=.seq vs.toArray }/\IntsAre vs f/\f.length<=n:=by
 have k:=(pre_splitW e).1;have t:=(pre_splitW e).2;obtain⟨d,r,rfl,s,p⟩:=hasAllW_cons k;obtain rfl:=hasAllW_nil p;obtain⟨u,rfl,q⟩:=hasW_list s;obtain⟨f,rfl⟩:=items_int q
 have g:f.length<=n:=by
  have i:(WTm.not (.lt (.lit (.int (n:Int))) (.len (.arg 0)))).holds [] { args:=[.list (f.map .int)] }=aC:=by have i:=(holds_andW t).1;rw[o] at i;exact i
  have j:=condW_of i (w_not (w_lt w_lit (w_len_list (w_arg rfl))))
  first
   | (rw[decide_eq_true q'] at j;exact absurd j rfl)
   | (simp at j;omega)
 cases m with
 | cons w1 w2=>
  cases w2
  cases w1 with
  | list ho hall=>exact⟨_,_,f,rfl,rfl,ho,Rv f _ hall,g⟩
theorem post_true(l:OpenLaw)(a:List WData):l.row.toRowW.claim.post a (.bool aC) a=aC:=
 postW_of
  (show WShape.has [] (.bool aC) .bool=aC by first | rfl | decide | simp[WShape.arms])
  (w_eq_bool (w_res rfl) w_lit) rfl
end Att
namespace L2
open PySem PySem.Spec PyProof.Rows
structure M2(X:Cx)(o:av)(m:ak)(apos:el)(e f:av)(cpos:el):Prop where
 base:attributeBase o m X.env (eval o X.env)=eval o X.env
 few:((eu cpos (aY [e,f] X.env)).all (λx=>!x.1)&&(backToKw cpos (keywordEach [] X.env)).all (λx=>x.1.isSome)
  &&decide (([e,f]:List av).length+([]:List Keyword).length+(if([]:List Keyword).isEmpty then 0 else 1)<30))=aC
 line:(apos.endLine==cpos.line)=aC
 trees:eu cpos (aY [e,f] X.env)=[(aB,eval e X.env),(aB,eval f X.env)]
theorem P5:∀{vs:List aH}{ns:List Int},IntsAre vs ns->Vals (ns.map V.int) vs
 | _,_,.nil=>.nil
 | _,_,.cons n t h=>.cons ⟨t,rfl⟩ (P5 h)
noncomputable def Bt(H:Hp):Prop:=∀b,H b=none\/∃o xs,H b=aA (.frz o (.lst xs))
theorem law_call{P:bW}{w:cN}{K:aD}{Q W:ak->Option aH}{CX:Es}{k:Nat}{fa a:aL}{fd:du}{x:ak}{sp:Sp}{f:aN}{vs:List aH}{O:List Int}
  (J:∀(q:ak)(c:aL),J0 q=aC->cZ K (.ref c) q=aC->False) (KX:K.In f.heap) (R:f.heap.Ns cV Q) (j:f.heap.Ns jU W) (I:∀x:ak,x≠"__name__"->W x=dC x) (U:f.heap.NoLimit) (l:f.heap.NoSeer) (hg:f.gens = #[])
  (G:f.heap.get? a=aA { cls:=.type "list",data:=.seq vs.toArray }) (hi:IntsAre vs O) (hl:O.length<=sizeLine) (hr:Room k ji)
  (F:∀base:b9,K.In base->base.Ns cV Q->Ru P w K Q base CX k fa fd [x] sp) (B:∀(s:aN)(u:aH),jd s fd ⟨[u],[]⟩ [(x,u)])
  (Y:∀H:Hp,Bt H->SqL K H a (O.map V.int)->sp [.ref a] H (λv _=>v = .bl aC) λ_ _ _=>False)
  (hCX:∀H e p,CX [] H f (λ_ _ _=>False) e p->False) :
  iO (model P w) ji (.call (.ref fa) ⟨[.ref a],[]⟩) (λr p=>r = .ok (.ret (.bool aC))/\OldK f.heap p.heap/\p.os=f.os/\iM p.gens) f:=by
 have rv:=P5 hi;have E:=hi.length
 -- from an abstract heap in which nothing but the script may be tracked
 have A:∀H:Hp,Bt H->SqL K H a (O.map V.int)->HOk P w H f.heap->(∀b,H b≠none->b=a)->(H a≠none->K.lookup a=none)->
   iO (model P w) ji (.call (.ref fa) ⟨[.ref a],[]⟩) (λr p=>r = .ok (.ret (.bool aC))/\OldK f.heap p.heap/\p.os=f.os/\iM p.gens) f:=by
  intro H hO hS M X hK;have g:∀{b:aL}{o:dN},f.heap.get? b=aA o->H b=none->(OF f.heap H).get? b=aA o:=λe n=>HC e n
  have noA:∀{b:aL}{o:dN}{S:Array DictEntry}{ep:Nat},f.heap.get? b=aA o->o.data = .dict S ep->H b=none:=λ{b o S ep} e d=>by
   cases q:H b with
   | none=>rfl
   | some u=>
    have D:b=a:=X b (by rw[q];simp);subst D;rw[G] at e;cases e;have d':Data.seq vs.toArray _=Data.dict S ep:=d;cases d'
  have i:∀{b:aL}{m:ak->Option aH},f.heap.Ns b m->(OF f.heap H).Ns b m:=λ{b m} ⟨o,S,ep,e,d,r⟩=>⟨o,S,ep,g e (noA e d),d,r⟩
  have T:K.In (OF f.heap H):=λb o e=>g (KX b o e) (by
   cases q:H b with
   | none=>rfl
   | some u=>
    have D:b=a:=X b (by rw[q];simp);subst D;rw[hK (by rw[q];simp)] at e;cases e)
  have hbm:∀{b:aL}{o:dN},f.heap.get? b=aA o->o.cls = .type "module"->H b=none:=λ{b o} e d=>by
   cases q:H b with
   | none=>rfl
   | some u=>
    have D:b=a:=X b (by rw[q];simp);subst D;rw[G] at e;cases e;injection d with d
    exact absurd d (by decide)
  have hM:Mod K Q (OF f.heap H):=⟨T,i R,⟨W,i j,I⟩,let⟨mc,t,y⟩:=U;⟨mc,i t,y⟩,⟨let⟨mc,t,y⟩:=l.statics;⟨mc,i t,y⟩,let⟨mm,t,y⟩:=l.mods;⟨mm,i t,y⟩,⟨W,i j,I⟩,let⟨Z,bm,ob,t,y,h3,h4,h5⟩:=l.main;⟨Z,bm,ob,i t,y,g h3 (hbm h3 h4),h4,h5⟩⟩⟩;have e0:Et P w K Q (OF f.heap H) ji [] f H:=⟨rfl,hM,λb o e=>Ec e,Nat.le_of_eq (J1 _ _),trivial,λb j=>absurd (show b∈([]:List aL) from j) (by simp),λq c t y=>(J q c t y).elim,M,.of_eq hg⟩;refine je ((F _ T (i R)).run ji [] f H ⟨[.ref a],[]⟩ [.ref a] [.ref a] _ _ hr e0 (B f (.ref a)) (.cons rfl .nil) (Y H hO hS)) λr p h=>?_
  cases r with
  | error e=>exact(hCX H e p h).elim
  | ok fl=>
   cases fl with
   | next=>exact eI h
   | brk=>exact eI h
   | cont=>exact eI h
   | ret u=>
    obtain⟨v,H',os,L,un,N,r',q⟩:=h;have q':v = .bl aC:=q;subst q';obtain rfl:u=aH.bool aC:=r';refine⟨rfl,OldK.of_keep λb o e=>?_,os,L⟩
    cases q:H b with
    | none=>exact un.keep b o e q (by intro z;exact absurd (show b∈([]:List aL) from z) (by simp)) (by simp)
    | some u=>
     rcases hO b with z | ⟨ob,xs,z⟩
     ·rw[q] at z;cases z
     ·have z2:=un.frzs b ob _ z;obtain⟨e1,_⟩:=M b _ z;obtain⟨e2,_⟩:=N b _ z2;rw[e] at e1;cases e1;exact e2
 cases hk:K.lookup a with
 | some o=>
  -- the script is one of the module's own objects
  have e:=KX a o hk;rw[G] at e;cases e;refine A (λ_=>none) (λ_=>.inl rfl) (.inr ⟨_,vs.toArray,_,hk,rfl,rfl,rfl,by rw[aP,E];exact hl,by simpa using rv⟩) (λb u z=>by have C:(none:Option HO)=aA u:=z;cases C) (λb z=>absurd rfl z) λz=>absurd rfl z
 | none=>
  refine A (λb=>if b=a then aA (.frz { cls:=.type "list",data:=.seq vs.toArray } (.lst (O.map V.int))) else none) (λb=>?_) (.inl (.inr ⟨{ cls:=.type "list",data:=.seq vs.toArray },kr rfl⟩)) (λb u z=>?_) (λb z=>?_) λ_=>hk
  ·by_cases j:b=a
   ·exact .inr ⟨_,_,kr j⟩
   ·exact .inl (ku j)
  ·by_cases j:b=a
   ·have C:=(kr j).symm.trans z;cases C;subst j;exact⟨G,by rw[aO];exact hl,vs,_,rv,G⟩
   ·have C:=(ku j).symm.trans z;cases C
  ·by_cases j:b=a
   ·exact j
   ·exact absurd (ku j) z
noncomputable def XH(s:bb):Arguments:=match s with
 | .FunctionDef _ a _ _ _ _ _ _ _ _=>a
 | _=>{ posonlyargs:=[],args:=[],vararg:=none,kwonlyargs:=[],kw_defaults:=[],kwarg:=none,defaults:=[] }
noncomputable def Yu(s:bb):List bb:=match s with
 | .FunctionDef _ _ b _ _ _ _ _ _ _=>b
 | _=>[]
noncomputable def Zf(s:bb):dP:=match s with
 | .FunctionDef _ _ _ _ _ _ sc _ _ _=>sc
 | _=>{ kind:=.function,names:=[],isGenerator:=aB,isCoroutine:=aB }
abbrev Lw:Es:=λ_ _ _ _ _ _=>False
abbrev E0:XK:=λ_ _ _=>False
theorem A3{X:Cx}:Lr Lw X E0:=λ_ _ _ _ _ _ _ h=>h.elim
structure Fun(K:aD)(x qual:ak)(st:bb)(f:aL)(fd:du):Prop where
 ex:∃(oc:aH) (od:Option aL) (kV doc pm:aH) (an:Option aL) (cdv ct:aH) (osl:Array (Option aH)),
  fd=ck x qual (XH st) (Yu st) (Zf st) .none kV doc pm an cdv ct/\K.lookup f=aA ⟨oc,od,.func fd,osl⟩/\cZ K cdv qual=aC
 kp:fV K (.ref f)=aC
section
variable {P:bW} {w:cN} {K:aD} {mg:ak->Option aH} {base:b9}
theorem Fun.ok{x b:ak}{st:bb}{f:aL}{j:du}{N e:List ak}{k:Nat}{sp:Sp}(F:Fun K x b st f j)(S:Zm N e (Zf st))(len:∀vs H Q E,sp vs H Q E->vs.length=e.length)
  (d:∀(c:aH)(A:cH)(a:List ju)(s:aN)(H:Hp)(vs:List V)(Q:VK)(E:XK),Room k (A.deeper (gE b (Zf st) s.heap.objs.size f c))->sp vs H Q E->
   ∃t,PSs (Qd Lw P w K mg base N b (Zf st) f c A a s H E).nox (Yu st) t/\t { nx:=λ_ l=>Q .non l,rt:=Q } (start N vs) H):Ru P w K mg base Lw (k+1) f j e sp:=by
 obtain⟨u,y,kV,n,r,v,c,ct,o,rfl,p,i⟩:=F.ex;refine Xe p i S len λA a s H vs Q E m g=>?_;obtain⟨t,h,q⟩:=d c A a s H vs Q E m g;exact⟨t,h.nox,q⟩
theorem Fun.binds{x a:ak}{st:bb}{f:aL}{i:du}{d:List ak}(F:Fun K x a st f i)
  (h:∀(kV b e:aH)(g:Option aL)(c ct:aH)(us:List aH),us.length=d.length->iG (ck x a (XH st) (Yu st) (Zf st) .none kV b e g c ct) ⟨us,[]⟩=pure (d.zip us)):Binds K i d []:=by
 obtain⟨m,n,kV,b,e,g,c,ct,k,rfl,l,j⟩:=F.ex;exact .all (h kV b e g c ct)
theorem Bw{x a:ak}{st:bb}{f:aL}{j:aH}{i h:Option aL}{e:Array (Option aH)}{kV d g b ct:aH}(l:K.lookup f=aA ⟨j,i,.func (ck x a (XH st) (Yu st) (Zf st) .none kV d g h b ct),e⟩)
  (c:cZ K b a=aC) (k:fV K (.ref f)=aC):Fun K x a st f (ck x a (XH st) (Yu st) (Zf st) .none kV d g h b ct):=⟨⟨j,i,kV,d,g,h,b,ct,e,rfl,l,c⟩,k⟩
end
section
variable {X:Cx}
theorem pv(i:Nat){x:ak}{pos:el}(b:X.N[i]?=aA x:=by rfl)(d:Vis X.env.scope x:=by first | exact j1 rfl | exact il (j1 rfl) | exact il (il rfl))(c:(x==("__debug__" : ak))=aB:=by decide)
  (a:(x==("__classdict__" : ak))=aB:=by decide):PE X (.Name x pos) (Pq i):=CP b d c a
end
theorem A4{A B:Prop}(h:B):if aB=aC then A else B:=by rw[ku bT];exact h
theorem A5{A B:Prop}(h:A):if aC=aC then A else B:=by rw[kr rfl];exact h
noncomputable def Same(H H':Hp):Prop:=∀b o,H b=aA o->H' b=aA o
theorem Same.refl(H:Hp):Same H H:=λ_ _ h=>h
theorem Same.trans{H d e:Hp}(a:Same H d)(b:Same d e):Same H e:=λc o h=>b c o (a c o h)
theorem Same.free{H a:Hp}(e:Same H a){l:aL}(h:a l=k9):H l=k9:=by
 cases q:H l with
 | none=>rfl
 | some o=>
  rw[e l o q] at h;cases h
end L2
set_option maxHeartbeats 4000000
namespace L2
open PySem PySem.Spec PyProof.Rows
noncomputable def XM(cells:List (ak×aL)):List (ak×dR)->List (ak×aL)->List (ak×aL)
 | [],acc=>acc
 | (n,k)::r,acc=>XM cells r (if(k==bQ)=aC then(n,(cells.lookup n).getD 0)::acc else acc)
theorem UM{env:ju}:∀(names:List (ak×dR))(acc:List (ak×aL)),(∀y∈names,y.2 = .free->(env.cells.lookup y.1).isSome=aC)->
  (forIn (m:=Sem) names acc λ(x:ak×dR) (d:List (ak×aL))=>
   match x with
   | (name,kind)=>if(kind==bQ)=aC then do
     let c <-cellOf env name
     pure (eK ((name,c)::d))
    else pure (eK d))=pure (XM env.cells names acc)
 | [],acc,_=>rfl
 | (n,k)::r,acc,h=>by
  rw[List.forIn_cons];have e:=λa=>UM r a λy i=>h y (aT _ i)
  cases hk:(k==bQ) with
  | true=>
   have f:=h (n,k) aZ (by simpa using hk);obtain⟨c,b⟩:=bq.mp f;have b:env.cells.lookup n=aA c:=b;have g:cellOf env n=pure c:=by unfold cellOf;rw[b]
   dsimp only
   rw[hk,kr rfl,g];refine jj (e ((n,c)::acc)) ?_;show _=pure (XM env.cells r (if(k==bQ)=aC then(n,(env.cells.lookup n).getD 0)::acc else acc));rw[kr hk,b];rfl
  | false=>
   dsimp only
   rw[hk,ku bT];refine jj (e acc) ?_;show _=pure (XM env.cells r (if(k==bQ)=aC then(n,(env.cells.lookup n).getD 0)::acc else acc));rw[ku (by rw[hk];exact bT)]
theorem WO{a:dP}{env:ju}(h:∀y∈a.names,y.2 = .free->(env.cells.lookup y.1).isSome=aC):closureFor a env=pure (XM env.cells a.names []):=by
 have e:=UM a.names [] h;unfold closureFor
 dsimp only
 rw[e];rfl
theorem W8{cells:List (ak×aL)}{x:ak}{c:aL}:∀(names:List (ak×dR))(acc:List (ak×aL)),(∀y∈names,y.2 = .free->(cells.lookup y.1).isSome=aC)->(acc.lookup x=aA c->cells.lookup x=aA c)->
  (XM cells names acc).lookup x=aA c->cells.lookup x=aA c
 | [],_,_,h,e=>h e
 | (n,k)::r,acc,hf,h,e=>by
  refine W8 r _ (λy g=>hf y (aT _ g)) ?_ e;intro q;by_cases f:(k==bQ)=aC
  ·rw[kr f,bU] at q
   cases hx:x==n with
   | true=>
    rw[hx] at q;have b:x=n:=by simpa using hx
    obtain⟨d,a⟩:=bq.mp (hf (n,k) aZ (by simpa using f));have a:cells.lookup n=aA d:=a;rw[a] at q;rw[b,a];exact q
   | false=>rw[hx] at q;exact h q
  ·rw[ku f] at q;exact h q
theorem Qf{cells:List (ak×aL)}{x:ak}:∀(names:List (ak×dR))(acc:List (ak×aL)),(acc.lookup x).isSome=aC->((XM cells names acc).lookup x).isSome=aC
 | [],_,h=>h
 | (n,k)::r,acc,h=>by
  refine Qf r _ ?_;split
  ·rw[bU];split<;>simp_all
  ·exact h
theorem W9{cells:List (ak×aL)}{x:ak}:∀(names:List (ak×dR))(acc:List (ak×aL)),(x,bQ)∈names->((XM cells names acc).lookup x).isSome=aC
 | (n,k)::r,acc,h=>by
  rcases a9.mp h with e | h
  ·cases e;refine Qf r _ ?_;rw[kr (by decide),bU];simp
  ·exact W9 r _ h
structure CompScope(N:List ak)(around scope:dP)(own fr:List ak)(ix:List Nat):Prop where
 kind:scope.kind = .function
 nocell:∀y∈scope.names,y.2≠.cell
 names:∀y∈scope.names,y.2 = .local->scope.names.lookup y.1=aA .local
 frees:∀y∈scope.names,y.2 = .free->(around.names.lookup y.1=aA .cell\/around.names.lookup y.1=aA .free)
 slots:fr.map aA=ix.map (λi=>N[i]?)
 outs:∀x∈fr,(x,bQ)∈scope.names
 apart:∀x∈fr,scope.names.lookup x≠aA .local
noncomputable def ZI(X:Cx)(N':List ak)(scope:dP)(cl:List (ak×aL))(C:aL)(s:aN)(H:Hp)(ex:List aL):Cx:=
 { X with N:=N',s₀:=s,H₀:=H,env:=ip scope cl C X.env,outer:=X.stack,ex:=ex,fn:=λ_=>aB,pn:=[],xe:=λ_ _=>False }
noncomputable def Z1(n:Nat)(ix:List Nat)(σ:St):St:=aX n none++ix.map (λi=>(σ[i]?).join)
theorem YT{env:ju}{x:ak}:∀{names:List (ak×dR)}{k:dR},names.lookup x=aA k->
  (names.map λ(n,k)=>if(k==bQ&&env.scope.kind==.function&&env.kindOf n==aA .cell) then(n,br) else(n,k)).lookup x =
   aA (if(k==bQ&&env.scope.kind==.function&&env.kindOf x==aA .cell)=aC then br else k)
 | [],_,h=>by simp at h
 | (n,k')::r,k,h=>by
  show List.lookup x ((if(k'==bQ&&env.scope.kind==.function&&env.kindOf n==aA .cell)=aC then(n,br) else(n,k'))::_)=_
  cases hx:x==n with
  | true=>
   simp only[bU,hx] at h;cases h;have e:x=n:=by simpa using hx
   subst e;split
   ·simp[bU]
   ·simp[bU]
  | false=>
   simp only[bU,hx] at h;split
   ·simp only[bU,hx];exact YT h
   ·simp only[bU,hx];exact YT h
theorem We{env:ju}{x:ak}:∀{names:List (ak×dR)}{k':dR},
  (names.map λ(n,k)=>if(k==bQ&&env.scope.kind==.function&&env.kindOf n==aA .cell) then(n,br) else(n,k)).lookup x=aA k'->∃k,names.lookup x=aA k
 | [],_,h=>by simp at h
 | (n,k0)::r,k',h=>by
  have h:List.lookup x ((if(k0==bQ&&env.scope.kind==.function&&env.kindOf n==aA .cell)=aC then(n,br) else(n,k0))::_)=aA k':=h
  cases hx:x==n with
  | true=>exact⟨k0,by simp[bU,hx]⟩
  | false=>
   have:∃k,r.lookup x=aA k:=by
    apply We (env:=env) (k':=k');split at h<;>simpa [bU,hx] using h
   obtain⟨k,e⟩:=this;exact⟨k,by simp[bU,hx,e]⟩
section
variable {X:Cx} {kf:List (aL×dN)} {σ:St} {H:Hp} {s:aN} {own fr:List ak} {ix:List Nat} {scope:dP}
theorem CompScope.clos(S:CompScope X.N X.env.scope scope own fr ix)(I:Inv X kf σ H s):∀y∈scope.names,y.2 = .free->(X.env.cells.lookup y.1).isSome=aC:=λy b a=>by obtain⟨c,e⟩:=I.ok.has y.1 (S.frees y b a);rw[e];rfl
end
theorem OM{prog:bW}{w:cN}{A:cH}{R:k8->aN->Prop}{s:aN}{D a z:av}{E:List av}{q:dP}{pos:el}{C B:aH}{env:ju}(I:Nat->aN->Prop)
  (turn:∀n s,I n s->bH (model prog w) A (k7 C) (λr i=>match r with
   | none=>R (.ok .next) i
   | some v=>bH (model prog w) A (iY a C v) (λ_ g=>bH (model prog w) A (assign a env v) (λ_ j=>
     bH (model prog w) A (forIn E aC λc r=>if r=aC then do let ok <-kP c env (eval c env);pure (eK ok) else pure (eK r)) (λok d=>
      if ok=aC then bH (model prog w) A (eval D env) (λx o=>
       bH (model prog w) A (call (.builtin "list.append") [B,x]) (λ_ k=>∃m,m<n/\I m k) (jK (model prog w) A env λe b=>R (.error e) b) o) (jK (model prog w) A env λe b=>R (.error e) b) d
      else ∃m,m<n/\I m d) (jK (model prog w) A env λe b=>R (.error e) b) j) (jK (model prog w) A env λe b=>R (.error e) b) g) (jK (model prog w) A env λe b=>R (.error e) b) i) (jK (model prog w) A env λe b=>R (.error e) b) s)
  (n:Nat) (h:I n s) :
  iO (model prog w) A (.compLoop (.ListComp D [⟨a,z,E,0⟩] q pos) 0 C B env) R s:=by
 refine codeAny_loop rfl I (λn s F=>?_) n h;refine wpAny_noted ?_;refine aM (jQ (aM (c9 (turn n s F) (λr i h₁=>?_) λ_ _ f=>f)))
 cases r with
 | none=>exact aj h₁
 | some v=>
  refine aM (c9 h₁ (λ_ g p=>?_) λ_ _ f=>f);refine aM (c9 p (λ_ j t=>aM (c9 t (λok d l=>?_) λ_ _ f=>f)) λ_ _ f=>f)
  cases ok with
  | false=>exact aj ⟨rfl,l⟩
  | true=>
   exact aM (aM (c9 l (λx o y=>aM (c9 y (λ_ k u=>aj (aj ⟨rfl,u⟩)) λ_ _ f=>f)) λ_ _ f=>f))
noncomputable def Lx(X:Cx)(kj:List av)(t:TT):Prop:=
 ∀(kf:List (aL×dN))(s:aN)(σ:St)(H:Hp)(Q:Bool->Hp->Prop),Inv X kf σ H s->t σ H Q->
  bH (model X.prog X.w) X.A (forIn kj aC λc r=>if r=aC then do let ok <-kP c X.env (eval c X.env);pure (eK ok) else pure (eK r)) (TP X kf σ Q) X.xe s
noncomputable def A6:TT:=λ_ H Q=>Q aC H
theorem ED{X:Cx}:Lx X [] A6:=λ_ _ _ H _ I h=>wpAny_tests_nil ⟨H,I,h⟩
theorem EE{X:Cx}{c:av}{t:TT}(h:PT X c t):Lx X [c] t:=λb s d H Q I a=>wpAny_tests_one (h b s d H Q I a)
noncomputable def A7(n:Nat)(ix:List Nat)(g:TG)(tt:TT)(te:TE)(σ:St)(Q:VK)(J:It)(H1:Hp):Prop:=
 ∃W:Nat->Nat->List V->Hp->Prop,(∃m,W 0 m [] H1)/\∀i m ys H,W i m ys H->ys.length<=sizeLine/\
  ((J.stop i H/\∀p,H p=none->Q (.ref p) (upd H p (.lst ys)))\/
   (J.go i H/\∃N:List V->Hp->Prop,(∀ys' H',N ys' H'->∃m',m'<m/\W (i+1) m' ys' H')/\
    ∀x H',J.yld i H x H'->g x (Z1 n ix σ) H' λσ2 H2=>σ2.drop n=(Z1 n ix σ).drop n/\tt σ2 H2 λb H3=>if b=aC then te σ2 H3 λy H4=>N (ys++[y]) H4 else N ys H3))
noncomputable def Qg(n:Nat)(ix:List Nat)(wi:TI)(g:TG)(tt:TT)(te:TE):TE:=λσ H Q=>wi σ H λJ H1=>A7 n ix g tt te σ Q J H1
theorem Ic{n:Nat}{ix:List Nat}{b a:St}(d:a.drop n=(Z1 n ix b).drop n):∀(i:Nat) v,(Z1 n ix b)[i]?=aA (aA v)->a[i]?=aA (aA v):=λi v e=>by
 by_cases c:i<n
 ·unfold Z1 at e;rw[ah (by simpa using c),ba] at e;rw[kr c] at e;cases e
 ·have q:=congrArg (λl=>l[i-n]?) d;simp only[dS] at q;rw[show n+(i-n)=i by omega] at q;rw[q];exact e
section
variable {X:Cx} {tg ko iter:av} {kj:List av} {scope:dP} {pos:el} {own fr:List ak} {ix:List Nat} {wi:TI} {g:TG} {tt:TT} {te:TE}
theorem HR{Y:List (aL×dN)}{B:St}{D:Hp}{s2:aN}{E:List aL}{h₁:b9}{tk:Nat}{C:aL}(S:CompScope X.N X.env.scope scope own fr ix)(d:Inv X Y B D s2)(f2:∀b∈E,Vh X Y D b)(T:∀b∈E,b<s2.heap.objs.size)
  (M:s2.heap.objs.size<=C) (N:h₁.Ns C λ_=>none) (s:∀b o,s2.heap.get? b=aA o->h₁.get? b=aA o) :
  Inv (ZI X (own++fr) scope (XM X.env.cells scope.names []) C s2 D E) [] (Z1 own.length ix B) D { s2 with heap:=h₁,toks:=tk }:=by
 have cs:=S.clos d;have sub:∀x c,(XM X.env.cells scope.names []).lookup x=aA c->X.env.cells.lookup x=aA c:=λx c e=>W8 scope.names [] cs (λh=>by simp at h) e;have P:=d.stkSub
 have J:(ZI X (own++fr) scope (XM X.env.cells scope.names []) C s2 D E).Ok:=by
  refine⟨d.ok.mod,S.kind,d.ok.glob,d.ok.blt,M,λx y c t f=>d.ok.inj x y c (sub x c t) (sub y c f),λx hx=>?_,λx c h _=>?_,d.ok.hd,d.ok.frames,.inl rfl,λb A=>⟨?_,λx c e=>?_⟩,d.bs,?_,λb o e A=>?_,λb A z=>?_,d.stack,d.stkFree,d.ok.tab.un d.base,λ_ z=>absurd rfl z⟩
  ·-- the cells of the block's free names
   have O:(x,bQ)∈scope.names:=by
    have:∃k',(relabel scope X.env).names.lookup x=aA k'/\(k' = .cell\/k' = .free):=by
     rcases hx with h | h
     ·exact⟨_,h,.inl rfl⟩
     ·exact⟨_,h,.inr rfl⟩
    obtain⟨k',e,U⟩:=this;obtain⟨k,F⟩:=We e;have I:=YT (env:=X.env) F;have e:(scope.names.map λ(n,k)=>if(k==bQ&&X.env.scope.kind==.function&&X.env.kindOf n==aA .cell) then(n,br) else(n,k)).lookup x=aA k':=e;rw[I] at e;have m:=cu F
    cases k with
    | free=>exact m
    | cell=>exact absurd rfl (S.nocell _ m)
    | _=>simp at e;subst e;rcases U with z | z<;>cases z
   exact bq.mp (W9 _ _ O)
  ·cases h
  ·-- E differs from the frame
   exact bA (aa (T b A) M)
  ·exact(f2 b A).2.2.2.2.1 x c (sub x c e)
  ·exact aQ d.ok.bsz d.sz
  ·rcases(f2 b A).2.2.2.1 with z | z
   ·exact d.ok.noex b o e z
   ·exact absurd (aa (aS (d.ok.bs b o e).1) z) (cD _)
  ·rcases a9.mp (P b z) with e | e
   ·exact(f2 b A).2.1 e
   ·exact(f2 b A).2.2.1 e
 have sl:fr.length=ix.length:=by simpa using congrArg gL S.slots
 refine⟨J,rfl,d.bare,Un.kept s,⟨_,N,λi x v t f g=>?_⟩,λx c e=>?_,d.hok.fresh M,λx c e=>d.freeC x c (sub x c e),λp hp=>absurd (show p∈([]:List (aL×dN)) from hp) (by simp),d.hok.kept s,?_⟩
 ·-- a name of the def around
  have t:(own++fr)[i]?=aA x:=t;have H:¬i<own.length:=λH=>by unfold Z1 at f;rw[ah (by simpa using H),ba,kr H] at f;cases f
  rw[bJ (by omega)] at t;unfold Z1 at f;rw[bJ (by simpa using H),cy,aW] at f
  cases ej:ix[i-own.length]? with
  | none=>rw[ej] at f;cases f
  | some j=>
   rw[ej] at f;have f:(B[j]?).join=aA v:=by simpa using f
   have f:B[j]?=aA (aA v):=by
    cases q:B[j]? with
    | none=>rw[q] at f;cases f
    | some z=>rw[q] at f;exact congrArg aA f
   have hN:X.N[j]?=aA x:=by have q:=congrArg (λl=>l[i-own.length]?) S.slots;simp only[aW,t,ej] at q;exact(ay q).symm
   have hm:=S.outs x (cI t);have hk:=S.frees _ hm rfl;obtain⟨m,hn,hl⟩:=d.loc;obtain⟨u,r,l⟩:=hl j x v hN f (by rcases hk with k | k;exact .inr (.inl k);exact .inr (.inr k));refine⟨u,r,?_⟩;rcases l with⟨k,_⟩ | ⟨_,c,hc,w⟩
   ·have k:X.env.scope.names.lookup x=aA .local:=k;rcases hk with q | q<;>rw[k] at q<;>cases q
   ·obtain⟨c',G⟩:=bq.mp (W9 _ [] hm);have W:=sub x c' G;rw[hc] at W;cases W;refine .inr ⟨?_,c,G,?_⟩
    ·have g:=g;rcases g with g | g
     ·obtain⟨Z,F⟩:=We g;have I:=YT (env:=X.env) F;have g:(scope.names.map λ(n,k)=>if(k==bQ&&X.env.scope.kind==.function&&X.env.kindOf n==aA .cell) then(n,br) else(n,k)).lookup x=aA .local:=g;rw[I] at g
      have R:Z = .local:=by
       cases Z<;>simp at g ⊢
       split at g<;>cases g
      subst R;exact absurd F (S.apart x (cI t))
     ·exact g
    ·obtain⟨o,Q,L⟩:=w;exact⟨o,s _ _ Q,L⟩
 ·obtain⟨v,o,Q,L⟩:=d.cell x c (sub x c e);exact⟨v,o,s _ _ Q,L⟩
 ·show(Z1 own.length ix B).length=(own++fr).length;unfold Z1;rw[az,cy,aO,az,sl]
noncomputable def N4(fv:ak->Bool)(X:Cx)(N':List ak)(scope:dP)(cl:List (ak×aL))(C:aL)(s:aN)(H:Hp)(ex:List aL):Cx:=
 { X with N:=N',s₀:=s,H₀:=H,env:=ip scope cl C X.env,outer:=X.stack,ex:=ex,fn:=fv,pn:=[],xe:=λ_ _=>False }
theorem P6{fv:ak->Bool}{N:List ak}{cl:List (ak×aL)}{kk:Nat}{C D:aL}{h₁:b9}{tk:Nat}{kf:List (aL×dN)}{σ:St}{w:Hp}{s2:aN}{k:List aL}{it:aL}{tn:Nat->b9->Prop}{J:It}{Fin:List V->Hp->Prop}{RR:aH->aL->k8->aN->Prop}
  (E:X.calm=aC) (hg:PG (N4 fv X N scope cl C s2 w k) tg g) (ht:Lx (N4 fv X N scope cl C s2 w k) kj tt) (he:PE (N4 fv X N scope cl C s2 w k) ko te)
  (I2:Inv X kf σ w s2) (T:OG X.prog X.w X.K tg J k it tn) (st2:tn 0 s2.heap) (f2:∀b∈k,Vh X kf w b)
  {W:Nat->Nat->List V->Hp->Prop} {m0:Nat} (w0:W 0 m0 [] w)
  (turn:∀i m f H,W i m f H->f.length<=sizeLine/\
   ((J.stop i H/\Fin f H)\/
    (J.go i H/\∃N:List V->Hp->Prop,(∀ys' h,N ys' h->∃m',m'<m/\W (i+1) m' ys' h)/\
     ∀x h,J.yld i H x h->g x (Z1 kk ix σ) h λσ2 w=>σ2.drop kk=(Z1 kk ix σ).drop kk/\tt σ2 w λb t=>if b=aC then te σ2 t λy H4=>N (f++[y]) H4 else N f t)))
  (hRR:∀(D C:aL)(oC:dN)(m:ak->Option aH)(I:aN)(h:Hp)(f:List V),Inv X (kf++[(C,oC)]) σ (upd h D (.lst f)) I->I.heap.get? C=aA oC->I.heap.Ns C m->Vh X kf (upd h D (.lst f)) C->h D=none->Fin f h->RR (.ref D) C (.ok .next) I)
  (hfp:∀b∈k,b<s2.heap.objs.size) (hC:@Eq Nat C (D+1)) (hDD:@Eq Nat s2.heap.objs.size D) (old:∀b o,s2.heap.get? b=aA o->h₁.get? b=aA o) (hacc:h₁.get? D=aA { cls:=.type "list",data:=.seq ([]:List aH).toArray 0 })
  (I0:∀tk,Inv (N4 fv X N scope cl C s2 w k) [] (Z1 kk ix σ) w { s2 with heap:=h₁,toks:=tk }) (hcl:∀x c,cl.lookup x=aA c->c≠D) :
  iO (model X.prog X.w) X.A (.compStart (.ListComp ko [⟨tg,iter,kj,0⟩] scope pos) 0 (.ref it) (.ref D) (ip scope cl C X.env)) (RR (.ref D) C) { s2 with heap:=h₁,toks:=tk }:=by
 have hDC:@Ne Nat D C:=by omega
 have j:∀b,b<s2.heap.objs.size->b≠C/\b≠D:=λb a=>by rw[hDD] at a;exact⟨bA (by omega),bA a⟩
 have Z:iO (model X.prog X.w) X.A (.compLoop (.ListComp ko [⟨tg,iter,kj,0⟩] scope pos) 0 (.ref it) (.ref D) (ip scope cl C X.env)) (RR (.ref D) C) { s2 with heap:=h₁,toks:=tk }:=by
  generalize l:N4 fv X N scope cl C s2 w k=Y at I0 hg ht he
  have G:∀{h:Hp}{pn:List (aL×dN)},(∀b∈k,h b=none)->(∀p∈pn,∀b∈k,p.1≠b)->∀b∈k,Vh Y pn h b:=λ{h pn} hn B b a=>by
   subst l;refine⟨hn b a,(j b (hfp b a)).1,λz=>?_,.inl a,λx c e=>?_,λp hp'=>B p hp' b a⟩
   ·exact(I0 0).ok.exfs b a z
   ·exact((I0 0).ok.exf b a).2 x c e
  have dfp:=λb a=>aw (j b (hfp b a)).2;have S:∀x c,Y.env.cells.lookup x=aA c->c≠D:=by subst l;exact hcl
  have hfsD:D∉Y.fs:=λz=>by subst l;obtain⟨_,o,ho,_⟩:=(I0 0).ok.funs.mem z;have:=aS ho;have:D<s2.heap.objs.size:=this;exact cD _ (Nat.lt_of_lt_of_eq this hDD)
  have eL:Y.env.locals=C:=by subst l;rfl
  have eS:Y.s₀=s2:=by subst l;rfl
  have eP:Y.pn=[]:=by subst l;rfl
  refine OM (λn I=>∃i f A F h,Inv Y [] (Z1 kk ix σ) h I/\tn i I.heap/\(∀b∈k,h b=none)/\I.heap.get? D=aA { cls:=.type "list",data:=.seq A F }/\Vals f A.toList/\h D=none/\W i n f h) ?_ m0
   ⟨0,[],#[],0,w,I0 _,T.keep _ _ _ st2 λb _ o e=>old b o e,λb a=>(f2 b a).1,hacc,.nil,I2.hok.fresh (by omega),w0⟩
  rintro n s3 ⟨i,f,A,F,t,I3,st3,fr3,oD,vD,nD,w3⟩;obtain⟨hlen,U⟩:=turn i n f t w3;have hsize:A.size<=sizeLine:=by have:=vD.length;simp only[fG] at this;omega
  have pD:Inv Y [(D,{ cls:=.type "list",data:=.seq A F })] (Z1 kk ix σ) t s3:=I3.pins_of λp B=>by rw[ag.mp B];exact⟨oD,nD,by rw[eL];exact hDC,hfsD,λv z=>by cases z⟩
  have YP:Y.prog=X.prog:=by subst l;rfl
  have Yw:Y.w=X.w:=by subst l;rfl
  have YK:Y.K=X.K:=by subst l;rfl
  have YA:Y.A=X.A:=by subst l;rfl
  have Yx:Y.xe=λ_ _=>False:=by subst l;rfl
  have Ye:Y.env=ip scope cl C X.env:=by subst l;rfl
  have ne1:∀p∈[((D,{ cls:=.type "list",data:=.seq A F }):aL×dN)],∀b∈k,p.1≠b:=λp B b a=>by rw[ag.mp B];exact dfp b a
  rcases U with⟨stop,qn⟩ | ⟨go,N,hN,step⟩
  ·have d:=T.done Y YP Yw YK (by subst l;exact E) i _ s3 _ t (jK (model X.prog X.w) X.A (ip scope cl C X.env) λe I=>RR (.ref D) C (.error e) I) pD (G fr3 ne1) st3 stop;rw[YA] at d;refine YS d λr s4 ⟨hr,I4⟩=>?_;subst hr;obtain⟨oD4,s,_⟩:=I4.pin (D,_) (by rw[eP];exact aZ);obtain⟨m,hn,_⟩:=I4.loc;rw[eL] at hn;obtain⟨oC,es,ep,hoC,hdC,hrest⟩:=id hn;have Q:t C=none:=by have:=I4.free;rw[eL] at this;exact this
   have un:Un (Lh X.stack) k w t s2.heap s4.heap:=by have:=I4.base;subst l;exact this
   have lt2:∀b o,s2.heap.get? b=aA o->b≠D:=λb o e=>(j b (aS e)).2
   have un':Un (Lh X.stack) k w (upd t D (.lst f)) s2.heap s4.heap:=by
    refine⟨un.keep,un.slot,λb o e n hx=>?_,un.there,λb xs e=>?_,λb o u e=>?_,λb ps e=>?_⟩
    ·rw[upd_ne (lt2 b o e)];exact un.free b o e n hx
    ·have q:=un.tups b xs e;rw[upd_ne (Zu q s)];exact q
    ·have q:=un.frzs b o u e;rw[upd_ne (Zu q s)];exact q
    ·obtain⟨more,q⟩:=un.tbls b ps e;exact⟨more,by rw[upd_ne (Zu q s)];exact q⟩
   have hok4:HOk X.prog X.w t s4.heap:=by have:=I4.hok;rw[YP,Yw] at this;exact this
   have hok':HOk X.prog X.w (upd t D (.lst f)) s4.heap:=λb u q=>by
    by_cases a:b=D
    ·subst a;rw[Zt] at q;cases q;exact⟨hlen,A.toList,F,vD,by simpa using oD4⟩
    ·rw[upd_ne a] at q;exact(hok4 b u q).stay (λc v _ z=>z) (λc z=>by rw[upd_ne (Zu z s)];exact z) (λc xs z=>by rw[upd_ne (Zu z s)];exact z) λc u z=>by rw[upd_ne (Zu z s)];exact z
   have os4:s4.os=s2.os:=by rw[I4.os,eS]
   have I5:=I2.call' os4 un' hok' I4.bare λb a=>⟨(f2 b a).2.2.2.1,(f2 b a).2.1,(f2 b a).2.2.2.2.1,(f2 b a).2.2.2.2.2⟩;have CL:C≠X.env.locals:=λz=>by exact(j _ I2.lt).1 z.symm
   have P:Vh X kf (upd t D (.lst f)) C:=I2.fpOk (by omega) (by rw[upd_ne (aw hDC)];exact Q);refine hRR D C oC m s4 t f (I5.pins_of λp B=>?_) hoC hn P s qn;rcases bg.mp B with z | z
   ·exact I5.pin p (af _ z)
   ·rw[ag.mp z];exact⟨hoC,P.1,P.2.1,P.2.2.1,λv z=>by rw[hdC] at z;cases z⟩
  ·have d:=T.item Y YP Yw YK (by subst l;exact E) i _ s3 _ t (λ_ _=>False) pD (G fr3 ne1) st3 go;rw[YA] at d;refine c9 d (λr s4 ⟨u,hr,h4⟩=>?_) λ_ _ z=>z.elim;subst hr;refine c9 h4 (λ_ s5 ⟨x,H5,I5,r5,y5,st5,fr5⟩=>?_) λ_ _ z=>z.elim;have I5':=I5.pinned (G fr5 ne1) (T.obj _ _ st5);have a6:=hg _ s5 _ H5 x u _ I5' r5 (step x H5 y5);rw[YP,Yw,YA,Ye,Yx] at a6;refine c9 a6 (λ_ s6 ⟨R,H6,I6,dr,q6⟩=>?_) λ_ _ z=>z.elim;have a7:=ht _ s6 R H6 _ I6 q6;rw[YP,Yw,YA,Ye,Yx] at a7;refine c9 a7 (λok s7 ⟨H7,I7,q7⟩=>?_) λ_ _ z=>z.elim
   have back:∀{L:Hp}{M:aN},Inv Y ([((D,{ cls:=.type "list",data:=.seq A F }):aL×dN)]++TX k s5.heap) R L M->
     M.heap.get? D=aA { cls:=.type "list",data:=.seq A F }/\L D=none/\tn (i+1) M.heap/\(∀b∈k,L b=none):=λ{L M} O=>by
    obtain⟨e1,e2,_⟩:=O.pin (D,{ cls:=.type "list",data:=.seq A F }) (by simp);refine⟨e1,e2,T.keep _ _ _ st5 λb a o e=>(O.pin (b,o) (by rw[eP];exact aT _ (Vi a e))).1,λb a=>?_⟩;obtain⟨o,e,_⟩:=T.obj _ _ st5 b a;exact(O.pin (b,o) (by rw[eP];exact aT _ (Vi a e))).2.1
   have unp:∀{L:Hp}{M:aN},Inv Y ([((D,{ cls:=.type "list",data:=.seq A F }):aL×dN)]++TX k s5.heap) R L M->Inv Y [] (Z1 kk ix σ) L M:=λ{L M} O=>
    (O.pins_of λp B=>absurd B (by simp)).weak (by
     have e1:=(I0 0).len;have e2:=O.len;rw[e1,e2]) (Ic dr)
   cases ok with
   | false=>
    obtain⟨e1,e2,e3,e4⟩:=back I7;obtain⟨m',hm,w7⟩:=hN _ _ q7;exact⟨m',hm,i+1,f,A,F,H7,unp I7,e3,e4,e1,vD,e2,w7⟩
   | true=>
    have a8:=he _ s7 R H7 _ I7 q7;rw[YP,Yw,YA,Ye,Yx] at a8;refine c9 a8 (λyv M ⟨y,L,O,ry,q8⟩=>?_) λ_ _ z=>z.elim;obtain⟨e1,e2,e3,e4⟩:=back O;obtain⟨m',hm,w8⟩:=hN _ _ q8;refine append_at e1 (λh9 hs9 hD9=>?_) hsize;have I9:=(unp O).turned (t':=M.toks) (λb o a e=>hs9.extBut b o a e) e2 (by rw[eL];exact hDC) (.inr (by rw[eS];omega)) S (λp B=>absurd (show p∈([]:List (aL×dN)) by rw[eP] at B;exact B) (by simp));refine⟨m',hm,i+1,f++[y],A.push yv,F+1,L,I9,T.keep _ _ _ e3 λb a o e=>hs9.extBut b o (aw (dfp b a)) e,e4,hD9,?_,e2,w8⟩;rw[Array.toList_push];exact vD.append (.cons ry .nil)
 exact codeAny_compStart_list Z (T.self X.A 0 _ _ _ (T.keep _ _ _ st2 λb _ o e=>old b o e) Z)
theorem Qh{L:List (aL×dN)}{M:St}{u:Hp}{s2:aN}{Y:List aL}{it:aL}{tn:Nat->b9->Prop}{J:It}{Fin:List V->Hp->Prop}{Z:aH->aL->k8->aN->Prop}{E:aH->aN->Prop}
  (n:X.calm=aC) (S:CompScope X.N X.env.scope scope own fr ix)
  (hg:∀cl C s H ex,PG (ZI X (own++fr) scope cl C s H ex) tg g) (ht:∀cl C s H ex,Lx (ZI X (own++fr) scope cl C s H ex) kj tt) (he:∀cl C s H ex,PE (ZI X (own++fr) scope cl C s H ex) ko te)
  (O:Inv X L M u s2) (T:OG X.prog X.w X.K tg J Y it tn) (B:tn 0 s2.heap) (f2:∀b∈Y,Vh X L u b)
  {W:Nat->Nat->List V->Hp->Prop} {m0:Nat} (w0:W 0 m0 [] u)
  (turn:∀i m ys H,W i m ys H->ys.length<=sizeLine/\
   ((J.stop i H/\Fin ys H)\/
    (J.go i H/\∃N:List V->Hp->Prop,(∀ys' H',N ys' H'->∃m',m'<m/\W (i+1) m' ys' H')/\
     ∀x H',J.yld i H x H'->g x (Z1 own.length ix M) H' λp u=>p.drop own.length=(Z1 own.length ix M).drop own.length/\tt p u λb H3=>if b=aC then te p H3 λy H4=>N (ys++[y]) H4 else N ys H3)))
  (Q:∀(D C:aL)(oC:dN)(m:ak->Option aH)(s':aN)(H':Hp)(ys:List V),Inv X (L++[(C,oC)]) M (upd H' D (.lst ys)) s'->s'.heap.get? C=aA oC->s'.heap.Ns C m->Vh X L (upd H' D (.lst ys)) C->H' D=none->Fin ys H'->Z (.ref D) C (.ok .next) s') :
  bH (model X.prog X.w) X.A (newList []) (λF A=>bH (model X.prog X.w) X.A (gi scope X.env.globals (XM X.env.cells scope.names []) [] X.env.qual none .none (aA X.env)) (λk G=>
   iO (model X.prog X.w) X.A (.compStart (.ListComp ko [⟨tg,iter,kj,0⟩] scope pos) 0 (.ref it) F { k with scope:=relabel scope X.env }) (Z F k.locals) G) E A) E s2:=by
 have I:∀b∈Y,b<s2.heap.objs.size:=λb P=>by obtain⟨o,e,_⟩:=T.obj 0 s2.heap B b P;exact aS e
 refine dH (wpAny_newFunctionEnv S.nocell (by simp) (λh₁ d a=>?_) S.kind);generalize l:s2.heap.push { cls:=.type "list",dict:=none,data:=.seq ([]:List aH).toArray }=G2 at d a ⊢;have U:G2.objs.size=s2.heap.objs.size+1:=by rw[<-l,cA]
 generalize hCC:G2.objs.size=C at d a U ⊢;generalize r:s2.heap.objs.size=D at U ⊢;have R:D≠C:=by omega
 have f:∀b,b<s2.heap.objs.size->b≠C/\b≠D:=λb P=>by rw[r] at P;exact⟨bA (by omega),bA P⟩
 have t:=λb o e=>a.extBut b o (f b (aS e)).1 (aF _ (l▸aF _ e))
 have w:h₁.get? D=aA { cls:=.type "list",data:=.seq ([]:List aH).toArray 0 }:=by
  have e0:G2.get? D=aA { cls:=.type "list",data:=.seq ([]:List aH).toArray 0 }:=by rw[<-l,<-r];exact a0 _ rfl
  exact a.extBut _ _ R (aF _ e0)
 have j:h₁.Ns C λ_=>none:=by simpa using d
 have I0:=λtk=>HR (tk:=tk) S O f2 I (by omega) j t;refine P6 (s2:=s2) (h₁:=h₁) (fv:=λ_=>aB) (N:=own++fr) (C:=C) (D:=D) (cl:=XM X.env.cells scope.names []) n (hg _ _ _ _ _) (ht _ _ _ _ _) (he _ _ _ _ _) O T B f2 w0 turn Q I U r t w I0 λx c e z=>?_;obtain⟨v,q⟩:=O.cell x c (W8 scope.names [] (S.clos O) (λh=>by simp at h) e);exact(f c q.lt).2 z
theorem EF(c:X.calm=aC)(B:PI X tg iter wi)(S:CompScope X.N X.env.scope scope own fr ix)
  (k:∀cl C s H ex,PG (ZI X (own++fr) scope cl C s H ex) tg g) (l:∀cl C s H ex,Lx (ZI X (own++fr) scope cl C s H ex) kj tt) (p:∀cl C s H ex,PE (ZI X (own++fr) scope cl C s H ex) ko te)
  (r:∀x,b7 iter X.env x=pure x:=by intro _;rfl):PE X (.ListComp ko [⟨tg,iter,kj,0⟩] scope pos) (Qg own.length ix wi g tt te):=by
 intro t s u H Q I h;refine fL rfl r (WO (S.clos I)) S.kind S.names (YS (B t s u H _ I h) λv s1 z=>YS z λE s2 M=>?_);obtain⟨it,R,Z,J,O,e,y,T,d,f2,W,⟨N,w⟩,turn⟩:=M;subst e;refine Qh c S k l p y T d f2 w turn ?_;intro D C Y m P j G F q n a A i;refine⟨m,n,λU f=>⟨.ref D,upd j D (.lst G),?_,rfl,i D A⟩⟩;exact(F.unpinned).turned (λb o L e=>f.extBut b o L e) a.1 a.2.1 a.2.2.2.1 a.2.2.2.2.1 a.2.2.2.2.2
theorem EG{i:Nat}{y:ak}{r d:el}(hN:X.N.Nodup)(P:X.N[i]?=aA y)(c:X.env.scope.names.lookup y=aA .local)(f:X.calm=aC)(Z:PI X tg iter wi)(S:CompScope X.N X.env.scope scope own fr ix)
  (z:∀cl C s H ex,PG (ZI X (own++fr) scope cl C s H ex) tg g) (A:∀cl C s H ex,Lx (ZI X (own++fr) scope cl C s H ex) kj tt) (E:∀cl C s H ex,PE (ZI X (own++fr) scope cl C s H ex) ko te)
  (l:g7 (.ListComp ko [⟨tg,iter,kj,0⟩] scope pos) (aA (.Name y r)) d.line X.env=pure aC:=by rfl)
  (G:∀x,b7 iter X.env x=pure x:=by intro _;rfl):PS X (.Assign [.Name y r] (.ListComp ko [⟨tg,iter,kj,0⟩] scope pos) d) (Ll (Qg own.length ix wi g tt te) (Th i)):=by
 intro L s M H D0 I h;rw[exec_Assign_Name_used _ _ _ _ l];refine aM (jQ (aM ?_))
 refine aM (c9 (fL rfl G (WO (S.clos I)) S.kind S.names
  (YS (Z L s M H _ I h) λv s1 U=>YS U λitv s2 h2=>?_)) (λ_ F hq=>aj (aj hq)) λ_ _ e=>e)
 obtain⟨it,fp,tn,J,H2,e,R,T,n,f2,W,⟨m0,N⟩,turn⟩:=h2;subst e;refine Qh f S z A E R T n f2 N turn ?_;intro D C u m F w ys I5 k B a Y q;refine wpAny_assign_Name (Qa I5 hN P (.inl c) (v:=.ref D) rfl (λs6 t=>?_) (.inr c));obtain⟨O,_⟩:=t.pin (C,u) (af _ (af _ aZ));obtain⟨o',es,ep,j,Q⟩:=B;rw[k] at j;cases j;refine⟨m,⟨u,es,ep,O,Q⟩,λh' p=>⟨_,upd w D (.lst ys),?_,q D Y⟩⟩;exact(t.unpinned).turned (λb o hb e=>p.extBut b o hb e) a.1 a.2.1 a.2.2.2.1 a.2.2.2.2.1 a.2.2.2.2.2
end
open AutoSeq1 (wpAny_loadPart')
section
variable {prog:bW} {w:cN} {A:cH} {E:aH->aN->Prop} {s:aN}
theorem Tj{c l:aL}{i:Nat}{items}{x:aH}{Q:aH->aN->Prop}(a:s.heap.IsTupleIter c l i)
  (g:s.heap.IsTuple l items) (h:items[i]?=aA x)
  (k:∀h',h'.IsTupleIter c l (i+1)->cT c s.heap h'->Q x { s with heap:=h' }) :
  bH (model prog w) A (gp (.ref c)) Q E s:=by
 obtain⟨o,d,j,b⟩:=id a;obtain⟨n,e,_,m,f⟩:=g
 refine aM (dG a.typeIs F.slot_tuple_iterator_next
  (fE F.slot_tuple_iterator_next a.typeIs F.entry_tuple_iterator_next ?_ (F.args_tuple_iterator_next_1 _)))
 show bH _ _ (field (.ref c) 0 >>= _) _ _ s;refine aM (cO d b rfl ?_);refine aM (cO d b rfl ?_);refine aM (dU e f ?_);simp only[eY,h];refine aM (wpAny_setField d b (by simp) (aj ⟨x,rfl,aj (k _ ?_ (jN ..))⟩));exact⟨_,i9 _ d (dN.isFreed_of_fields (j2 b _)),(dN.cls_mapFields ..).trans j,by rw[j2 b];simp[ie]⟩
theorem T4{b l:aL}{i:Nat}{items}{Q:aH->aN->Prop}(h:A.handled=none)
  (a:s.heap.IsTupleIter b l i) (n:s.heap.IsTuple l items) (k:items[i]?=none)
  (j:∀h' e,kE b s.heap h'->(∃o,h'.get? e=aA o/\o.cls = .type "StopIteration")->E (.ref e) { s with heap:=h' }) :
  bH (model prog w) A (gp (.ref b)) Q E s:=by
 obtain⟨o,g,r,f⟩:=id a;obtain⟨q,c,_,p,d⟩:=n
 refine aM (dG a.typeIs F.slot_tuple_iterator_next
  (fE F.slot_tuple_iterator_next a.typeIs F.entry_tuple_iterator_next ?_ (F.args_tuple_iterator_next_1 _)))
 show bH _ _ (field (.ref b) 0 >>= _) _ _ s;refine aM (cO g f rfl ?_);refine aM (cO g f rfl ?_);refine aM (dU c d ?_);simp only[eY,k];refine aM (kW (aM (wpAny_setField g f (by simp) ?_)));refine aM ?_;refine aM (m:=firstArgMember _ _) (wpAny_of_eq rfl ?_);refine dH ?_ (by size_fits);refine aM (wpAny_handled ?_)
 first | rw[h] | rw[h]
 refine aM (aj (wpAny_throw ?_));exact j _ _ (((jN ..).extBut.push _).push _) ⟨_,a0 _ rfl,rfl⟩
end
noncomputable def SeqB(b:Bool)(h:b9)(a:aL)(kq:Array aH):Prop:=if b=aC then h.IsList a kq else h.IsTuple a kq
noncomputable def IterB(b:Bool)(h:b9)(it a:aL)(i:Nat):Prop:=if b=aC then h.IsListIter it a i else h.IsTupleIter it a i
noncomputable def Ra(b:Bool)(K:aD)(H:Hp)(a:aL)(xs:List V):Prop:=if b=aC then SqL K H a xs else SqT K H a xs
noncomputable def VH(b:Bool)(a:aL):dN:={ cls:=.type (if b=aC then "list_iterator" else "tuple_iterator"),data:=.fields #[.ref a,.int 0 0] }
theorem SeqB.at{b:Bool}{h c:b9}{a:aL}{d:Array aH}(x:SeqB b h a d)(k:∀o,h.get? a=aA o->c.get? a=aA o):SeqB b c a d:=by
 cases b with
 | true=>obtain⟨o,e,r⟩:=(x);exact⟨o,k o e,r⟩
 | false=>obtain⟨o,e,r⟩:=(x);exact⟨o,k o e,r⟩
theorem SeqB.has{b:Bool}{h:b9}{a:aL}{c:Array aH}(x:SeqB b h a c):∃o,h.get? a=aA o:=by
 cases b with
 | true=>obtain⟨o,e,r⟩:=(x);exact⟨o,e⟩
 | false=>obtain⟨o,e,r⟩:=(x);exact⟨o,e⟩
theorem IterB.at{b:Bool}{h d:b9}{c a:aL}{i:Nat}(x:IterB b h c a i)(k:∀o,h.get? c=aA o->d.get? c=aA o):IterB b d c a i:=by
 cases b with
 | true=>obtain⟨o,e,r⟩:=(x);exact⟨o,k o e,r⟩
 | false=>obtain⟨o,e,r⟩:=(x);exact⟨o,k o e,r⟩
theorem IterB.has{b:Bool}{h:b9}{c a:aL}{i:Nat}(x:IterB b h c a i):∃o,h.get? c=aA o/\∀v,o.data≠.cell v:=by
 cases b with
 | true=>obtain⟨o,e,_,d⟩:=(x);exact⟨o,e,λv z=>by rw[d] at z;cases z⟩
 | false=>obtain⟨o,e,_,d⟩:=(x);exact⟨o,e,λv z=>by rw[d] at z;cases z⟩
theorem IterB.new{b:Bool}{h:b9}{c a:aL}(e:h.get? c=aA (VH b a)):IterB b h c a 0:=by
 cases b with
 | true=>exact⟨_,e,rfl,rfl⟩
 | false=>exact⟨_,e,rfl,rfl⟩
section
variable {X:Cx} {kf:List (aL×dN)} {σ:St} {H:Hp} {s:aN} {a:aL} {xs ys:List V} {b:Bool}
theorem Inv.seqB(I:Inv X kf σ H s)(h:Ra b X.K H a xs):∃c:List aH,Vals xs c/\SeqB b s.heap a c.toArray/\xs.length<=sizeLine:=by
 cases b with
 | true=>
  obtain⟨c,r,p,z⟩:=I.list (h);exact⟨c,r,p.isList,z⟩
 | false=>
  obtain⟨c,r,p,z⟩:=I.tuple (h);exact⟨c,r,p,z⟩
theorem Inv.seqB_inj(I:Inv X kf σ H s)(h:Ra b X.K H a xs)(c:Ra b X.K H a ys):xs=ys:=by
 cases b with
 | true=>exact I.list_inj (h) (c)
 | false=>exact I.tuple_inj (h) (c)
end
theorem Draws.seq{prog:bW}{w:cN}{A:cH}(b:Bool)(p:A.handled=none)(g l:aL)(f:l≠g)(a:Array aH) :
  Draws prog w A g [g,l] a.size (λi v=>a[i]?=aA v) (λi h=>IterB b h g l i/\SeqB b h l a) where
 live:=λ_ _ st=>let⟨o,r,_⟩:=st.1.has;⟨o,r⟩
 frame:=λ_ _ _ st q=>⟨st.1.at λo e=>q g (by simp) o e,st.2.at λo e=>q l (by simp) o e⟩
 item:=λi s Q E j st n=>by
  cases b with
  | true=>
   refine wpAny_nextOf_list_item (st.1) (st.2) (x:=a[i]) (by simp[j]) λk d c=>?_;exact n _ k s.toks (by simp[j]) ⟨d,st.2.at λo e=>c.extBut l o f e⟩ c
  | false=>
   refine Tj (st.1) (st.2) (x:=a[i]) (by simp[j]) λk d c=>?_;exact n _ k s.toks (by simp[j]) ⟨d,st.2.at λo e=>c.extBut l o f e⟩ c
 done:=λs Q E st m=>by
  cases b with
  | true=>exact wpAny_nextOf_list_end p (st.1) (st.2) (by simp) m
  | false=>exact T4 p (st.1) (st.2) (by simp) m
theorem Yh{prog:bW}{w:cN}{A:cH}{E:aH->aN->Prop}{s:aN}{b:Bool}{a:aL}{d:Array aH}{Q:aH->aN->Prop}(h:SeqB b s.heap a d)
  (c:Q (.ref s.heap.objs.size) { s with heap:=s.heap.push (VH b a) }):bH (model prog w) A (pyIter (.ref a)) Q E s:=by
 cases b with
 | true=>exact wpAny_pyIter_list (h) c
 | false=>exact jV (h) c
set_option maxHeartbeats 4000000 in
theorem Qi(b:Bool)(l:aL)(a:Array aH) :
  Meets (jL.«enumerate.__new__» ⟨[.type "enumerate",.ref l],[]⟩) (λ_ R s=>SeqB b s.heap l a/\
   R (.ok (.ret (.ref (s.heap.push (VH b l)).objs.size)))
    { s with heap:=(s.heap.push (VH b l)).push { cls:=.type "enumerate",data:=.fields #[.none,.bool aB,.ref s.heap.objs.size,ie 0,.none,.none] } }):=
 .of_wp λprog w A R s h=>by
  obtain⟨k,g,d,tk,os⟩:=s;obtain⟨j,h⟩:=h;have i:=sub_enumerate;obtain⟨o,e⟩:=j.has;have f:SeqB b (kc ⟨k,g,d,tk,os⟩) l a:=j
  wp_walk using gS e
  refine wpAny_stack_any λst=>aj ?_;split
  ·rename_i c _ _ _ _ _;cases (c==kO "enumerate")
   ·wp_walk using gS e,Yh f
    exact⟨_,rfl,h⟩
   ·wp_walk using gS e,Yh f
    exact⟨_,rfl,h⟩
  ·wp_walk using gS e,Yh f
   exact⟨_,rfl,h⟩
section
variable {prog:bW} {w:cN} {A:cH} {E:aH->aN->Prop} {s:aN}
theorem Pu{b:Bool}{l:aL}{a:Array aH}{Q:aH->aN->Prop}(f:SeqB b s.heap l a)
  (h:∀h',IsEnum h' (s.heap.objs.size+1) s.heap.objs.size 0 .none->IterB b h' s.heap.objs.size l 0->h'.objs.size=s.heap.objs.size+2->
   (∀b o,s.heap.get? b=aA o->h'.get? b=aA o)->Q (.ref (s.heap.objs.size+1)) { s with heap:=h' }) :
  bH (model prog w) A (call (.type "enumerate") [.ref l]) Q E s:=by
 refine callType_new F.called_enumerate rfl (F.typeCall_enumerate_1 _) (F.newCall_enumerate_1 _) (λc=>F.args_object_init_2 c _) F.entry_enumerate_new
  (Qi b l a) ⟨f,?_⟩
 have e:(s.heap.push (VH b l)).objs.size=s.heap.objs.size+1:=cA ..;rw[e]
 have d:IsEnum ((s.heap.push (VH b l)).push
   { cls:=.type "enumerate",data:=.fields #[.none,.bool aB,.ref s.heap.objs.size,ie 0,.none,.none] }) (s.heap.objs.size+1) s.heap.objs.size 0 .none:=by
  have:=a0 (s.heap.push (VH b l))
   (o:={ cls:=.type "enumerate",data:=.fields #[.none,.bool aB,.ref s.heap.objs.size,ie 0,.none,.none] }) rfl
  rw[e] at this;exact this
 refine⟨⟨_,d,rfl⟩,h _ d (IterB.new (aF _ (a0 _ rfl))) (by simp) λb o x=>aF _ (aF _ x)⟩
end
noncomputable def Ite(b:Bool)(K:aD)(a:aL):It:=
  ⟨λi H=>∃xs x,Ra b K H a xs/\xs[i]?=aA x,
   λi H v H'=>∃p x,H p=none/\v = .ref p/\H'=upd H p (.tup [.int i,x])/\∀xs,Ra b K H a xs->xs[i]?=aA x,
   λi H=>∃xs,Ra b K H a xs/\xs.length=i⟩
theorem Ie{P:bW}{w:cN}{K:aD}{T:List av}{k:Nat}{pos:el}(b:Bool)(a e r:aL)(J:e≠r) :
  OG P w K (.Tuple T k pos) (Ite b K a) [e,r] e (λi h=>(∃t,IsEnum h e r i t)/\IterB b h r a i) where
 mem:=by simp
 obj:=λi h st c O=>by
  rcases a9.mp O with rfl | O
  ·obtain⟨⟨t,q⟩,_⟩:=st;exact⟨_,q,λv z=>by cases z⟩
  ·rw[ag.mp O];exact st.2.has
 keep:=λi h h' st kk=>⟨let⟨t,q⟩:=st.1;⟨t,kk e (by simp) _ q⟩,st.2.at λo q=>kk r (by simp) o q⟩
 item:=by
  intro X hP hw hK O i kf s σ H E I L st hg;subst hP hw hK;obtain⟨xs,x,hq,hx⟩:=hg;obtain⟨S,rv,p,hz⟩:=I.seqB hq;obtain⟨u,hu,ru⟩:=rv.get hx;obtain⟨⟨t,G⟩,l⟩:=st;have fe:=L e (by simp);have fi:=L r (by simp);obtain⟨oa,N⟩:=p.has
  -- the sequence is neither record
  have j:∀c,Vh X kf H c->(∃oc,s.heap.get? c=aA oc/\∃n vs,oc.cls = .type n/\oc.data = .fields vs)->a≠c:=λc _ ⟨oc,U,n,vs,hn,hv⟩ z=>by
   subst z;rw[N] at U;cases U
   cases b with
   | true=>obtain⟨o,F,_,m,d⟩:=(p);rw[N] at F;cases F;rw[hv] at d;cases d
   | false=>obtain⟨o,F,_,m,d⟩:=(p);rw[N] at F;cases F;rw[hv] at d;cases d
  have ae:=j e fe ⟨_,G,_,_,rfl,rfl⟩
  have ai:=j r fi (by
   cases b with
   | true=>obtain⟨o,F,c1,d1⟩:=(l);exact⟨o,F,_,_,c1,d1⟩
   | false=>obtain⟨o,F,c1,d1⟩:=(l);exact⟨o,F,_,_,c1,d1⟩)
  have D:=Draws.seq (prog:=X.prog) (w:=X.w) (A:=X.A.in1) b (I.ok.hd O) r a ai S.toArray;have hlt:i<S.toArray.size:=by have:=(aU.mp hu).1;simpa using this
  refine wpAny_pyNext_enum_itemD D G ⟨l,p⟩ hlt J (by simp[J,aw ae]) λy h' tk hPy ho hs' hT hsz hk=>?_
  have ey:y=u:=by
   have q1:=hPy;have q2:S.toArray[i]?=aA u:=by simpa using hu
   rw[q1] at q2;exact ay q2
  subst ey;refine⟨_,rfl,wpAny_letOwnedTupleGo_enum ho λh2 he2 M=>?_⟩;have Tne:=fD (aS G);have C:=I.hok.fresh (aJ _);have kk:∀c o,c∉[e,r]->s.heap.get? c=aA o->h2.get? c=aA o:=λc o g q=>M.extBut c o (λz=>g (by simp[z])) (hk c o (λz=>g (by simp[z])) (λz=>g (by simp[z])) q);have hT2:=M.extBut _ _ Tne hT;have hcs:∀c∈[e,r],(c∈X.ex\/X.s₀.heap.objs.size<=c)/\c≠X.env.locals/\(∀x d,X.env.cells.lookup x=aA d->d≠c)/\∀p∈X.pn++kf,p.1≠c:=λc g=>by have f:=L c g;exact⟨f.2.2.2.1,f.2.1,f.2.2.2.2.1,f.2.2.2.2.2⟩
  have W:∀c R,H c=aA R->c∉[e,r]:=λc R q g=>by rw[(L c g).1] at q;cases q
  have hok0:=λc R q=>(I.hok c R q).stay (λd v hd q'=>kk d v (by
    rcases hd with z | z
    ·rw[z];exact W c R q
    ·exact W d _ z) q') (λ_ z=>z) (λ_ _ z=>z) λ_ _ z=>z
  have new:ObjOk X.prog X.w (upd H s.heap.objs.size (.tup [.int i,x])) h2 s.heap.objs.size (.tup [.int i,x]):=
   ⟨⟨by show 2<=sizeLine;decide,λo e=>by rw[hT2] at e;cases e;rfl⟩,[.int i tk,y],.cons ⟨tk,rfl⟩ (.cons ru .nil),⟨_,hT2,rfl,_,rfl⟩⟩
  have hok1:HOk X.prog X.w (upd H s.heap.objs.size (.tup [.int i,x])) h2:=λc R q=>by
   by_cases hb:c=s.heap.objs.size
   ·subst hb;rw[Zt] at q;cases q;exact new
   ·rw[upd_ne hb] at q;exact(hok0 c R q).stay (λd v _ q'=>q') (λd z=>by rw[upd_ne (Zu z C)];exact z) (λd zs z=>by rw[upd_ne (Zu z C)];exact z) λd u z=>by rw[upd_ne (Zu z C)];exact z
  have un:Un (Lh X.stack) [e,r] H (upd H s.heap.objs.size (.tup [.int i,x])) s.heap h2:=by
   refine⟨λc o q _ _ B=>kk c o B q,λc o q _ _ B=>⟨o.slots,kk c o B q⟩,λc o q n _=>?_,λc o q B=>⟨o,kk c o B q⟩,λc zs q=>?_,λc o zs q=>?_,λc ps q=>⟨#[],?_⟩⟩
   ·rw[upd_ne (bA (aS q))];exact n
   ·rw[upd_ne (Zu q C)];exact q
   ·rw[upd_ne (Zu q C)];exact q
   ·rw[upd_ne (Zu q C),q];simp
  have I2:Inv X kf σ (upd H s.heap.objs.size (.tup [.int i,x])) { s with heap:=h2,toks:=tk+1 }:=I.call un hok1 I.bare hcs;refine⟨.ref s.heap.objs.size,upd H s.heap.objs.size (.tup [.int i,x]),I2,rfl,⟨_,x,C,rfl,rfl,λzs hzs=>by rw[I.seqB_inj hzs hq];exact hx⟩,⟨⟨y,by simpa using he2⟩,?_⟩,λc g=>?_⟩
  ·exact hs'.1.at λo q=>M.extBut r o (aw J) q
  ·rw[upd_ne (bA (by
    rcases a9.mp g with rfl | g
    ·exact aS G
    ·rw[ag.mp g];obtain⟨o,q,_⟩:=l.has;exact aS q))]
   exact(L c g).1
 done:=by
  intro X hP hw hK O i kf s σ H E I L st hg;subst hP hw hK;obtain⟨xs,hq,hx⟩:=hg;obtain⟨S,rv,p,hz⟩:=I.seqB hq;obtain⟨⟨t,G⟩,l⟩:=st;have fi:=L r (by simp)
  have ai:a≠r:=λz=>by
   subst z
   cases b with
   | true=>
    obtain⟨o,F,_,m,d⟩:=(p);obtain⟨o',Y,_,Z⟩:=(l);rw[F] at Y;cases Y;rw[d] at Z;cases Z
   | false=>
    obtain⟨o,F,_,m,d⟩:=(p);obtain⟨o',Y,_,Z⟩:=(l);rw[F] at Y;cases Y;rw[d] at Z;cases Z
  have D:=Draws.seq (prog:=X.prog) (w:=X.w) (A:=X.A.in1) b (I.ok.hd O) r a ai S.toArray;have hl:=rv.length;have hi:i=S.toArray.size:=by simp;omega
  refine wpAny_pyNext_enum_endD D G (by rw[<-hi];exact⟨l,p⟩) λh' B=>⟨rfl,?_⟩;obtain⟨f0,f1,f2,f3,f4,f5⟩:=fi;exact I.turned (λc o hb q=>B c o hb q) f0 f1 f3 f4 f5
 self:=λA i s Q E st hQ=>by obtain⟨⟨t,G⟩,_⟩:=st;exact wpAny_pyIter_enum G hQ
end L2
namespace L2
open PySem PySem.Spec PyProof.Rows
section
variable {X:Cx}
noncomputable def A8(b:Bool)(K:aD)(ta:TA):TI:=λσ H R=>ta σ H λvs H1=>∃a,vs=[.ref a]/\(∃xs,Ra b K H1 a xs)/\R (Ite b K a) H1
theorem EH{f:List av}{k:Nat}{i:el}(b:Bool){a:av}{m:TA}{p pos:el}(o:Gl X "enumerate")(A:X.mg "enumerate" = none)(z:PA X [a] m)(u:aY [a] X.env=[(aB,eval a X.env)]:=by rfl) :
  PI X (.Tuple f k i) (.Call (.Name "enumerate" p) [a] [] pos) (A8 b X.K m):=by
 intro v s x H R I h;refine Call_ (UU I o A rfl (cX (YS (z pos v s x H _ I h) λL s1 ⟨vs,C,d,w,t⟩=>?_) u rfl));obtain⟨a,e,⟨N,B⟩,q⟩:=t;subst e
 cases w with
 | cons r rr=>
  cases rr;cases r;obtain⟨G,M,g,F⟩:=d.seqB B;refine Pu g λJ n j E D=>?_;refine wpAny_pyIter_enum n ?_;have y:=d.kept (t':=s1.toks) D;have ne:s1.heap.objs.size+1≠s1.heap.objs.size:=fD (gF _);refine⟨s1.heap.objs.size+1,[s1.heap.objs.size+1,s1.heap.objs.size],_,_,C,rfl,y,Ie b a (s1.heap.objs.size+1) s1.heap.objs.size ne,⟨⟨.none,n⟩,j⟩,λc l=>?_,q⟩;rcases a9.mp l with rfl | l
  ·exact d.fpOk (ir _) (d.hok.fresh (ir _))
  ·rw[ag.mp l];exact d.fpOk (aJ _) (d.hok.fresh (aJ _))
end
section
variable {prog:bW} {w:cN} {A:cH} {E:aH->aN->Prop} {s:aN}
structure P7(z TI TO i1 i2:aL)(fp1 fp2:List aL):Prop where
 TIz:TI≠z
 TOz:TO≠z
 i1z:i1≠z
 i2z:i2≠z
 TITO:TI≠TO
 TIi1:TI≠i1
 TIi2:TI≠i2
 TOi1:TO≠i1
 TOi2:TO≠i2
 i12:i1≠i2
 z1:z∉fp1
 TO1:TO∉fp1
 i21:i2∉fp1
 z2:z∉fp2
 TO2:TO∉fp2
 i12':i1∉fp2
theorem HU{z TI TO Z i2:aL}{fp1 fp2:List aL}{n1 n2 k:Nat}{P1 P2:Nat->aH->Prop}{U S:Nat->b9->Prop}{a b:aH}{Q:aH->aN->Prop}(D:P7 z TI TO Z i2 fp1 fp2)
  (D1:Draws prog w A Z fp1 n1 P1 U) (D2:Draws prog w A i2 fp2 n2 P2 S)
  (hz:i5 s.heap z TI TO .none) (hTI:fA s.heap TI (.ref Z) (.ref i2)) (hTO:fA s.heap TO a b)
  (h1:U k s.heap) (h2:S k s.heap) (hx:k<n1) (hy:k<n2)
  (hQ:∀x y h' tk,P1 k x->P2 k y->i5 h' z TI TO (ie s.heap.objs.size)->fA h' TO x y->U (k+1) h'->S (k+1) h'->fA h' s.heap.objs.size x y->h'.objs.size=s.heap.objs.size+1->
   (∀c o,c≠z->c≠TO->c≠Z->c≠i2->s.heap.get? c=aA o->h'.get? c=aA o)->Q (.ref s.heap.objs.size) { s with heap:=h',toks:=tk }) :
  bH (model prog w) A (jL.«zip.__next__» ⟨[.ref z],[]⟩) (λfin s'=>∃v,fin = .done (.ret v)/\Q v s') E s:=by
 show bH _ _ (field (.ref z) 2 >>= _) _ _ _;refine aM (cO hz rfl rfl ?_);refine aM (cO hz rfl rfl ?_);refine aM (dU hTI rfl ?_);refine aM ?_;refine aM (cO hz rfl rfl (aj ?_));refine aM (kW ?_);refine aM (cO hz rfl rfl ?_);refine aM (dW hz (by simp) λh₁ t l=>?_)
 replace t:i5 h₁ z TI TO .ellipsis:=t
 refine aM ?_;refine aM (aM (gz ?_));have st1:=D1.frame _ _ _ h1 λc u o e=>l.extBut c o (λq=>D.z1 (q▸u)) e;refine aM (D1.item k _ _ _ hx st1 λx L tk₂ hPx O g=>aj ?_)
 replace g:cT Z h₁ L:=g
 have F:=g.extBut _ _ D.TOi1 (l.extBut _ _ D.TOz hTO);refine aM (dU F rfl ?_);refine aM (gM F λI n f=>?_)
 replace n:fA I TO x b:=n
 replace f:cT TO L I:=f
 refine aM (kF (aj ?_));refine aM (aM (gz ?_));have st2:=D2.frame _ _ _ h2 λc u o e=>f.extBut c o (λq=>D.TO2 (q▸u)) (g.extBut c o (λq=>D.i12' (q▸u)) (l.extBut c o (λq=>D.z2 (q▸u)) e));refine aM (D2.item k _ _ _ hy st2 λy N W hPy X d=>aj ?_)
 replace d:cT i2 I N:=d
 have C:=d.extBut _ _ D.TOi2 n;refine aM (dU C rfl ?_);refine aM (gM C λi j h=>?_)
 replace j:fA i TO x y:=j
 replace h:cT TO N i:=h
 refine aM (kF (aj (aj ?_)));refine aM (dU j rfl ?_);refine aM (wpAny_newTuple ?_);have hsz:i.objs.size=s.heap.objs.size:=by rw[h.1,d.1,f.1,g.1,l.1]
 have J:=h.extBut _ _ D.TOz.symm (d.extBut _ _ D.i2z.symm (f.extBut _ _ D.TOz.symm (g.extBut _ _ D.i1z.symm t)))
 have R:∀c o,c≠z->c≠TO->c≠Z->c≠i2->s.heap.get? c=aA o->i.get? c=aA o:=λc o c1 c2 c3 c4 e=>
  h.extBut _ _ c2 (d.extBut _ _ c4 (f.extBut _ _ c2 (g.extBut _ _ c3 (l.extBut _ _ c1 e))))
 have P:=D1.frame _ _ _ O λc u o e=>h.extBut c o (λq=>D.TO1 (q▸u)) (d.extBut c o (λq=>D.i21 (q▸u)) (f.extBut c o (λq=>D.TO1 (q▸u)) e));have T:=D2.frame _ _ _ X λc u o e=>h.extBut c o (λq=>D.TO2 (q▸u)) e;have M:=aS J;refine aM ?_;have Y:i5 (i.push { cls:=.type "tuple",data:=.seq #[x,y] }) z TI TO .ellipsis:=aF _ J;refine aM (dW Y (by simp) λh₇ r p=>?_)
 replace r:i5 h₇ z TI TO (ie i.objs.size):=r
 refine dW r (by simp) λG m B=>?_
 replace m:i5 G z TI TO (ie i.objs.size):=m
 have up:∀c o,c≠z->i.get? c=aA o->G.get? c=aA o:=λc o c1 e=>B.extBut _ _ c1 (p.extBut _ _ c1 (aF _ e));have H:=B.extBut _ _ (fD M) (p.extBut _ _ (fD M) (a0 _ rfl));have hz8:G.objs.size=i.objs.size+1:=by rw[B.1,p.1,cA]
 rw[hsz] at m H hz8;refine aj ⟨_,rfl,?_⟩;rw[hsz];exact hQ x y G W hPx hPy m (up _ _ D.TOz j) (D1.frame _ _ _ P λc u o e=>up c o (λq=>D.z1 (q▸u)) e) (D2.frame _ _ _ T λc u o e=>up c o (λq=>D.z2 (q▸u)) e) H hz8 λc o c1 c2 c3 c4 e=>up c o c1 (R c o c1 c2 c3 c4 e)
theorem EI{z TI TO F M:aL}{G O:List aL}{n1 n2 k:Nat}{P1 P2:Nat->aH->Prop}{J H:Nat->b9->Prop}{a b:aH}{Q:PySem.Fin->aN->Prop}(D:P7 z TI TO F M G O)
  (Y:Draws prog w A F G n1 P1 J) (D2:Draws prog w A M O n2 P2 H)
  (I:i5 s.heap z TI TO .none) (Z:fA s.heap TI (.ref F) (.ref M)) (U:fA s.heap TO a b)
  (h1:J k s.heap) (h2:H k s.heap) (N:k=n1\/(k<n1/\k=n2))
  (hE:∀h' tk e,(∀c o,c≠z->c≠TO->c≠F->c≠M->s.heap.get? c=aA o->h'.get? c=aA o)->(∃o,h'.get? e=aA o/\o.cls = .type "StopIteration")->E (.ref e) { s with heap:=h',toks:=tk }) :
  bH (model prog w) A (jL.«zip.__next__» ⟨[.ref z],[]⟩) Q E s:=by
 show bH _ _ (field (.ref z) 2 >>= _) _ _ _;refine aM (cO I rfl rfl ?_);refine aM (cO I rfl rfl ?_);refine aM (dU Z rfl ?_);refine aM ?_;refine aM (cO I rfl rfl (aj ?_));refine aM (kW ?_);refine aM (cO I rfl rfl ?_);refine aM (dW I (by simp) λh₁ i g=>?_)
 replace i:i5 h₁ z TI TO .ellipsis:=i
 replace g:cT z s.heap h₁:=g
 refine aM ?_;refine aM (aM (gz ?_));have B:=Y.frame _ _ _ h1 λc P o e=>g.extBut c o (λq=>D.z1 (q▸P)) e;rcases N with hk | ⟨hx,hk⟩
 ·rw[hk] at B;refine aM (Y.done _ _ _ B λl e d S=>?_)
  replace d:kE F h₁ l:=d
  obtain⟨W,n,t⟩:=S;have r:=d _ _ D.i1z.symm i;have C:e≠z:=λx=>by subst x;rw[r] at n;cases n;simp at t
  refine dW r (by simp) λm _ f=>?_
  replace f:cT z l m:=f
  exact hE m _ e (λc o c1 _ c3 _ x=>f.extBut _ _ c1 (d _ _ c3 (g.extBut _ _ c1 x))) ⟨W,f.extBut _ _ C n,t⟩
 ·refine aM (Y.item k _ _ _ hx B λx l T hPx X d=>aj ?_)
  replace d:cT F h₁ l:=d
  have p:=d.extBut _ _ D.TOi1 (g.extBut _ _ D.TOz U);refine aM (dU p rfl ?_);refine aM (gM p λm R f=>?_)
  replace f:cT TO l m:=f
  refine aM (kF (aj ?_));refine aM (aM (gz ?_));have L:=D2.frame _ _ _ h2 λc P o e=>f.extBut c o (λq=>D.TO2 (q▸P)) (d.extBut c o (λq=>D.i12' (q▸P)) (g.extBut c o (λq=>D.z2 (q▸P)) e));rw[hk] at L;refine aM (D2.done _ _ _ L λy e j S=>?_)
  replace j:kE M m y:=j
  obtain⟨W,n,t⟩:=S;have u:=j _ _ D.i2z.symm (f.extBut _ _ D.TOz.symm (d.extBut _ _ D.i1z.symm i));have C:e≠z:=λx=>by subst x;rw[u] at n;cases n;simp at t
  refine dW u (by simp) λv _ h=>?_
  replace h:cT z y v:=h
  exact hE v _ e (λc o c1 c2 c3 c4 x=>h.extBut _ _ c1 (j _ _ c4 (f.extBut _ _ c2 (d.extBut _ _ c3 (g.extBut _ _ c1 x))))) ⟨W,h.extBut _ _ C n,t⟩
theorem Rw{z TI TO i j:aL}{g h:List aL}{t r k:Nat}{u p:Nat->aH->Prop}{f e:Nat->b9->Prop}{a b:aH}{Q:Option aH->aN->Prop}(D:P7 z TI TO i j g h)
  (P:Draws prog w A.in1 i g t u f) (v:Draws prog w A.in1 j h r p e)
  (n:i5 s.heap z TI TO .none) (m:fA s.heap TI (.ref i) (.ref j)) (l:fA s.heap TO a b)
  (O:f k s.heap) (H:e k s.heap) (J:k<t) (N:k<r)
  (M:∀x y d tk,u k x->p k y->i5 d z TI TO (ie s.heap.objs.size)->fA d TO x y->f (k+1) d->e (k+1) d->fA d s.heap.objs.size x y->d.objs.size=s.heap.objs.size+1->
   (∀c o,c≠z->c≠TO->c≠i->c≠j->s.heap.get? c=aA o->d.get? c=aA o)->Q (aA (.ref s.heap.objs.size)) { s with heap:=d,toks:=tk }) :
  bH (model prog w) A (k7 (.ref z)) Q E s:=by
 have q:s.TypeIs (.ref z) "zip":=⟨_,n,rfl⟩
 exact aM (wpAny_attempt (dG q F.slot_zip_next
  (fE F.slot_zip_next q F.entry_zip_next
   (HU D P v n m l O H J N λx y d tk L p2 C R T G S B I=>aj (M x y d tk L p2 C R T G S B I)) (F.args_zip_next_1 _))))
theorem Qj{z TI TO j l:aL}{d i:List aL}{q u k:Nat}{M B:Nat->aH->Prop}{g f:Nat->b9->Prop}{a b:aH}{Q:Option aH->aN->Prop}(D:P7 z TI TO j l d i)
  (H:Draws prog w A.in1 j d q M g) (v:Draws prog w A.in1 l i u B f)
  (r:i5 s.heap z TI TO .none) (p:fA s.heap TI (.ref j) (.ref l)) (n:fA s.heap TO a b)
  (G:g k s.heap) (y:f k s.heap) (h:k=q\/(k<q/\k=u))
  (C:∀m tk,(∀c o,c≠z->c≠TO->c≠j->c≠l->s.heap.get? c=aA o->m.get? c=aA o)->Q none { s with heap:=m,toks:=tk }):bH (model prog w) A (k7 (.ref z)) Q E s:=by
 have t:s.TypeIs (.ref z) "zip":=⟨_,r,rfl⟩
 refine aM (wpAny_attempt (dG t F.slot_zip_next
  (fE F.slot_zip_next t F.entry_zip_next (EI D H v r p n G y h λm tk e J x=>?_) (F.args_zip_next_1 _))))
 obtain⟨o,I,L⟩:=x;refine aM (wpAny_isInstance ⟨o,I,L⟩ isSubtype_stop ?_);exact aj (C _ tk J)
end
abbrev zq1(h:b9)(b1:Bool)(l1:aL):b9:=h.push (VH b1 l1)
abbrev zq2(h:b9)(b1 b2:Bool)(l1 l2:aL):b9:=(zq1 h b1 l1).push (VH b2 l2)
abbrev zq3(h:b9)(b1 b2:Bool)(l1 l2:aL):b9:=(zq2 h b1 b2 l1 l2).push { cls:=.type "tuple",data:=.seq #[.ref h.objs.size,.ref (zq1 h b1 l1).objs.size] }
abbrev zq4(h:b9)(b1 b2:Bool)(l1 l2:aL):b9:=(zq3 h b1 b2 l1 l2).push { cls:=.type "tuple",data:=.seq #[.none,.none] }
abbrev Bx(h:b9)(b1 b2:Bool)(l1 l2:aL):b9:=(zq4 h b1 b2 l1 l2).push { cls:=.type "zip",data:=.fields #[.none,.bool aB,.bool aB,.ref (zq2 h b1 b2 l1 l2).objs.size,.ref (zq3 h b1 b2 l1 l2).objs.size] }
theorem Pw(c f:Bool)(a b:aL)(q n:Array aH) :
  Meets (jL.«zip.__new__» ⟨[.type "zip",.ref a,.ref b],[]⟩) (λ_ R s=>SeqB c s.heap a q/\SeqB f s.heap b n/\
   R (.ok (.ret (.ref (zq4 s.heap c f a b).objs.size))) { s with heap:=Bx s.heap c f a b }):=
 .of_wp λprog w A R s h=>by
  obtain⟨p,g,d,tk,os⟩:=s;obtain⟨j,k,h⟩:=h;have m:=sub_zip;have i:=j;have l:SeqB f (kc ⟨p.push (VH c a),g,d,tk,os⟩) b n:=k.at λo e=>aF _ e
  wp_walk using Yh i,Yh l
  exact⟨_,rfl,h⟩
section
variable {prog:bW} {w:cN} {A:cH} {E:aH->aN->Prop} {s:aN}
theorem ON{b e:Bool}{a d:aL}{u t:Array aH}{Q:aH->aN->Prop}(f:SeqB b s.heap a u)(k:SeqB e s.heap d t)
  (h:∀h',i5 h' (s.heap.objs.size+4) (s.heap.objs.size+2) (s.heap.objs.size+3) .none->fA h' (s.heap.objs.size+2) (.ref s.heap.objs.size) (.ref (s.heap.objs.size+1))->
   fA h' (s.heap.objs.size+3) .none .none->IterB b h' s.heap.objs.size a 0->IterB e h' (s.heap.objs.size+1) d 0->h'.objs.size=s.heap.objs.size+5->
   (∀c o,s.heap.get? c=aA o->h'.get? c=aA o)->Q (.ref (s.heap.objs.size+4)) { s with heap:=h' }) :
  bH (model prog w) A (call (.type "zip") [.ref a,.ref d]) Q E s:=by
 refine callType_new F.called_zip rfl (F.typeCall_zip_2 _ _) (F.newCall_zip_2 _ _) (λi=>F.args_object_init_3 i _ _) F.entry_zip_new
  (Pw b e a d u t) ⟨f,k,?_⟩
 have m:(zq1 s.heap b a).objs.size=s.heap.objs.size+1:=cA ..;have l:(zq2 s.heap b e a d).objs.size=s.heap.objs.size+2:=by rw[cA,m]
 have j:(zq3 s.heap b e a d).objs.size=s.heap.objs.size+3:=by rw[cA,l]
 have g:(zq4 s.heap b e a d).objs.size=s.heap.objs.size+4:=by rw[cA,j]
 have y:(Bx s.heap b e a d).objs.size=s.heap.objs.size+5:=by rw[cA,g]
 have n:(Bx s.heap b e a d).get? (zq4 s.heap b e a d).objs.size=aA _:=a0 _ rfl;have r:(Bx s.heap b e a d).get? (zq3 s.heap b e a d).objs.size=aA _:=aF _ (a0 _ rfl);have p:(Bx s.heap b e a d).get? (zq2 s.heap b e a d).objs.size=aA _:=aF _ (aF _ (a0 _ rfl));have q:(Bx s.heap b e a d).get? (zq1 s.heap b a).objs.size=aA (VH e d):=aF _ (aF _ (aF _ (a0 _ rfl)));have v:(Bx s.heap b e a d).get? s.heap.objs.size=aA (VH b a):=aF _ (aF _ (aF _ (aF _ (a0 _ rfl))));rw[l,j,g] at n;rw[m,l] at p;rw[j] at r;rw[m] at q;rw[g]
 exact⟨⟨_,n,rfl⟩,h _ n p r (IterB.new v) (IterB.new q) y λc o x=>
  aF _ (aF _ (aF _ (aF _ (aF _ x))))⟩
end
theorem Inv.newTup{X:Cx}{w:List (aL×dN)}{D:St}{H:Hp}{s:aN}{t:List aL}{k:b9}{tk n:Nat}{A:List aH}{i:List V}(I:Inv X w D H s)(F:∀b∈t,Vh X w H b)
  (kk:∀c o,c∉t->s.heap.get? c=aA o->k.get? c=aA o) (E:k.get? s.heap.objs.size=aA { cls:=.type "tuple",data:=.seq A.toArray n }) (M:Vals i A) (J:i.length<=sizeLine) :
  Inv X w D (upd H s.heap.objs.size (.tup i)) { s with heap:=k,toks:=tk }:=by
 have a:=I.hok.fresh (aJ _);have B:∀c∈t,(c∈X.ex\/X.s₀.heap.objs.size<=c)/\c≠X.env.locals/\(∀x d,X.env.cells.lookup x=aA d->d≠c)/\∀p∈X.pn++w,p.1≠c:=λc j=>by have f:=F c j;exact⟨f.2.2.2.1,f.2.1,f.2.2.2.2.1,f.2.2.2.2.2⟩
 have r:∀c h,H c=aA h->c∉t:=λc h q j=>by rw[(F c j).1] at q;cases q
 have l:=λc h q=>(I.hok c h q).stay (λd v L y=>kk d v (by
   rcases L with z | z
   ·rw[z];exact r c h q
   ·exact r d _ z) y) (λ_ z=>z) (λ_ _ z=>z) λ_ _ z=>z
 have new:ObjOk X.prog X.w (upd H s.heap.objs.size (.tup i)) k s.heap.objs.size (.tup i):=
  ⟨⟨J,λo e=>by rw[E] at e;cases e;rfl⟩,A,M,⟨_,E,rfl,_,rfl⟩⟩
 have m:HOk X.prog X.w (upd H s.heap.objs.size (.tup i)) k:=λc h q=>by
  by_cases G:c=s.heap.objs.size
  ·subst G;rw[Zt] at q;cases q;exact new
  ·rw[upd_ne G] at q;exact(l c h q).stay (λd v _ y=>y) (λd z=>by rw[upd_ne (Zu z a)];exact z) (λd C z=>by rw[upd_ne (Zu z a)];exact z) λd u z=>by rw[upd_ne (Zu z a)];exact z
 have un:Un (Lh X.stack) t H (upd H s.heap.objs.size (.tup i)) s.heap k:=by
  refine⟨λc o q _ _ g=>kk c o g q,λc o q _ _ g=>⟨o.slots,kk c o g q⟩,λc o q n _=>?_,λc o q g=>⟨o,kk c o g q⟩,λc C q=>?_,λc o C q=>?_,λc N q=>⟨#[],?_⟩⟩
  ·rw[upd_ne (bA (aS q))];exact n
  ·rw[upd_ne (Zu q a)];exact q
  ·rw[upd_ne (Zu q a)];exact q
  ·rw[upd_ne (Zu q a),q];simp
 exact I.call un m I.bare B
theorem Inv.turnedL{X:Cx}{k:List (aL×dN)}{r:St}{H:Hp}{s:aN}{j:List aL}{m:b9}{tk:Nat}(I:Inv X k r H s)(t:∀b∈j,Vh X k H b)
  (kk:∀c o,c∉j->s.heap.get? c=aA o->m.get? c=aA o):Inv X k r H { s with heap:=m,toks:=tk }:=by
 have l:∀c∈j,(c∈X.ex\/X.s₀.heap.objs.size<=c)/\c≠X.env.locals/\(∀x d,X.env.cells.lookup x=aA d->d≠c)/\∀p∈X.pn++k,p.1≠c:=λc e=>by have f:=t c e;exact⟨f.2.2.2.1,f.2.1,f.2.2.2.2.1,f.2.2.2.2.2⟩
 have i:∀c h,H c=aA h->c∉j:=λc h q e=>by rw[(t c e).1] at q;cases q
 have g:=λc h q=>(I.hok c h q).stay (λd v y u=>kk d v (by
   rcases y with z | z
   ·rw[z];exact i c h q
   ·exact i d _ z) u) (λ_ z=>z) (λ_ _ z=>z) λ_ _ z=>z
 have un:Un (Lh X.stack) j H H s.heap m:=
  ⟨λc o q _ _ a=>kk c o a q,λc o q _ _ a=>⟨o.slots,kk c o a q⟩,λc o q n _=>n,λc o q a=>⟨o,kk c o a q⟩,λc w q=>q,λc o w q=>q,λc A q=>⟨#[],by rw[q];simp⟩⟩
 exact I.call un g I.bare l
theorem SeqB.ne_rec{b:Bool}{h:b9}{a c:aL}{j:Array aH}{o:dN}{vs:Array aH}(p:SeqB b h a j)(e:h.get? c=aA o)(d:o.data = .fields vs):a≠c:=λz=>by
 subst z
 cases b with
 | true=>obtain⟨i,g,_,m,f⟩:=(p);rw[e] at g;cases g;rw[d] at f;cases f
 | false=>obtain⟨i,g,_,m,f⟩:=(p);rw[e] at g;cases g;rw[d] at f;cases f
theorem IterB.rec{b:Bool}{h:b9}{c a:aL}{i:Nat}(x:IterB b h c a i):∃o,h.get? c=aA o/\∃vs,o.data = .fields vs:=by
 cases b with
 | true=>obtain⟨o,e,_,d⟩:=(x);exact⟨o,e,_,d⟩
 | false=>obtain⟨o,e,_,d⟩:=(x);exact⟨o,e,_,d⟩
structure By(a1 a2 TO TI:aL):Prop where
 a:a1≠TO
 b:a2≠TO
 c:a1≠TI
 d:a2≠TI
noncomputable def Itz(b1 b2:Bool)(K:aD)(a1 a2:aL):It:=
  ⟨λi H=>∃xs ys x y,Ra b1 K H a1 xs/\Ra b2 K H a2 ys/\xs[i]?=aA x/\ys[i]?=aA y,
   λi H v H'=>∃p x y,H p=none/\v = .ref p/\H'=upd H p (.tup [x,y])/\(∀xs,Ra b1 K H a1 xs->xs[i]?=aA x)/\∀ys,Ra b2 K H a2 ys->ys[i]?=aA y,
   λi H=>∃xs ys,Ra b1 K H a1 xs/\Ra b2 K H a2 ys/\(i=xs.length\/(i<xs.length/\i=ys.length))⟩
theorem HW{P:bW}{w:cN}{K:aD}{elts:List av}{k:Nat}{pos:el}(b1 b2:Bool)(a1 a2 z TI TO F G:aL)(d:[z,TI,TO,F,G].Nodup) :
  OG P w K (.Tuple elts k pos) (Itz b1 b2 K a1 a2) [z,TI,TO,F,G] z
   (λi h=>i5 h z TI TO .none/\fA h TI (.ref F) (.ref G)/\(∃u v,fA h TO u v/\By a1 a2 TO TI)/\IterB b1 h F a1 i/\IterB b2 h G a2 i) where
 mem:=by simp
 obj:=λi h st c Y=>by
  obtain⟨C,b,⟨u,v,l,_⟩,T,U⟩:=st;simp only[a9,dA,or_false] at Y;rcases Y with rfl | rfl | rfl | rfl | rfl
  ·exact⟨_,C,λv q=>by cases q⟩
  ·exact⟨_,b,λv q=>by cases q⟩
  ·exact⟨_,l,λv q=>by cases q⟩
  ·exact T.has
  ·exact U.has
 keep:=λi h h' st kk=>by obtain⟨C,b,⟨u,v,l,f⟩,T,U⟩:=st;exact⟨kk z (by simp) _ C,kk TI (by simp) _ b,⟨u,v,kk TO (by simp) _ l,f⟩,T.at λo q=>kk F (by simp) o q,U.at λo q=>kk G (by simp) o q⟩
 item:=by
  intro X hP hw hK Y i kf s σ H E I hf st hg;subst hP hw hK;obtain⟨xs,ys,x,y,M,N,hx,hy⟩:=hg;obtain⟨j,rv1,W,hz1⟩:=I.seqB M;obtain⟨n,rv2,p2,hz2⟩:=I.seqB N;obtain⟨u,hu,ru⟩:=rv1.get hx;obtain⟨v,hv,rv⟩:=rv2.get hy;obtain⟨C,b,⟨q1,q2,l,f⟩,T,U⟩:=st;obtain⟨o1,e1,vs1,d1⟩:=T.rec;obtain⟨o2,e2,vs2,d2⟩:=U.rec;have A1z:=W.ne_rec C rfl;have A2z:=p2.ne_rec C rfl;have Z:=W.ne_rec e1 d1;have A12:=W.ne_rec e2 d2;have A21:=p2.ne_rec e1 d1;have A22:=p2.ne_rec e2 d2;simp only[bN,a9,dA,not_or,dF,and_true,not_false_eq_true] at d;obtain⟨⟨g,r,t,B⟩,⟨O,S,R⟩,⟨L,J⟩,p⟩:=d;obtain⟨f1,f2,f3,f4⟩:=f;have D:P7 z TI TO F G [F,a1] [G,a2]:=⟨aw g,aw r,aw t,aw B,O,S,R,L,J,p,by simp[t,aw A1z],by simp[L,aw f1],by simp[aw p,aw A12],by simp[B,aw A2z],by simp[J,aw f2],by simp[p,aw A21]⟩;have D1:=Draws.seq (prog:=X.prog) (w:=X.w) (A:=X.A.in1) b1 (I.ok.hd Y) F a1 Z j.toArray;have D2:=Draws.seq (prog:=X.prog) (w:=X.w) (A:=X.A.in1) b2 (I.ok.hd Y) G a2 A22 n.toArray;have l1:i<j.toArray.size:=by simpa using(aU.mp hu).1
  have l2:i<n.toArray.size:=by simpa using(aU.mp hv).1
  refine Rw D D1 D2 C b l ⟨T,W⟩ ⟨U,p2⟩ l1 l2 λx' y' h' tk hPx hPy c1 c2 c3 c4 c5 c6 hk=>?_
  have ex':x'=u:=by
   have w1:=hPx;have w2:j.toArray[i]?=aA u:=by simpa using hu
   rw[w1] at w2;exact ay w2
  have ey':y'=v:=by
   have w1:=hPy;have w2:n.toArray[i]?=aA v:=by simpa using hv
   rw[w1] at w2;exact ay w2
  subst ex' ey';refine⟨_,rfl,wpAny_letOwnedTupleGo_zip c1 λh3 hz3 m=>?_⟩
  replace m:cT z h' h3:=m
  have kk:∀c o,c∉[z,TI,TO,F,G]->s.heap.get? c=aA o->h3.get? c=aA o:=λc o a q=>
   m.extBut c o (λe=>a (by simp[e])) (hk c o (λe=>a (by simp[e])) (λe=>a (by simp[e])) (λe=>a (by simp[e])) (λe=>a (by simp[e])) q)
  have hTn:=I.hok.fresh (aJ _);have hT3:=m.extBut _ _ (fD (aS C)) c5;have I2:=I.newTup (tk:=tk) hf kk hT3 (.cons ru (.cons rv .nil)) (by show 2<=sizeLine;decide);refine⟨.ref s.heap.objs.size,_,I2,rfl,⟨_,x,y,hTn,rfl,rfl,λzs hzs=>by rw[I.seqB_inj hzs M];exact hx,λzs hzs=>by rw[I.seqB_inj hzs N];exact hy⟩,⟨hz3,m.extBut _ _ (aw g) (hk _ _ (aw g) O S R b),⟨_,_,m.extBut _ _ (aw r) c2,f1,f2,f3,f4⟩,c3.1.at λo q=>m.extBut _ o (aw t) q,c4.1.at λo q=>m.extBut _ o (aw B) q⟩,λc a=>?_⟩;rw[upd_ne (bA ?_)]
  ·exact(hf c a).1
  ·simp only[a9,dA,or_false] at a;rcases a with rfl | rfl | rfl | rfl | rfl
   ·exact aS C
   ·exact aS b
   ·exact aS l
   ·exact aS e1
   ·exact aS e2
 done:=by intro X hP hw hK Y i kf s σ H E I hf st hg;subst hP hw hK;obtain⟨xs,ys,M,N,hx⟩:=hg;obtain⟨j,rv1,W,hz1⟩:=I.seqB M;obtain⟨n,rv2,p2,hz2⟩:=I.seqB N;obtain⟨C,b,⟨q1,q2,l,f⟩,T,U⟩:=st;obtain⟨o1,e1,vs1,d1⟩:=T.rec;obtain⟨o2,e2,vs2,d2⟩:=U.rec;have A1z:=W.ne_rec C rfl;have A2z:=p2.ne_rec C rfl;have Z:=W.ne_rec e1 d1;have A12:=W.ne_rec e2 d2;have A21:=p2.ne_rec e1 d1;have A22:=p2.ne_rec e2 d2;simp only[bN,a9,dA,not_or,dF,and_true,not_false_eq_true] at d;obtain⟨⟨g,r,t,B⟩,⟨O,S,R⟩,⟨L,J⟩,p⟩:=d;obtain⟨f1,f2,f3,f4⟩:=f;have D:P7 z TI TO F G [F,a1] [G,a2]:=⟨aw g,aw r,aw t,aw B,O,S,R,L,J,p,by simp[t,aw A1z],by simp[L,aw f1],by simp[aw p,aw A12],by simp[B,aw A2z],by simp[J,aw f2],by simp[p,aw A21]⟩;have D1:=Draws.seq (prog:=X.prog) (w:=X.w) (A:=X.A.in1) b1 (I.ok.hd Y) F a1 Z j.toArray;have D2:=Draws.seq (prog:=X.prog) (w:=X.w) (A:=X.A.in1) b2 (I.ok.hd Y) G a2 A22 n.toArray;have n1:=rv1.length;have n2:=rv2.length;refine Qj D D1 D2 C b l ⟨T,W⟩ ⟨U,p2⟩ (by simp only[aP];omega) λh' tk hk=>⟨rfl,?_⟩;exact I.turnedL hf λc o a q=>hk c o (λe=>a (by simp[e])) (λe=>a (by simp[e])) (λe=>a (by simp[e])) (λe=>a (by simp[e])) q
 self:=λA i s Q E st hQ=>wpAny_pyIter_zip st.1 hQ
section
variable {X:Cx}
noncomputable def Zb7(b1 b2:Bool)(K:aD)(ta:TA):TI:=λσ H R=>ta σ H λvs H1=>∃a1 a2,vs=[.ref a1,.ref a2]/\(∃xs,Ra b1 K H1 a1 xs)/\(∃ys,Ra b2 K H1 a2 ys)/\R (Itz b1 b2 K a1 a2) H1
theorem Bz{l:List av}{k:Nat}{m:el}(y C:Bool){a b:av}{z:TA}{p pos:el}(J:Gl X "zip")(Z:X.mg "zip" = none)(W:PA X [a,b] z)
  (O:aY [a,b] X.env=[(aB,eval a X.env),(aB,eval b X.env)]:=by rfl) (o:aY [b] X.env=[(aB,eval b X.env)]:=by rfl) :
  PI X (.Tuple l k m) (.Call (.Name "zip" p) [a,b] [] pos) (Zb7 y C X.K z):=by
 intro P s S H R I h;refine Call_ (UU I J Z boot_zip (cX (YS (W pos P s S H _ I h) λus s1 ⟨vs,H1,f,Q,N⟩=>?_) (by rw[O,o]) (by rw[o];rfl)));obtain⟨v,x,e,⟨xs,u⟩,⟨ys,w⟩,q⟩:=N;subst e
 cases Q with
 | cons r rr=>
  cases rr with
  | cons r' rr=>
   cases rr;cases r;cases r';obtain⟨E,T,B,_⟩:=f.seqB u;obtain⟨F,M,p2,_⟩:=f.seqB w;refine ON B p2 λh' c1 c2 c3 c4 c5 c6 hk=>?_;refine wpAny_pyIter_zip c1 ?_;have U:=f.kept (t':=s1.toks) hk;have D:=let⟨_,e⟩:=B.has;aS e;have A:=let⟨_,e⟩:=p2.has;aS e;generalize L:s1.heap.objs.size=n at *;have ne:∀(a:aL)(j:Nat),a<n->a≠n+j:=λa j h=>bA (aa h (dw _ _));have Y:([n+4,n+2,n+3,n,n+1]:List aL).Nodup:=by have d:∀(i j:Nat),i≠j->(n+i:Nat)≠n+j:=λi j h e=>h (jO e);have t:∀(i:Nat),i≠0->(n+i:Nat)≠n:=λi h e=>h (jO (e.trans (Nat.add_zero n).symm));simp only[bN,a9,dA,not_or,dF,and_true,not_false_eq_true];exact⟨⟨d 4 2 (by decide),d 4 3 (by decide),t 4 (by decide),d 4 1 (by decide)⟩,⟨d 2 3 (by decide),t 2 (by decide),d 2 1 (by decide)⟩,⟨t 3 (by decide),d 3 1 (by decide)⟩,(t 1 (by decide)).symm⟩
   refine⟨n+4,[n+4,n+2,n+3,n,n+1],_,_,H1,rfl,U,HW y C v x (n+4) (n+2) (n+3) n (n+1) Y,⟨c1,c2,⟨_,_,c3,ne v 3 D,ne x 3 A,ne v 2 D,ne x 2 A⟩,c4,c5⟩,λc G=>?_,q⟩
   have g:s1.heap.objs.size<=c:=by
    rw[L];simp only[a9,dA,or_false] at G;rcases G with rfl | rfl | rfl | rfl | rfl
    ·exact dw _ _
    ·exact dw _ _
    ·exact dw _ _
    ·exact aJ _
    ·exact dw _ _
   exact f.fpOk g (f.hok.fresh g)
end
theorem Walks.seqB{prog:bW}{w:cN}{A:cH}(b:Bool)(e:A.handled=none)(I c:aL)(d:c≠I)(a:Array aH) :
  Walks prog w A I [I,c] [I] a.size (λi v=>a[i]?=aA v) (λi h=>IterB b h I c i/\SeqB b h c a):=by
 cases b with
 | true=>exact Walks.list e I c d a
 | false=>exact Walks.tuple e I c d a
section
variable {X:Cx}
theorem Xw(J:X.calm=aC):XJ X (.builtin "sum") (λz H Q=>∃(b:Bool) (p:aL) (a:List Int),z=[.ref p]/\Ra b X.K H p (a.map V.int)/\Q (.int a.sum) H):=by
 intro M s N H z P Q I r h;obtain⟨b,p,a,rfl,F,q⟩:=h;obtain⟨u,rfl,C⟩:=Ti r;cases C;obtain⟨m,n,d,L⟩:=I.seqB F;have w:=let⟨_,e⟩:=d.has;aS e;refine call_sum_walkG (Yh d ?_);refine⟨_,_,_,_,_,_,λi=>a.getD i 0,rfl,Walks.seqB (A:=X.A.in1) b (I.ok.hd J) s.heap.objs.size p (bA w) m.toArray,⟨IterB.new (a0 _ rfl),d.at λo e=>aF _ e⟩,λc g=>?_,λi v j=>?_,λO tk t' y=>?_⟩
 ·show c<(s.heap.push _).objs.size;rw[cA];rcases a9.mp g with rfl | g
  ·exact gF _
  ·rw[ag.mp g];exact jl w
 ·have j:=j;have j:m[i]?=aA v:=by simpa using j
  have l:=n.length;rw[aO] at l;have D:i<a.length:=by rw[l];exact(aU.mp j).1
  obtain⟨u,B,G⟩:=n.get (i:=i) (x:=.int a[i]) (by simp);rw[j] at B;cases B;obtain⟨t,rfl⟩:=G;refine⟨t,?_⟩;show jI a[i] t=jI (a.getD i 0) t;rw[aG,aI D];rfl
 ·have e:preSum (λi=>a.getD i 0) m.toArray.size=a.sum:=by
   have l:=n.length;rw[aO] at l;rw[aP,<-l]
   have gen:∀k,k<=a.length->preSum (λi=>a.getD i 0) k=(a.take k).sum:=by
    intro k
    induction k with
    | zero=>intro _;simp[preSum]
    | succ k ih=>
     intro y;rw[preSum,ih (by omega),List.take_add_one,aG,aI (by omega),kG];simp
   rw[gen _ (aJ _),dy]
  rw[e];refine⟨.int a.sum,H,I.kept (λc o f=>y c o ?_ (aF _ f)),⟨_,rfl⟩,q⟩;intro E;rw[ag.mp E] at f;exact absurd (aS f) (cD _)
theorem Ig(F:X.calm=aC):XJ X (.builtin "all") (λm H Q=>∃(b:Bool) (p:aL) (bs:List Bool),m=[.ref p]/\Ra b X.K H p (bs.map V.bl)/\Q (.bl (bs.all id)) H):=by
 intro M s N H m P Q I r h;obtain⟨b,p,bs,rfl,C,q⟩:=h;obtain⟨u,rfl,w⟩:=Ti r;cases w;obtain⟨j,l,a,J⟩:=I.seqB C;have t:=let⟨_,e⟩:=a.has;aS e;have k:=l.length;rw[aO] at k;refine call_all_walk (Yh a ?_);refine⟨_,_,_,_,_,_,λi=>bs.getD i aC,rfl,Walks.seqB (A:=X.A.in1) b (I.ok.hd F) s.heap.objs.size p (bA t) j.toArray,⟨IterB.new (a0 _ rfl),a.at λo e=>aF _ e⟩,λi v L R G g z=>?_,λO tk E=>?_⟩
 ·have g:=g;have g:j[i]?=aA v:=by simpa using g
  have d:i<bs.length:=by rw[k];exact(aU.mp g).1
  obtain⟨u,n,D⟩:=l.get (i:=i) (x:=.bl bs[i]) (by simp);rw[g] at n;cases n;cases D;refine cg ?_;have e:bs.getD i aC=bs[i]:=by rw[aG,aI d];rfl
  rw[<-e];exact z
 ·have e:(aE j.toArray.size).all (λi=>bs.getD i aC)=bs.all id:=by
   rw[aP,<-k,i6,ao,ao];constructor
   ·intro h x y;obtain⟨i,d,rfl⟩:=dc.mp y;have:=h i (aR.mpr d);rw[aG,aI d] at this;exact this
   ·intro h i d;have d:=aR.mp d;rw[aG,aI d];exact h _ (dB d)
  rw[e];refine⟨.bl (bs.all id),H,I.kept (λc o f=>E c o ?_ (aF _ f)),rfl,q⟩;intro B;rw[ag.mp B] at f;exact absurd (aS f) (cD _)
theorem Ih(F:X.calm=aC):XJ X (.builtin "any") (λm H Q=>∃(b:Bool) (p:aL) (bs:List Bool),m=[.ref p]/\Ra b X.K H p (bs.map V.bl)/\Q (.bl (bs.any id)) H):=by
 intro M s N H m P Q I r h;obtain⟨b,p,bs,rfl,C,q⟩:=h;obtain⟨u,rfl,w⟩:=Ti r;cases w;obtain⟨j,l,a,J⟩:=I.seqB C;have t:p<s.heap.objs.size:=let⟨_,e⟩:=a.has;aS e;have k:=l.length;rw[aO] at k;refine call_any_walk (Yh a ?_);refine⟨_,_,_,_,_,_,λi=>bs.getD i aC,rfl,Walks.seqB (A:=X.A.in1) b (I.ok.hd F) s.heap.objs.size p (bA t) j.toArray,⟨IterB.new (a0 _ rfl),a.at λo e=>aF _ e⟩,λi v L R G g z=>?_,λO tk E=>?_⟩
 ·have g:j.toArray[i]?=aA v:=g;have g:j[i]?=aA v:=by simpa using g
  have d:i<bs.length:=by rw[k];exact(aU.mp g).1
  obtain⟨u,n,D⟩:=l.get (i:=i) (x:=.bl bs[i]) (by rw[aW,aI d];rfl);rw[g] at n;cases n;cases D;refine cg ?_;have e:bs.getD i aC=bs[i]:=by rw[aG,aI d];rfl
  rw[<-e];exact z
 ·have e:(aE j.toArray.size).any (λi=>bs.getD i aC)=bs.any id:=by
   rw[aP,<-k,i6,dz,dz];constructor
   ·rintro⟨i,d,h⟩;have d:=aR.mp d;rw[aG,aI d] at h;exact⟨_,dB d,h⟩
   ·rintro⟨x,y,h⟩;obtain⟨i,d,rfl⟩:=dc.mp y;refine⟨i,aR.mpr d,?_⟩;rw[aG,aI d];exact h
  rw[e];refine⟨.bl (bs.any id),H,I.kept (λc o f=>E c o ?_ (aF _ f)),rfl,q⟩;intro B;rw[ag.mp B] at f;exact absurd (aS f) (cD _)
theorem VU:XJ X (.builtin "isinstance") (λa H Q=>∃x T t b,a=[x,.ty T]/\TyOf X.K H x t/\cj X.K t (.type T)=aA b/\Q (.bl b) H):=by intro g s i H a j Q I r h;obtain⟨x,T,t,b,rfl,c,e,q⟩:=h;obtain⟨u,v,rfl,d,f⟩:=Cg r;cases f;exact J9 I d c e λtk=>⟨.bl b,H,I.tok tk,rfl,q⟩
theorem Mf{K:aD}:cj K (.type "int") (.type "int")=aA aC:=rfl
theorem OO{K:aD}:cj K (.type "int") (.type "bool")=aA aB:=rfl
theorem Mg{K:aD}:cj K (.type "tuple") (.type "tuple")=aA aC:=rfl
theorem Px{K:aD}:cj K (.type "list") (.type "list")=aA aC:=rfl
theorem Mh{K:aD}:cj K (.type "str") (.type "str")=aA aC:=rfl
noncomputable def Jc:V->List V->Hp->VK->Prop:=λx vs H Q=>∃l xs k y,x = .ref l/\vs=[.int k,y]/\H l=aA (.lst xs)/\0<=k/\k<2^63/\xs.length<sizeLine/\Q .non (upd H l (.lst (xs.take k.toNat++y::xs.drop k.toNat)))
theorem P8:MtM X "list.insert" Jc:=by
 intro B s C H x vs v E Q I g p h;obtain⟨l,G,k,y,rfl,rfl,f,A,m,w,q⟩:=h;cases g;obtain⟨u,d,rfl,i,o⟩:=p.two;obtain⟨t,rfl⟩:=i;obtain⟨z,a,n,r,D,e⟩:=I.lstM f;have b:¬(!Builtin.List.listFitsIndex k)=aC:=by rw[fitsIndex_both (by omega) m];exact bT
 refine fO F.slot_list_insert ⟨_,e,rfl⟩ F.entry_list_insert (F.args_list_insert_3 _ _ _) (AutoListH.list_insert_list_int_val_1 l a.toArray n k t d b (by rw[aP];omega)) ⟨e,?_⟩;refine⟨.non,_,I.lset f e ?_ ((r.take k.toNat).append (.cons o (r.drop k.toNat))) ?_,rfl,q⟩
 ·show(have j:=if k<0 then(k+((a.toArray.size:Nat):Int)).toNat else min k.toNat a.toArray.size;(a.toArray.extract 0 j).push d++a.toArray.extract j)=_;rw[ku (by omega)];by_cases c:k.toNat<=a.length
  ·rw[dJ (by rw[aP];exact c)];simp;rw[b0 (by simp)]
  ·rw[iI (by rw[aP];omega)];rw[b0 (by omega),fY (by omega)];simp
 ·rw[az,bh,bK,cE];omega
end
noncomputable def TK(H H':Hp):Prop:=∀b xs,H b=aA (.tup xs)->H' b=aA (.tup xs)
theorem Same.tk{H a:Hp}(s:Same H a):TK H a:=λb c h=>s b _ h
theorem Same.new{H:Hp}{p:aL}(h:H p=none)(o:HO):Same H (upd H p o):=λb u q=>by rw[upd_ne (Zu q h)];exact q
structure Def(K:aD)(mg:ak->Option aH)(x:ak)(st:bb):Prop where
 ex:∃f fd,mg x=aA (.ref f)/\Fun K x x st f fd
theorem def_mk{K:aD}{h:b9}{g:ak->Option aH}{x:ak}{st:bb}{f:aL}{m:aH}{n j:Option aL}{e:Array (Option aH)}{kV d i b ct:aH}(X:K.In h)(G:h.Ns cV g)
  (a:iT K cV x=aA (aA (.ref f))) (l:K.lookup f=aA ⟨m,n,.func (ck x x (XH st) (Yu st) (Zf st) .none kV d i j b ct),e⟩)
  (c:cZ K b x=aC) (k:fV K (.ref f)=aC):Def K g x st:=⟨f,_,PySem.W.mg_of X G a,Bw l c k⟩
structure Xi(P:bW)(w:cN)(K:aD)(mg:ak->Option aH)(base:b9)(x:ak)(ps:List ak)(sp:Sp)(k:Nat):Prop where
 ex:∃f fd,mg x=aA (.ref f)/\fV K (.ref f)=aC/\Binds K fd ps []/\Ru P w K mg base Lw k f fd ps sp
section
variable {P:bW} {w:cN} {K:aD} {mg:ak->Option aH} {base:b9}
theorem Def.cal{x:ak}{st:bb}{N d:List ak}{k:Nat}{sp:Sp}(D:Def K mg x st)(S:Zm N d (Zf st))
  (l:∀(kV doc pm:aH)(an:Option aL)(b ct:aH)(us:List aH),us.length=d.length->iG (ck x x (XH st) (Yu st) (Zf st) .none kV doc pm an b ct) ⟨us,[]⟩=pure (d.zip us))
  (len:∀vs H Q E,sp vs H Q E->vs.length=d.length)
  (c:∀(f:aL)(b:aH)(A:cH)(a:List ju)(s:aN)(H:Hp)(vs:List V)(Q:VK)(E:XK),Room k (A.deeper (gE x (Zf st) s.heap.objs.size f b))->sp vs H Q E->
   ∃t,PSs (Qd Lw P w K mg base N x (Zf st) f b A a s H E).nox (Yu st) t/\t { nx:=λ_ e=>Q .non e,rt:=Q } (start N vs) H):Xi P w K mg base x d sp (k+1):=by
 obtain⟨f,g,j,F⟩:=D.ex;exact⟨f,g,j,F.kp,F.binds l,F.ok S len λb A a s H vs Q E i h=>c f b A a s H vs Q E i h⟩
end
section
variable {X:Cx} {x:ak} {ps:List ak} {sp:Sp} {k:Nat} {e:av} {es:List av} {t:TA} {p pos:el}
theorem Ly(C:Xi X.prog X.w X.K X.mg X.base x ps sp k)(i:Room k X.A)(j:Gl X x)(m:PA X (e::es) t)
  (g:(x==("__debug__" : ak))=aB:=by decide) (l:aY (e::es) X.env=(aB,eval e X.env)::aY es X.env:=by rfl) (h:(eu pos (aY es X.env)).any (·.1)=aB:=by rfl) :
  PE X (.Call (.Name x p) (e::es) [] pos) (HL sp [] E0 t):=by
 obtain⟨f,n,a,b,c,d⟩:=C.ex;exact Eu d i j a b c .nil A3 m g l h
end
noncomputable def VV(N:List ak)(around scope:dP)(own fr:List ak)(ix:List Nat):Bool:=
 (match scope.kind with | .function=>aC | _=>aB)&&scope.names.all (λy=>y.2 != .cell)&&scope.names.all (λy=>y.2 != .local || scope.names.lookup y.1==aA .local)&&
 scope.names.all (λy=>y.2 != .free || (around.names.lookup y.1==aA .cell || around.names.lookup y.1==aA .free))&&(fr.map aA==ix.map (λi=>N[i]?))&&
 fr.all (λx=>scope.names.contains (x,bQ))&&fr.all (λx=>scope.names.lookup x != aA .local)
theorem P9{N:List ak}{a b:dP}{own fr:List ak}{ix:List Nat}(h:VV N a b own fr ix=aC):CompScope N a b own fr ix:=by
 unfold VV at h;simp only[bX] at h;obtain⟨⟨⟨⟨⟨⟨f,j⟩,l⟩,i⟩,g⟩,m⟩,k⟩:=h;refine⟨?_,λy c=>?_,λy c e=>?_,λy c e=>?_,by simpa using g,λx d=>?_,λx d=>?_⟩
 ·split at f
  ·assumption
  ·cases f
 ·simpa using ao.mp j y c
 ·have:=ao.mp l y c;rw[e] at this;simpa using this
 ·have:=ao.mp i y c;rw[e] at this;simpa using this
 ·simpa using ao.mp m x d
 ·simpa using ao.mp k x d
section
variable {X:Cx} {tg ko iter:av} {kj:List av} {scope:dP} {pos:el} {wi:TI} {g:TG} {tt:TT} {te:TE}
theorem Mi(own fr:List ak)(ix:List Nat)(a:X.calm=aC)(e:PI X tg iter wi)(S:VV X.N X.env.scope scope own fr ix=aC)
  (b:∀cl C s H ex,PG (ZI X (own++fr) scope cl C s H ex) tg g) (d:∀cl C s H ex,Lx (ZI X (own++fr) scope cl C s H ex) kj tt) (f:∀cl C s H ex,PE (ZI X (own++fr) scope cl C s H ex) ko te)
  (c:∀x,b7 iter X.env x=pure x:=by intro _;rfl):PE X (.ListComp ko [⟨tg,iter,kj,0⟩] scope pos) (Qg own.length ix wi g tt te):=
 EF a e (P9 S) b d f c
theorem HX(own fr:List ak)(ix:List Nat){i:Nat}{y:ak}{e a:el}(n:X.N.Nodup)(l:X.N[i]?=aA y)(c:X.env.scope.names.lookup y=aA .local)(b:X.calm=aC)(m:PI X tg iter wi)(S:VV X.N X.env.scope scope own fr ix=aC)
  (f:∀cl C s H ex,PG (ZI X (own++fr) scope cl C s H ex) tg g) (h:∀cl C s H ex,Lx (ZI X (own++fr) scope cl C s H ex) kj tt) (j:∀cl C s H ex,PE (ZI X (own++fr) scope cl C s H ex) ko te)
  (d:g7 (.ListComp ko [⟨tg,iter,kj,0⟩] scope pos) (aA (.Name y e)) a.line X.env=pure aC:=by rfl)
  (k:∀x,b7 iter X.env x=pure x:=by intro _;rfl):PS X (.Assign [.Name y e] (.ListComp ko [⟨tg,iter,kj,0⟩] scope pos) a) (Ll (Qg own.length ix wi g tt te) (Th i)):=
 EG n l c b m (P9 S) f h j d k
end
structure XX(mg:ak->Option aH):Prop where
 «len» : mg "len" = none
 «sum» : mg "sum" = none
 «range» : mg "range" = none
 «enumerate» : mg "enumerate" = none
 «zip» : mg "zip" = none
 «tuple» : mg "tuple" = none
 «list» : mg "list" = none
 «all» : mg "all" = none
 «any» : mg "any" = none
 «isinstance» : mg "isinstance" = none
 «int» : mg "int" = none
 «bool» : mg "bool" = none
 «str» : mg "str" = none
 «min» : mg "min" = none
 «max» : mg "max" = none
 «sorted» : mg "sorted" = none
 «abs» : mg "abs" = none
 «ValueError» : mg "ValueError" = none
 «reversed» : mg "reversed" = none
 «set» : mg "set" = none
abbrev Zb8(g:TG)(tb:TS)(D:Y3)(σ:St)(J:It)(H:Hp):Prop:=
 ∃W:Nat->Nat->St->Hp->Prop,(∃m,W 0 m σ H)/\∀i m σ H,W i m σ H->
   (J.stop i H/\D.nx σ H)\/(J.go i H/\∃N:St->Hp->Prop,(∀σ' H',N σ' H'->∃m',m'<m/\W (i+1) m' σ' H')/\∀x H',J.yld i H x H'->g x σ H' λσ2 H2=>tb { D with nx:=N,ct:=N,bk:=D.nx } σ2 H2)
noncomputable def Zn(l:List Int)(i:Nat):Int:=l.getD i 0
theorem T5(l:List Int):(aE l.length).map (Zn l)=l:=by
 apply cq;intro i;rw[aW];by_cases h:i<l.length
 ·rw[aI (by simpa using h)];simp[Zn,aI h]
 ·rw[bY (by simpa using h),bY (by omega)];rfl
theorem Ya{f:Nat->Int}{n i:Nat}(h:i<n):Zn ((aE n).map f) i=f i:=by unfold Zn;rw[aG,aW,bM h];rfl
noncomputable def ZK(w:List (List Int))(i:Nat):List Int:=w.getD i []
theorem Mj{w:List (List Int)}{i:Nat}(h:i<w.length):w[i]?=aA (ZK w i):=by unfold ZK;rw[aG,aI h];rfl
noncomputable def ent(w:List (List Int))(i j:Nat):Int:=Zn (ZK w i) j
structure ZQ(w:List (List Int)):Prop where
 pos:1<=w.length
 few:w.length<=7
 sq:∀i,i<w.length->(ZK w i).length=w.length
 lo:∀i j,i<w.length->j<w.length->0<=ent w i j
 hi:∀i j,i<w.length->j<w.length->ent w i j<=9
 sym:∀i j,i<w.length->j<w.length->ent w i j=ent w j i
 dia:∀i,i<w.length->ent w i i=0
noncomputable def BA(K:aD):List V->Hp->VK->Prop:=λxs H Q=>∃p ys,xs=[.ref p]/\((SqL K H p ys/\∀l,H l=none->Q (.ref l) (upd H l (.tup ys)))\/(SqT K H p ys/\Q (.ref p) H))
noncomputable def EJ(K:aD):List V->Hp->VK->Prop:=λxs H Q=>∃p ys,xs=[.ref p]/\(SqL K H p ys\/SqT K H p ys)/\∀l,H l=none->Q (.ref l) (upd H l (.lst ys))
theorem Same.off{H a:Hp}{p:aL}(s:Same H a)(n:a p=none):H p=none:=s.free n
abbrev Tie:=Nat×Nat×Int
noncomputable def T6(M:List (List Int))(a b:Nat)(t:Int):List (List Int):=M.set a ((ZK M a).set b t)
structure MatOk(n:Nat)(M:List (List Int)):Prop where
 len:M.length=n
 row:∀i,i<n->(ZK M i).length=n
 lo:∀i j,i<n->j<n->0<=ent M i j
 hi:∀i j,i<n->j<n->ent M i j<=9
 sym:∀i j,i<n->j<n->ent M i j=ent M j i
 dia:∀i,i<n->ent M i i=0
theorem Oa{M:List (List Int)}{a i:Nat}{r:List Int}(b:a<M.length):ZK (M.set a r) i=if a=i then r else ZK M i:=by
 unfold ZK;by_cases h:a=i
 ·subst h;simp[b]
 ·simp[h]
theorem nth_set{l:List Int}{b j:Nat}{t:Int}(a:b<l.length):Zn (l.set b t) j=if b=j then t else Zn l j:=by
 unfold Zn;by_cases h:b=j
 ·subst h;simp[a]
 ·simp[h]
theorem Mk{n:Nat}{M:List (List Int)}{a b i j:Nat}{t:Int}(f:M.length=n)(c:∀i,i<n->(ZK M i).length=n)(e:a<n)(d:b<n):ent (T6 M a b t) i j=if a=i/\b=j then t else ent M i j:=by
 show Zn (ZK (M.set a ((ZK M a).set b t)) i) j=_;rw[Oa (by omega)];by_cases h:a=i
 ·subst h;rw[kr rfl,nth_set (by rw[c a e];exact d)];by_cases q:b=j
  ·rw[kr q,kr ⟨rfl,q⟩]
  ·rw[ku q,ku (λz=>q z.2)];rfl
 ·rw[ku h,ku (λz=>h z.1)];rfl
theorem Vk{n:Nat}{M:List (List Int)}{a b:Nat}{t:Int}(d:M.length=n)(c:∀i,i<n->(ZK M i).length=n)(f:a<n):(T6 M a b t).length=n/\∀i,i<n->(ZK (T6 M a b t) i).length=n:=by
 refine⟨by unfold T6;rw[bt];exact d,λi e=>?_⟩;show(ZK (M.set a ((ZK M a).set b t)) i).length=n;rw[Oa (by omega)];split
 ·rw[bt];exact c a f
 ·exact c i e
theorem MatOk.zero(n:Nat):MatOk n (aX n (aX n 0)):=by
 have r:∀i,i<n->ZK (aX n (aX n (0:Int))) i=aX n 0:=λi a=>by unfold ZK;rw[aG,ba,kr a];rfl
 have z:∀i j,i<n->j<n->ent (aX n (aX n (0:Int))) i j=0:=λi j a b=>by show Zn (ZK _ i) j=0;rw[r i a];unfold Zn;rw[aG,ba,kr b];rfl
 exact⟨by simp,λi a=>by rw[r i a];simp,λi j a b=>by rw[z i j a b];omega,λi j a b=>by rw[z i j a b];omega,λi j a b=>by rw[z i j a b,z j i b a],λi a=>z i i a a⟩
theorem MatOk.web{n:Nat}{M:List (List Int)}(h:MatOk n M)(a:1<=n)(b:n<=7):ZQ M:=by have e:=h.len;subst e;exact⟨a,b,h.row,h.lo,h.hi,h.sym,h.dia⟩
theorem Z9(f:Nat->Int)(n:Nat):((aE (n+1)).map f).sum=((aE n).map f).sum+f n:=by rw[gU];simp
theorem Yi{f g:Nat->Int}{n:Nat}(h:∀i,i<n->f i=g i):((aE n).map f).sum=((aE n).map g).sum:=by congr 1;apply aq;intro i a;exact h i (aR.mp a)
theorem Jd(f g:Nat->Int)(n:Nat):((aE n).map λi=>f i+g i).sum=((aE n).map f).sum+((aE n).map g).sum:=by
 induction n with
 | zero=>simp
 | succ n ih=>rw[Z9,Z9,Z9,ih];omega
theorem Je(f g:Nat->Int)(n:Nat):((aE n).map λi=>f i-g i).sum=((aE n).map f).sum-((aE n).map g).sum:=by
 induction n with
 | zero=>simp
 | succ n ih=>rw[Z9,Z9,Z9,ih];omega
theorem Ii(c:Int)(n:Nat):((aE n).map λ_=>c).sum=n*c:=by
 induction n with
 | zero=>simp
 | succ n ih=>rw[Z9,ih];rw[show((n+1:Nat):Int)=(n:Int)+1 by omega,iu];omega
theorem OP(l:List Int):((aE l.length).map (Zn l)).sum=l.sum:=by rw[T5]
theorem HY(e:Nat->Nat->Int)(n:Nat)(c:∀i j,i<n->j<n->e i j=e j i)(d:∀i,i<n->e i i=0) :
  ((aE n).map λi=>((aE n).map λj=>e i j).sum).sum=2*((aE n).map λa=>((aE (n-(a+1))).map λj=>e a (a+1+j)).sum).sum:=by
 induction n with
 | zero=>simp
 | succ n f=>
  have f:=f (λi j b l=>c i j (by omega) (by omega)) λi b=>d i (by omega);rw[Z9,Z9,Z9];have h:((aE n).map λi=>((aE (n+1)).map λj=>e i j).sum).sum=((aE n).map λi=>((aE n).map λj=>e i j).sum).sum+((aE n).map λi=>e i n).sum:=by rw[<-Jd];apply Yi;intro i _;rw[Z9]
  have k:((aE n).map λa=>((aE (n+1-(a+1))).map λj=>e a (a+1+j)).sum).sum=((aE n).map λa=>((aE (n-(a+1))).map λj=>e a (a+1+j)).sum).sum+((aE n).map λi=>e i n).sum:=by rw[<-Jd];apply Yi;intro i b;rw[show n+1-(i+1)=(n-(i+1))+1 by omega,Z9,show i+1+(n-(i+1))=n by omega]
  have g:((aE n).map λj=>e n j).sum=((aE n).map λi=>e i n).sum:=by apply Yi;intro i b;exact c n i (by omega) (by omega)
  rw[h,k,g,d n (by omega)];simp;omega
structure NamesOk(i:Nat)(l:List Int):Prop where
 len:l.length=i
 nd:l.Nodup
 lo:∀x∈l,0<=x
 hi:∀x∈l,x<i
theorem NamesOk.nil:NamesOk 0 []:=⟨rfl,dF,λ_ h=>by simp at h,λ_ h=>by simp at h⟩
theorem NamesOk.ins{i:Nat}{l:List Int}(h:NamesOk i l)(k:Nat):NamesOk (i+1) (l.take k++(i:Int)::l.drop k):=by
 have b:(l.take k++(i:Int)::l.drop k).Perm ((i:Int)::l):=by have:=List.perm_middle (a:=(i:Int)) (l₁:=l.take k) (l₂:=l.drop k);rw[List.take_append_drop] at this;exact this
 refine⟨by rw[b.length_eq,bh,h.len],?_,λx c=>?_,λx c=>?_⟩
 ·rw[b.nodup_iff,bN];exact⟨λd=>by have:=h.hi _ d;omega,h.nd⟩
 ·rcases a9.mp (b.mem_iff.mp c) with e | e
  ·omega
  ·exact h.lo x e
 ·rcases a9.mp (b.mem_iff.mp c) with e | e
  ·omega
  ·have:=h.hi x e;omega
theorem NamesOk.at{i:Nat}{l:List Int}(h:NamesOk i l){x:Nat}(a:x<i):0<=Zn l x/\Zn l x<i:=by
 have e:Zn l x=l[x]'(by rw[h.len];exact a):=by unfold Zn;rw[aG,aI (by rw[h.len];exact a)];rfl
 rw[e];exact⟨h.lo _ (dB _),h.hi _ (dB _)⟩
theorem NamesOk.ne{i:Nat}{l:List Int}(h:NamesOk i l){x y:Nat}(a:x<i)(b:y<i)(n:x≠y):Zn l x≠Zn l y:=by
 have d:Zn l x=l[x]'(by rw[h.len];exact a):=by unfold Zn;rw[aG,aI (by rw[h.len];exact a)];rfl
 have c:Zn l y=l[y]'(by rw[h.len];exact b):=by unfold Zn;rw[aG,aI (by rw[h.len];exact b)];rfl
 rw[d,c];intro e;exact n ((jv h.nd).mp e)
theorem lt_size{n:Nat}(h:n<=10000):n<sizeLine:=ar h (by decide)
end L2
namespace VL
open PySem PySem.Spec PyProof.Rows L2
variable {K:aD}
noncomputable def NsO(od:dN)(f:ak)(u:aH):Prop:=∀(hp:b9)(dx:aL),hp.get? dx=aA od->hp.Ns1 dx (λn=>if n=f then aA u else none)
noncomputable def EK(n:ak):ak:=if n = "NoWeb" then "place" else if n = "Apart" then "houses" else if n = "TooMany" then "most" else "total"
structure Lam where
 qual:ak
 params:Arguments
 body:av
 scope:dP
 free:ak
inductive PV where
 | non | bl (b:Bool) | int (i:Int) | str (x:ak) | ty (n:String) | exc (n:ak) | exf (n:ak) (l:PV) | clo (L:Lam) (l:PV)
 | tup (l:List PV) | lst (l:List PV) | cst (l:List PV)
 | dK (ks:List Pp) (vs:List PV) | dT (ks:List (List Pp)) (vs:List PV)
instance:Inhabited PV:=⟨.non⟩
mutual
/-- nothing in it can be changed -/
def Yb:PV->Bool
 | .tup l=>ZL l
 | .cst l=>ZL l
 | .lst _=>aB
 | .dK _ _=>aB
 | .dT _ _=>aB
 | .non=>aC
 | .bl _=>aC
 | .int _=>aC
 | .str _=>aC
 | .ty _=>aC
 | .exc _=>aC
 | .exf _ _=>aC
 | .clo _ l=>Yb l
def ZL:List PV->Bool
 | []=>aC
 | x::r=>Yb x&&ZL r
end
theorem Xx:∀l:List PV,ZL l=l.all Yb
 | []=>rfl
 | x::r=>by rw[hU,<-Xx r];rfl
noncomputable def KL(K:aD)(a:aL)(xs:List V):Prop:=
 ∃(o:dN) (kq:Array aH) (n:Nat),K.lookup a=aA o/\o.cls = .type "list"/\o.dict=none/\o.data = .seq kq n/\kq.size<=sizeLine/\Vals xs kq.toList
noncomputable def CsK(K:aD)(H:Hp)(p:aL)(xs:List V):Prop:=(∃o,H p=aA (.frz o (.lst xs)))\/KL K p xs
theorem CsK.sq{K:aD}{H:Hp}{p:aL}{a:List V}(h:CsK K H p a):SqL K H p a:=by
 rcases h with h | h
 ·exact .inl (.inr h)
 ·exact .inr h
noncomputable def CloAt(H:Hp)(L:Lam)(v:V)(u:aH):Prop:=∃f fo c oc e eo pm ct,v = .ref f/\H f=aA (.frz fo (.own 0))/\fo.data = .func (PySem.W.kla_fn "<lambda>" L.qual L.params L.body L.scope [(L.free,e)] pm (.ref c) ct)/\H c=aA (.frz oc (.own 0))/\HB oc L.qual/\H e=aA (.frz eo (.own 1))/\eo.data = .cell (aA u)
mutual
/-- v is the tree l in the heap H;fp: the addresses of kq lists and dicts -/
def Is(K:aD)(H:Hp):PV->V->List aL->Prop
 | .non,v,fp=>v = .non/\fp=[]
 | .bl b,v,fp=>v = .bl b/\fp=[]
 | .int i,v,fp=>v = .int i/\fp=[]
 | .str x,v,fp=>v = .str x/\fp=[]
 | .ty n,v,fp=>v = .ty n/\fp=[]
 | .exc n,v,fp=>(∃e o x C,v = .ref e/\H e=aA (.frz o (.own x))/\o.cls = .ref C/\iT K cV n=aA (aA (.ref C))/\o.dict=none/\∃vs,o.data = .fields vs)/\fp=[]
 | .exf n l,v,fp=>(∃e o x C dx od u z,v = .ref e/\H e=aA (.frz o (.own x))/\o.cls = .ref C/\iT K cV n=aA (aA (.ref C))/\o.dict=aA dx/\(∃vs,o.data = .fields vs)/\H dx=aA (.frz od (.own dx))/\NsO od (EK n) u/\RelV z u/\Is K H l z [])/\fp=[]
 | .clo L l,v,fp=>∃u x,CloAt H L v u/\RelV x u/\Is K H l x fp
 | .tup l,v,fp=>∃p xs,v = .ref p/\H p=aA (.tup xs)/\Iss K H l xs fp
 | .lst l,v,fp=>∃p xs fq,v = .ref p/\H p=aA (.lst xs)/\Iss K H l xs fq/\fp=p::fq
 | .cst l,v,fp=>∃p xs,v = .ref p/\CsK K H p xs/\Iss K H l xs fp
 | .dK ks l,v,fp=>∃p kg fq,v = .ref p/\Rd H p (.dK kg)/\kg.map (·.1)=ks/\Iss K H l (kg.map (·.2)) fq/\fp=p::fq
 | .dT ks l,v,fp=>∃p kg fq,v = .ref p/\Rd H p (.dT kg)/\kg.map (·.1)=ks/\Iss K H l (kg.map (·.2)) fq/\fp=p::fq
def Iss(K:aD)(H:Hp):List PV->List V->List aL->Prop
 | [],xs,fp=>xs=[]/\fp=[]
 | l::ls,xs,fp=>∃x r f1 f2,xs=x::r/\Is K H l x f1/\Iss K H ls r f2/\fp=f1++f2
end
noncomputable def RdK(H H':Hp)(p:aL):Prop:=(∀xs,H p=aA (.lst xs)->H' p=aA (.lst xs))/\(∀kg,Rd H p (.dK kg)->Rd H' p (.dK kg))/\∀kg,Rd H p (.dT kg)->Rd H' p (.dT kg)
theorem RdK.of{H a:Hp}{p:aL}(h:∀o,H p=aA o->a p=aA o):RdK H a p:=by
 have r:∀u,Rd H p u->Rd a p u:=λu q=>by
  rcases q with q | ⟨o,q⟩
  ·exact .inl (h _ q)
  ·exact .inr ⟨o,h _ q⟩
 exact⟨λ_=>h _,λ_=>r _,λ_=>r _⟩
structure EL(H H':Hp):Prop where
 tup:TK H H'
 frz:∀b o xs,H b=aA (.frz o (.lst xs))->H' b=aA (.frz o (.lst xs))
 exc:∀b o x,H b=aA (.frz o (.own x))->H' b=aA (.frz o (.own x))
theorem Same.tk2{H a:Hp}(s:Same H a):EL H a:=⟨s.tk,λb o c h=>s b _ h,λb o x h=>s b _ h⟩
theorem CsK.tr{K:aD}{H b:Hp}(t:EL H b){p:aL}{a:List V}(h:CsK K H p a):CsK K b p a:=by
 rcases h with⟨o,h⟩ | h
 ·exact .inl ⟨o,t.frz p o a h⟩
 ·exact .inr h
theorem CloAt.tr{H a:Hp}(t:EL H a){L:Lam}{v:V}{u:aH}(h:CloAt H L v u):CloAt a L v u:=by obtain⟨f,fo,c,d,e,b,n,ct,m,o,k,i,g,l,j⟩:=h;exact⟨f,fo,c,d,e,b,n,ct,m,t.exc f fo 0 o,k,t.exc c d 0 i,g,t.exc e b 1 l,j⟩
mutual
theorem Is.tr{H n:Hp}(f:EL H n):∀(l:PV)(v:V)(fp:List aL),(∀p∈fp,RdK H n p)->Is K H l v fp->Is K n l v fp
 | .non,_,_,_,h=>by simpa only[Is] using h
 | .bl _,_,_,_,h=>by simpa only[Is] using h
 | .int _,_,_,_,h=>by simpa only[Is] using h
 | .str _,_,_,_,h=>by simpa only[Is] using h
 | .ty _,_,_,_,h=>by simpa only[Is] using h
 | .exc _,_,_,_,h=>by simp only[Is] at h ⊢;obtain⟨⟨e,o,x,C,a,b,c⟩,d⟩:=h;exact⟨⟨e,o,x,C,a,f.exc e o x b,c⟩,d⟩
 | .exf _ l,_,_,_,h=>by simp only[Is] at h ⊢;obtain⟨⟨e,o,x,C,r,y,u,z,a,b,c1,c2,c3,c4,c5,E,D,A⟩,d⟩:=h;exact⟨⟨e,o,x,C,r,y,u,z,a,f.exc e o x b,c1,c2,c3,c4,f.exc r y r c5,E,D,Is.tr f l z [] (λp s=>by simp at s) A⟩,d⟩
 | .clo L l,v,fp,hm,h=>by simp only[Is] at h ⊢;obtain⟨u,x,B,i,g⟩:=h;exact⟨u,x,B.tr f,i,Is.tr f l x fp hm g⟩
 | .tup l,v,fp,hm,h=>by simp only[Is] at h ⊢;obtain⟨p,j,e,s,g⟩:=h;exact⟨p,j,e,f.tup p j s,Iss.tr f l j fp hm g⟩
 | .lst l,v,fp,hm,h=>by simp only[Is] at h ⊢;obtain⟨p,j,k,e,i,g,rfl⟩:=h;exact⟨p,j,k,e,(hm p aZ).1 _ i,Iss.tr f l j k (λq m=>hm q (aT _ m)) g,rfl⟩
 | .cst l,v,fp,hm,h=>by simp only[Is] at h ⊢;obtain⟨p,j,e,i,g⟩:=h;exact⟨p,j,e,i.tr f,Iss.tr f l j fp hm g⟩
 | .dK ks l,v,fp,hm,h=>by simp only[Is] at h ⊢;obtain⟨p,t,k,e,i,w,g,rfl⟩:=h;exact⟨p,t,k,e,(hm p aZ).2.1 _ i,w,Iss.tr f l _ k (λq m=>hm q (aT _ m)) g,rfl⟩
 | .dT ks l,v,fp,hm,h=>by simp only[Is] at h ⊢;obtain⟨p,t,k,e,i,w,g,rfl⟩:=h;exact⟨p,t,k,e,(hm p aZ).2.2 _ i,w,Iss.tr f l _ k (λq m=>hm q (aT _ m)) g,rfl⟩
theorem Iss.tr{H a:Hp}(c:EL H a):∀(l:List PV)(xs:List V)(fp:List aL),(∀p∈fp,RdK H a p)->Iss K H l xs fp->Iss K a l xs fp
 | [],_,_,_,h=>by simpa only[Iss] using h
 | l::ls,xs,fp,hm,h=>by simp only[Iss] at h ⊢;obtain⟨x,r,f1,f2,e,d,f,rfl⟩:=h;exact⟨x,r,f1,f2,e,Is.tr c l x f1 (λq b=>hm q (b6 _ b)) d,Iss.tr c ls r f2 (λq b=>hm q (af _ b)) f,rfl⟩
end
theorem Is.mono{H b:Hp}(s:Same H b){l:PV}{v:V}{a:List aL}(h:Is K H l v a):Is K b l v a:=Is.tr (Same.tk2 s) l v a (λp _=>RdK.of λo q=>s p o q) h
theorem Iss.mono{H b:Hp}(s:Same H b){l:List PV}{v:List V}{a:List aL}(h:Iss K H l v a):Iss K b l v a:=Iss.tr (Same.tk2 s) l v a (λp _=>RdK.of λo q=>s p o q) h
mutual
theorem Is.pure{H:Hp}:∀(l:PV)(v:V)(fp:List aL),Yb l=aC->Is K H l v fp->fp=[]
 | .non,_,_,_,h=>by simp only[Is] at h;exact h.2
 | .bl _,_,_,_,h=>by simp only[Is] at h;exact h.2
 | .int _,_,_,_,h=>by simp only[Is] at h;exact h.2
 | .str _,_,_,_,h=>by simp only[Is] at h;exact h.2
 | .ty _,_,_,_,h=>by simp only[Is] at h;exact h.2
 | .exc _,_,_,_,h=>by simp only[Is] at h;exact h.2
 | .exf _ _,_,_,_,h=>by simp only[Is] at h;exact h.2
 | .clo L l,v,fp,hp,h=>by simp only[Is] at h;obtain⟨u,x,d,c,a⟩:=h;exact Is.pure l x fp (by simpa only[Yb] using hp) a
 | .tup l,v,fp,hp,h=>by simp only[Is] at h;obtain⟨p,b,e,_,a⟩:=h;exact Iss.pure l b fp (by simpa only[Yb] using hp) a
 | .lst l,v,fp,hp,h=>by simp[Yb] at hp
 | .cst l,v,fp,hp,h=>by simp only[Is] at h;obtain⟨p,b,e,_,a⟩:=h;exact Iss.pure l b fp (by simpa only[Yb] using hp) a
 | .dK ks l,v,fp,hp,h=>by simp[Yb] at hp
 | .dT ks l,v,fp,hp,h=>by simp[Yb] at hp
theorem Iss.pure{H:Hp}:∀(l:List PV)(xs:List V)(fp:List aL),ZL l=aC->Iss K H l xs fp->fp=[]
 | [],_,_,_,h=>by simp only[Iss] at h;exact h.2
 | l::ls,xs,fp,hp,h=>by simp only[Iss] at h;simp only[ZL,bX] at hp;obtain⟨x,r,f1,f2,e,a,b,rfl⟩:=h;rw[Is.pure l x f1 hp.1 a,Iss.pure ls r f2 hp.2 b];rfl
end
section
variable {H H':Hp}
theorem Iss.len:∀{l:List PV}{xs:List V}{fp:List aL},Iss K H l xs fp->xs.length=l.length
 | [],xs,fp,h=>by simp only[Iss] at h;rw[h.1];rfl
 | l::ls,xs,fp,h=>by simp only[Iss] at h;obtain⟨x,r,f1,f2,rfl,_,a,_⟩:=h;rw[bh,bh,a.len]
theorem Iss.get:∀{l:List PV}{xs:List V}{fp:List aL}{i:Nat}{a:PV},Iss K H l xs fp->l[i]?=aA a->∃x f1,xs[i]?=aA x/\Is K H a x f1/\∀p∈f1,p∈fp
 | [],xs,fp,i,a,h,e=>by simp at e
 | l::ls,xs,fp,0,a,h,e=>by simp only[Iss] at h;obtain⟨x,r,f1,f2,rfl,d,_,rfl⟩:=h;simp at e;subst e;exact⟨x,f1,rfl,d,λp b=>b6 _ b⟩
 | l::ls,xs,fp,i+1,a,h,e=>by simp only[Iss] at h;obtain⟨x,r,f1,f2,rfl,_,k,rfl⟩:=h;obtain⟨y,g,f,j,c⟩:=k.get (i:=i) (a:=a) (by simpa using e);exact⟨y,g,by simpa using f,j,λp b=>af _ (c p b)⟩
theorem Iss.get'{l:List PV}{d:List V}{c:List aL}{i:Nat}{x:V}(h:Iss K H l d c)(e:d[i]?=aA x):∃a f1,l[i]?=aA a/\Is K H a x f1/\∀p∈f1,p∈c:=by
 have f:i<l.length:=by rw[<-h.len];exact(aU.mp e).1
 obtain⟨y,f1,b,j,g⟩:=h.get (aI f);rw[e] at b;cases b;exact⟨_,f1,aI f,j,g⟩
theorem Iss.nil:Iss K H [] [] []:=by simp[Iss]
theorem Iss.cons{l:PV}{ls:List PV}{x:V}{a:List V}{f1 f2:List aL}(b:Is K H l x f1)(c:Iss K H ls a f2):Iss K H (l::ls) (x::a) (f1++f2):=by exact⟨x,a,f1,f2,rfl,b,c,rfl⟩
theorem Iss.inv{l:PV}{ls:List PV}{b:List V}{a:List aL}(h:Iss K H (l::ls) b a):∃x r f1 f2,b=x::r/\Is K H l x f1/\Iss K H ls r f2/\a=f1++f2:=by simpa only[Iss] using h
theorem Iss.append:∀{l m:List PV}{xs ys:List V}{f1 f2:List aL},Iss K H l xs f1->Iss K H m ys f2->Iss K H (l++m) (xs++ys) (f1++f2)
 | [],m,xs,ys,f1,f2,h,h'=>by simp only[Iss] at h;rw[h.1,h.2];exact h'
 | l::ls,m,xs,ys,f1,f2,h,h'=>by obtain⟨x,r,d,c,rfl,a,b,rfl⟩:=h.inv;rw[fX];exact Iss.cons a (b.append h')
theorem Iss.one{l:PV}{x:V}{f:List aL}(h:Is K H l x f):Iss K H [l] [x] f:=by
 have:=Iss.cons h (Iss.nil)
 rwa [dI] at this
theorem Iss.take:∀{l:List PV}{xs:List V}{fp:List aL}(n:Nat),Iss K H l xs fp->∃f1,Iss K H (l.take n) (xs.take n) f1/\∀p∈f1,p∈fp
 | l,xs,fp,0,h=>⟨[],by rw[jA,jA];exact Iss.nil,λp c=>by simp at c⟩
 | [],xs,fp,n+1,h=>by simp only[Iss] at h;rw[h.1];exact⟨[],by rw[kZ,kZ];exact Iss.nil,λp c=>by simp at c⟩
 | l::ls,xs,fp,n+1,h=>by
  obtain⟨x,r,f1,f2,rfl,e,f,rfl⟩:=h.inv;obtain⟨d,a,b⟩:=f.take n;refine⟨f1++d,Iss.cons e a,λp c=>?_⟩;rcases bg.mp c with h | h
  ·exact b6 _ h
  ·exact af _ (b p h)
theorem Iss.drop:∀{l:List PV}{xs:List V}{fp:List aL}(n:Nat),Iss K H l xs fp->∃f1,Iss K H (l.drop n) (xs.drop n) f1/\∀p∈f1,p∈fp
 | l,xs,fp,0,h=>⟨fp,h,λp c=>c⟩
 | [],xs,fp,n+1,h=>by simp only[Iss] at h;rw[h.1];exact⟨[],by rw[k3,k3];exact Iss.nil,λp c=>by simp at c⟩
 | l::ls,xs,fp,n+1,h=>by obtain⟨x,r,f1,f2,rfl,f,e,rfl⟩:=h.inv;obtain⟨d,a,b⟩:=e.drop n;exact⟨d,a,λp c=>af _ (b p c)⟩
theorem Iss.setP:∀{l:List PV}{xs:List V}{a:PV}{x:V}(i:Nat),ZL l=aC->Yb a=aC->Iss K H l xs []->Is K H a x []->Iss K H (l.set i a) (xs.set i x) []
 | [],xs,a,x,i,_,_,h,_=>by simp only[Iss] at h;rw[h.1];simp only[List.set_nil];exact Iss.nil
 | l::ls,xs,a,x,0,hp,_,h,ha=>by simp only[ZL,bX] at hp;obtain⟨y,r,f1,f2,rfl,_,b,e⟩:=h.inv;have c:=Iss.pure _ _ _ hp.2 b;subst c;exact Iss.cons (f1:=[]) ha b
 | l::ls,xs,a,x,i+1,hp,hq,h,ha=>by simp only[ZL,bX] at hp;obtain⟨y,r,f1,f2,rfl,d,b,e⟩:=h.inv;have f:=Is.pure _ _ _ hp.1 d;have c:=Iss.pure _ _ _ hp.2 b;subst f c;exact Iss.cons (f1:=[]) d (Iss.setP i hp.2 hq b ha)
theorem Is.int_inv{i:Int}{v:V}{a:List aL}(h:Is K H (.int i) v a):v = .int i/\a=[]:=by simpa only[Is] using h
theorem Is.int(i:Int):Is K H (.int i) (.int i) []:=by simp[Is]
theorem Is.bl(i:Bool):Is K H (.bl i) (.bl i) []:=by simp[Is]
theorem Is.non:Is K H .non .non []:=by simp[Is]
theorem Is.str(x:ak):Is K H (.str x) (.str x) []:=by simp[Is]
theorem Is.ty(n:String):Is K H (.ty n) (.ty n) []:=by simp[Is]
theorem Is.bl_inv{i:Bool}{v:V}{a:List aL}(h:Is K H (.bl i) v a):v = .bl i/\a=[]:=by simpa only[Is] using h
theorem Is.str_inv{i:ak}{v:V}{a:List aL}(h:Is K H (.str i) v a):v = .str i/\a=[]:=by simpa only[Is] using h
theorem Is.non_inv{v:V}{a:List aL}(h:Is K H .non v a):v = .non/\a=[]:=by simpa only[Is] using h
theorem Is.ty_inv{n:String}{v:V}{a:List aL}(h:Is K H (.ty n) v a):v = .ty n/\a=[]:=by simpa only[Is] using h
theorem Is.tup_inv{l:List PV}{v:V}{a:List aL}(h:Is K H (.tup l) v a):∃p xs,v = .ref p/\H p=aA (.tup xs)/\Iss K H l xs a:=by simpa only[Is] using h
theorem Is.tup{l:List PV}{p:aL}{a:List V}{b:List aL}(h:H p=aA (.tup a))(c:Iss K H l a b):Is K H (.tup l) (.ref p) b:=by simp only[Is];exact⟨p,a,rfl,h,c⟩
theorem Is.lst_inv{l:List PV}{v:V}{a:List aL}(h:Is K H (.lst l) v a):∃p xs fq,v = .ref p/\H p=aA (.lst xs)/\Iss K H l xs fq/\a=p::fq:=by simpa only[Is] using h
theorem Is.lst{l:List PV}{p:aL}{b:List V}{a:List aL}(h:H p=aA (.lst b))(c:Iss K H l b a):Is K H (.lst l) (.ref p) (p::a):=by simp only[Is];exact⟨p,b,a,rfl,h,c,rfl⟩
theorem Is.cst_inv{l:List PV}{v:V}{a:List aL}(h:Is K H (.cst l) v a):∃p xs,v = .ref p/\CsK K H p xs/\Iss K H l xs a:=by simpa only[Is] using h
theorem Is.cst{l:List PV}{p:aL}{a:List V}{b:List aL}(h:CsK K H p a)(c:Iss K H l a b):Is K H (.cst l) (.ref p) b:=by simp only[Is];exact⟨p,a,rfl,h,c⟩
theorem Is.dT_inv{b:List (List Pp)}{l:List PV}{v:V}{a:List aL}(h:Is K H (.dT b l) v a):∃p kg fq,v = .ref p/\Rd H p (.dT kg)/\kg.map (·.1)=b/\Iss K H l (kg.map (·.2)) fq/\a=p::fq:=by simpa only[Is] using h
theorem Is.dK_inv{b:List Pp}{l:List PV}{v:V}{a:List aL}(h:Is K H (.dK b l) v a):∃p kg fq,v = .ref p/\Rd H p (.dK kg)/\kg.map (·.1)=b/\Iss K H l (kg.map (·.2)) fq/\a=p::fq:=by simpa only[Is] using h
end
abbrev iL(l:List Int):List PV:=l.map PV.int
theorem Yc(l:List Int):ZL (iL l)=aC:=by rw[Xx,ao];intro x a;obtain⟨i,_,rfl⟩:=bj.mp a;rfl
theorem Iss.iL{H:Hp}:∀{l:List Int}{xs:List V}{fp:List aL},Iss K H (VL.iL l) xs fp->xs=l.map V.int/\fp=[]
 | [],xs,fp,h=>by simpa only[VL.iL,List.map_nil,Iss] using h
 | i::l,xs,fp,h=>by obtain⟨x,r,f1,f2,rfl,a,b,rfl⟩:=Iss.inv (show Iss K H (PV.int i::VL.iL l) xs fp from h);obtain⟨rfl,rfl⟩:=a.int_inv;obtain⟨rfl,rfl⟩:=b.iL;exact⟨rfl,rfl⟩
theorem Iss.ofInts{H:Hp}:∀(l:List Int),Iss K H (VL.iL l) (l.map V.int) []
 | []=>Iss.nil
 | i::l=>Iss.cons (f1:=[]) (Is.int i) (Iss.ofInts l)
end VL
namespace VL
open PySem PySem.Spec PyProof.Rows L2
variable {K:aD}
abbrev Rc:=L2.St
abbrev ZH:=List (Option PV)
abbrev XE:=ZH->Option PV
structure EnvIs(K:aD)(Rm:aL->Prop)(H:Hp)(s:ZH)(σ:Rc):Prop where
 is:∀(i:Nat) l,s[i]?=aA (aA l)->∃v fp,σ[i]?=aA (aA v)/\Is K H l v fp/\∀p∈fp,¬Rm p
theorem EnvIs.mono{f:aL->Prop}{H d:Hp}{s:ZH}{g:Rc}(h:EnvIs K f H s g)(e:Same H d):EnvIs K f d s g:=⟨λi l q=>by
 obtain⟨v,j,a,b,c⟩:=h.is i l q;exact⟨v,j,a,b.mono e,c⟩⟩
theorem EnvIs.free{e:aL->Prop}{H:Hp}{s:ZH}{d:Rc}(h:EnvIs K e H s d):EnvIs K (λ_=>False) H s d:=⟨λi l q=>by
 obtain⟨v,f,a,b,c⟩:=h.is i l q;exact⟨v,f,a,b,λ_ _ z=>z⟩⟩
theorem Same.mut{H a:Hp}(e:Same H a){p:aL}(h:UG (H p)):UG (a p):=by
 cases q:H p with
 | none=>rw[q] at h;exact h.elim
 | some o=>rw[e p o q,<-q];exact h
theorem Xk{H:Hp}{p:aL}(h:UG (H p)):H p≠none:=λz=>by rw[z] at h;exact h
noncomputable def tF(K:aD)(f:XE):TE:=λσ H Q=>∃(Rm:aL->Prop) (s:ZH) (l:PV),(∀p,Rm p->UG (H p))/\EnvIs K Rm H s σ/\f s=aA l/\∀v H' fp,Same H H'->Is K H' l v fp->(∀p∈fp,¬Rm p)->Q v H'
noncomputable def tM(K:aD)(f:XE):TE:=λσ H Q=>∃(s:ZH) (l:PV),EnvIs K (λ_=>False) H s σ/\f s=aA l/\∀v H' fp,Same H H'->Is K H' l v fp->fp.Nodup->(∀p∈fp,H p=none/\UG (H' p))->Q v H'
noncomputable def VE(X:Cx)(e:av)(f:XE):Prop:=PE X e (tF X.K f)
noncomputable def VM(X:Cx)(e:av)(f:XE):Prop:=PE X e (tM X.K f)
section
variable {X:Cx} {e:av} {f g:XE} {t t':TE}
theorem PE.imp(h:PE X e t)(i:∀a H Q,t' a H Q->t a H Q):PE X e t':=λb s a H Q I q=>h b s a H Q I (i a H Q q)
theorem VM.ve(h:VM X e f):VE X e f:=PE.imp h λj H Q ⟨m,s,l,c,env,e,k⟩=>
 ⟨s,l,env.free,e,λv a d g i _ n=>k v a d g i λp b z=>Xk (c p z) (n p b).1⟩
noncomputable def eP(f:XE):XE:=λs=>(f s).bind λl=>if Yb l=aC then aA l else none
theorem EM{s:ZH}{l:PV}(h:eP f s=aA l):f s=aA l/\Yb l=aC:=by
 unfold eP at h
 cases q:f s with
 | none=>rw[q] at h;cases h
 | some a=>
  rw[q] at h;simp only[aV] at h;split at h
  ·cases h;exact⟨rfl,by assumption⟩
  ·cases h
theorem VE.pure(h:VE X e f):VM X e (eP f):=PE.imp h λm H Q ⟨s,l,env,e,k⟩=>by
 obtain⟨b,j⟩:=EM e;refine⟨λ_=>False,s,l,λ_ z=>z.elim,env,b,λv a d g i n=>?_⟩;have:=Is.pure l v d j i;subst this;exact k v a [] g i dF λp c=>by simp at c
end
noncomputable def Za(i:Nat):XE:=λs=>(s[i]?).join
noncomputable def eC(l:PV):XE:=λ_=>aA l
theorem Ob{i:Nat}{s:ZH}{l:PV}(h:Za i s=aA l):s[i]?=aA (aA l):=by
 unfold Za at h
 cases q:s[i]? with
 | none=>rw[q] at h;cases h
 | some o=>rw[q] at h;cases o with
  | none=>cases h
  | some a=>cases h;rfl
section
variable {X:Cx} {pos:el}
theorem A9{e:av}{i:Nat}(h:PE X e (Pq i)):VE X e (Za i):=PE.imp h λj H Q ⟨f,s,l,g,env,e,k⟩=>by obtain⟨v,d,a,b,c⟩:=env.is i l (Ob e);exact⟨v,a,k v H d (Same.refl H) b c⟩
theorem EN{e:av}{v:V}{l:PV}(h:PE X e (tC v))(b:∀H,Is X.K H l v []):VE X e (eC l):=PE.imp h λf H Q ⟨c,s,l',d,env,e,k⟩=>by
 cases e;exact k v H [] (Same.refl H) (b H) λp a=>by simp at a
theorem Zg{i j}:VE X (.Constant (.int i) j pos) (eC (.int i)):=EN CQ λ_=>Is.int i
theorem Ci{i j}:VE X (.Constant (.bool i) j pos) (eC (.bl i)):=EN Ay λ_=>Is.bl i
theorem Lz{j}:VE X (.Constant .none j pos) (eC .non):=EN CS λ_=>Is.non
end
noncomputable def RB(K:aD)(r:R2)(g:PV->PV->Option PV):Prop:=∀(H:Hp)(x y:V)(a b l:PV)(fa fb:List aL),Is K H a x fa->Is K H b y fb->g a b=aA l->∀Q:VK,
 (∀v H' fp,Same H H'->Is K H' l v fp->(∀p∈fp,p∈fa\/p∈fb\/H p=none)->Q v H')->r x y H Q
noncomputable def Zi(g:PV->PV->Option PV)(a b:XE):XE:=λs=>(a s).bind λx=>(b s).bind λy=>g x y
theorem Qk{g:PV->PV->Option PV}{a b:XE}{s:ZH}{l:PV}(h:Zi g a b s=aA l):∃x y,a s=aA x/\b s=aA y/\g x y=aA l:=by
 unfold Zi at h
 cases q:a s with
 | none=>rw[q] at h;cases h
 | some x=>cases q2:b s with
  | none=>rw[q,q2] at h;cases h
  | some y=>rw[q,q2] at h;exact⟨x,y,rfl,rfl,h⟩
section
variable {X:Cx} {a b:av} {fa fb:XE} {pos:el}
theorem Jf{r:R2}{g:PV->PV->Option PV}(n:RB K r g):∀c H Q,tF K (Zi g fa fb) c H Q->Aq r (tF K fa) (tF K fb) c H Q:=λc H Q ⟨f,s,l,b,env,e,k⟩=>by
 obtain⟨d,i,D,w,e⟩:=Qk e;refine⟨f,s,d,b,env,D,λx F f1 s1 t E=>⟨f,s,i,λp a=>Same.mut s1 (b p a),env.mono s1,w,λy m f2 s2 u A=>?_⟩⟩;refine n m x y d i l f1 f2 (t.mono s2) u e Q λv B q j C o=>k v B q (s1.trans (s2.trans j)) C λp a z=>?_;rcases o p a with h | h | h
 ·exact E p h z
 ·exact A p h z
 ·exact Xk (Same.mut (s1.trans s2) (b p z)) h
theorem Wy{op:Operator}{r:R2}{g:PV->PV->Option PV}(e:Tg X (dE op) r)(c:RB X.K r g)(f:VE X a fa)(d:VE X b fb):VE X (.BinOp a op b pos) (Zi g fa fb):=
 PE.imp (HI e f d) (Jf c)
theorem HZ{op:kR}{r:R2}{g:PV->PV->Option PV}(f:Tg X (eT op) r)(c:RB X.K r g)(h:VE X a fa)(e:VE X b fb)(d:cY op b=aB):VE X (.Compare a [op] [b] pos) (Zi g fa fb):=
 PE.imp (En f h e d) (Jf c)
theorem Zaa{r:R2}{g:PV->PV->Option PV}(f:IxR X r)(c:RB X.K r g)(h:VE X a fa)(e:VE X b fb)(d:OJ b):VE X (.Subscript a b pos) (Zi g fa fb):=
 PE.imp (HP f h e d) (Jf c)
end
noncomputable def gI(g:Int->Int->Int):PV->PV->Option PV
 | .int i,.int j=>aA (.int (g i j))
 | _,_=>none
noncomputable def gB(g:Int->Int->Bool):PV->PV->Option PV
 | .int i,.int j=>aA (.bl (g i j))
 | _,_=>none
noncomputable def Ij(C:Int->Int->Prop)[∀i j,Decidable (C i j)](g:Int->Int->Int):PV->PV->Option PV
 | .int i,.int j=>if C i j then aA (.int (g i j)) else none
 | _,_=>none
theorem EO{g:Int->Int->Int}{a b l:PV}(h:gI g a b=aA l):∃i j,a = .int i/\b = .int j/\l = .int (g i j):=by
 unfold gI at h;split at h
 ·cases h;exact⟨_,_,rfl,rfl,rfl⟩
 ·cases h
theorem ER{g:Int->Int->Bool}{a b l:PV}(h:gB g a b=aA l):∃i j,a = .int i/\b = .int j/\l = .bl (g i j):=by
 unfold gB at h;split at h
 ·cases h;exact⟨_,_,rfl,rfl,rfl⟩
 ·cases h
theorem H9{C:Int->Int->Prop}[∀i j,Decidable (C i j)]{g:Int->Int->Int}{a b l:PV}(h:Ij C g a b=aA l):∃i j,a = .int i/\b = .int j/\C i j/\l = .int (g i j):=by
 unfold Ij at h;split at h
 ·split at h
  ·cases h;exact⟨_,_,rfl,rfl,by assumption,rfl⟩
  ·cases h
 ·cases h
theorem Zab(g:Int->Int->Int):RB K (Ce λi j=>.int (g i j)) (gI g):=λH x y a b l h fb f c e Q k=>by obtain⟨i,j,rfl,rfl,rfl⟩:=EO e;exact⟨i,j,f.int_inv.1,c.int_inv.1,k _ H [] (Same.refl H) (Is.int _) λp d=>by simp at d⟩
theorem Zac(g:Int->Int->Bool):RB K (Ce λi j=>.bl (g i j)) (gB g):=λH x y a b l h fb f c e Q k=>by obtain⟨i,j,rfl,rfl,rfl⟩:=ER e;exact⟨i,j,f.int_inv.1,c.int_inv.1,k _ H [] (Same.refl H) (Is.bl _) λp d=>by simp at d⟩
theorem Rf(C:Int->Int->Prop)[∀i j,Decidable (C i j)](g:Int->Int->Int):RB K (rI C λi j=>.int (g i j)) (Ij C g):=λH x y a b l m fb f h e Q k=>by obtain⟨i,j,rfl,rfl,c,rfl⟩:=H9 e;exact⟨i,j,f.int_inv.1,h.int_inv.1,c,k _ H [] (Same.refl H) (Is.int _) λp d=>by simp at d⟩
instance (i j:Int):Decidable (CMul i j):=by unfold CMul;infer_instance
instance (i j:Int):Decidable (Lo i j):=by unfold Lo;infer_instance
instance (i j:Int):Decidable (Cf i j):=by unfold Cf;infer_instance
instance (i j:Int):Decidable (N8 i j):=by unfold N8;infer_instance
abbrev Yj:=gI (· + ·)
abbrev XN:=gI (· - ·)
abbrev UH:=Ij CMul (· * ·)
abbrev LA:=Ij Lo (· / ·)
abbrev Xt:=Ij (λ_ j=>0<j) (· % ·)
abbrev Py:=Ij N8 (λi j=>i^j.toNat)
abbrev Hv:=gB (λi j=>decide (i<j))
abbrev Li:=gB (λi j=>decide (j<i))
section
variable {X:Cx} {a b:av} {fa fb:XE} {pos:el}
theorem Yg(c:VE X a fa)(d:VE X b fb):VE X (.BinOp a .Add b pos) (Zi Yj fa fb):=Wy Ba (Zab _) c d
theorem Xl(c:VE X a fa)(d:VE X b fb):VE X (.BinOp a .Sub b pos) (Zi XN fa fb):=Wy Bc (Zab _) c d
theorem WQ(c:VE X a fa)(d:VE X b fb):VE X (.BinOp a .Mult b pos) (Zi UH fa fb):=Wy Be (Rf _ _) c d
theorem OQ(c:VE X a fa)(d:VE X b fb):VE X (.BinOp a .FloorDiv b pos) (Zi LA fa fb):=Wy El (Rf _ _) c d
theorem YN(c:VE X a fa)(d:VE X b fb):VE X (.BinOp a .Mod b pos) (Zi Xt fa fb):=Wy Bf (Rf _ _) c d
theorem Ql(c:VE X a fa)(d:VE X b fb):VE X (.BinOp a .Pow b pos) (Zi Py fa fb):=Wy Bg (Rf _ _) c d
end
noncomputable def ZM:PV->PV->Option PV
 | .lst l,.int i=>S9 l i
 | .cst l,.int i=>S9 l i
 | .tup l,.int i=>S9 l i
 | .str z,.int i=>if z.length<=sizeLine then(S9 z.cps.toList i).map λc=>.str ⟨#[c]⟩ else none
 | _,_=>none
theorem LB{l:List PV}{c:List V}{H:Hp}{b:List aL}{i:Int}{a:PV}(h:Iss K H l c b)(e:S9 l i=aA a):∃x f1,S9 c i=aA x/\Is K H a x f1/\∀p∈f1,p∈b:=by
 unfold S9 at e ⊢;rw[h.len]
 cases q:Md l.length i with
 | none=>rw[q] at e;cases e
 | some j=>rw[q] at e;exact h.get e
theorem Zad:RB K (rIx K) ZM:=λH x y a b l s fb n o e Q k=>by
 unfold ZM at e;split at e
 ·obtain⟨p,m,r,rfl,d,i,rfl⟩:=n.lst_inv;obtain⟨z,f1,h,f,g⟩:=LB i e;exact .inl ⟨p,m,_,z,rfl,o.int_inv.1,SqL.of d,h,k z H f1 (Same.refl H) f λq j=>.inl (aT _ (g q j))⟩
 ·obtain⟨p,m,rfl,d,i⟩:=n.cst_inv;obtain⟨z,f1,h,f,g⟩:=LB i e;exact .inl ⟨p,m,_,z,rfl,o.int_inv.1,d.sq,h,k z H f1 (Same.refl H) f λq j=>.inl (g q j)⟩
 ·obtain⟨p,m,rfl,d,i⟩:=n.tup_inv;obtain⟨z,f1,h,f,g⟩:=LB i e;exact .inr (.inl ⟨p,m,_,z,rfl,o.int_inv.1,SqT.of d,h,k z H f1 (Same.refl H) f λq j=>.inl (g q j)⟩)
 ·split at e
  ·cases q:S9 _ _ with
   | none=>rw[q] at e;cases e
   | some c=>
    rw[q] at e;cases e;exact .inr (.inr ⟨_,_,c,n.str_inv.1,o.int_inv.1,by assumption,q,k _ H [] (Same.refl H) (Is.str _) λp d=>by simp at d⟩)
  ·cases e
 ·cases e
section
variable {X:Cx} {a b:av} {fa fb:XE} {pos:el}
theorem Zl(c:VE X a fa)(d:VE X b fb)(e:OJ b:=by exact λ_ _=>rfl):VE X (.Subscript a b pos) (Zi ZM fa fb):=Zaa Bn Zad c d e
end
abbrev XT:=ZH->Option Bool
noncomputable def Ml(K:aD)(f:XT):TT:=λσ H Q=>∃(Rm:aL->Prop) (s:ZH) (c:Bool),(∀p,Rm p->UG (H p))/\EnvIs K Rm H s σ/\f s=aA c/\∀H',Same H H'->Q c H'
noncomputable def VT(X:Cx)(e:av)(f:XT):Prop:=PT X e (Ml X.K f)
noncomputable def VW(X:Cx)(e:av)(f:XT):Prop:=PW X e (Ml X.K f)
section
variable {X:Cx} {e:av} {f:XT}
theorem PT.imp{t t':TT}(h:PT X e t)(i:∀a H Q,t' a H Q->t a H Q):PT X e t':=λb s a H Q I q=>h b s a H Q I (i a H Q q)
theorem PW.imp{t t':TT}(h:PW X e t)(i:∀b H Q,t' b H Q->t b H Q):PW X e t':=λa c s b H Q I q=>h a c s b H Q I (i b H Q q)
theorem VW.vt(h:VW X e f):VT X e f:=PW.pt h
end
noncomputable def xB(f:XE):XT:=λs=>match f s with | some (.bl c)=>aA c | _=>none
theorem Tn{f:XE}{s:ZH}{c:Bool}(h:xB f s=aA c):f s=aA (.bl c):=by
 unfold xB at h;split at h
 ·cases h;assumption
 ·cases h
section
variable {X:Cx} {a b c:av} {Ys:List av} {fa fb:XE} {ga gb:XT} {pos:el}
theorem OR(h:VE X a fa)(d:∀whole,kP a X.env whole=(do let v <-whole;standAt a.pos;holding [v] (truthy v)):=by intro _;rfl):VT X a (xB fa):=
 PT.imp (CU h d) λm H Q ⟨g,s,c,f,env,e,k⟩=>⟨g,s,.bl c,f,env,Tn e,λv b l j i n=>⟨c,i.bl_inv.1,k b j⟩⟩
theorem Ga:∀a H Q,Ml K (xB fa) a H Q->K7 (tF K fa) a H Q:=λa H Q ⟨d,s,c,f,env,e,k⟩=>⟨d,s,.bl c,f,env,Tn e,λv b h g i n=>⟨c,i.bl_inv.1,k b g⟩⟩
theorem LC{t t':TE}(i:∀a H Q,t' a H Q->t a H Q):∀a H Q,K7 t' a H Q->K7 t a H Q:=λa H Q h=>i a H _ h
theorem T7{op:kR}{r:R2}{g:PV->PV->Option PV}(i:Tg X (eT op) r)(d:RB X.K r g)(j:VE X a fa)(f:VE X b fb)(e:cY op b=aB):VT X (.Compare a [op] [b] pos) (xB (Zi g fa fb)):=
 PT.imp (Eo i j f e) λc H Q h=>LC (Jf d) c H Q (Ga c H Q h)
theorem Mm(c:VE X a fa)(d:VE X b fb):VT X (.Compare a [.Lt] [b] pos) (xB (Zi Hv fa fb)):=T7 AS (Zac _) c d (TY _)
theorem Jg(c:VE X a fa)(d:VE X b fb):VT X (.Compare a [.Gt] [b] pos) (xB (Zi Li fa fb)):=T7 AU (Zac _) c d (TY _)
noncomputable def Qm(a b:XT):XT:=λs=>(a s).bind λc=>if c=aC then b s else aA aB
noncomputable def ES(a b:XT):XT:=λs=>(a s).bind λc=>if c=aC then aA aC else b s
noncomputable def Ik(a:XT):XT:=λs=>(a s).map not
theorem ET:∀a H Q,Ml K (Qm ga gb) a H Q->AA (Ml K ga) (Ml K gb) a H Q:=λa H Q ⟨b,s,c,f,env,e,k⟩=>by
 unfold Qm at e
 cases q:ga s with
 | none=>rw[q] at e;cases e
 | some d=>
  rw[q] at e;refine⟨b,s,d,f,env,q,λg s1=>?_⟩
  cases d with
  | true=>
   exact⟨b,s,c,λp h=>Same.mut s1 (f p h),env.mono s1,e,λi s2=>k i (s1.trans s2)⟩
  | false=>
   cases e;exact k g s1
theorem BB:∀a H Q,Ml K (ES ga gb) a H Q->tOr (Ml K ga) (Ml K gb) a H Q:=λa H Q ⟨b,s,c,f,env,e,k⟩=>by
 unfold ES at e
 cases q:ga s with
 | none=>rw[q] at e;cases e
 | some d=>
  rw[q] at e;refine⟨b,s,d,f,env,q,λg s1=>?_⟩
  cases d with
  | true=>
   cases e;exact k g s1
  | false=>
   exact⟨b,s,c,λp h=>Same.mut s1 (f p h),env.mono s1,e,λi s2=>k i (s1.trans s2)⟩
theorem OS(b:VT X a ga):VW X (.BoolOp .And [a] pos) ga:=Ei b
theorem LD(b:VT X a ga):VW X (.BoolOp .Or [a] pos) ga:=CV b
theorem LF(c:VT X a ga)(d:VW X (.BoolOp .And (b::Ys) pos) gb):VW X (.BoolOp .And (a::b::Ys) pos) (Qm ga gb):=PW.imp (CW c d) ET
theorem Gb(c:VT X a ga)(d:VW X (.BoolOp .Or (b::Ys) pos) gb):VW X (.BoolOp .Or (a::b::Ys) pos) (ES ga gb):=PW.imp (AB c d) BB
theorem Gd(g:VT X a ga):VT X (.UnaryOp .Not a pos) (Ik ga):=PT.imp (CY g) λh H Q ⟨b,s,c,f,env,e,k⟩=>by
 unfold Ik at e
 cases q:ga s with
 | none=>rw[q] at e;cases e
 | some d=>rw[q] at e;cases e;exact⟨b,s,d,f,env,q,k⟩
end
section
variable {X:Cx} {a b c:av} {Ys:List av} {fa fb:XE} {gc:XT} {pos:el}
noncomputable def OT(a b:XE):XE:=λs=>(xB a s).bind λc=>if c=aC then b s else aA (.bl aB)
noncomputable def eOr(a b:XE):XE:=λs=>(xB a s).bind λc=>if c=aC then aA (.bl aC) else b s
noncomputable def EU(a:XE):XE:=λs=>(xB a s).map λc=>.bl !c
noncomputable def Ge(c:XT)(a b:XE):XE:=λs=>(c s).bind λk=>if k=aC then a s else b s
theorem Gg{op}(h:VE X a fa):VE X (.BoolOp op [a] pos) fa:=CZ h
theorem LG(n:VE X a fa)(t:VE X (.BoolOp .And (b::Ys) pos) fb):VE X (.BoolOp .And (a::b::Ys) pos) (OT fa fb):=PE.imp (C0 n t) λx H Q ⟨h,s,l,g,env,e,k⟩=>by
 unfold OT at e
 cases q:xB fa s with
 | none=>rw[q] at e;cases e
 | some d=>
  rw[q] at e;refine⟨h,s,.bl d,g,env,Tn q,λv r w s1 j _=>⟨d,j.bl_inv.1,?_⟩⟩
  cases d with
  | true=>
   exact⟨h,s,l,λp c=>Same.mut s1 (g p c),env.mono s1,e,λu i f s2 m o=>k u i f (s1.trans s2) m o⟩
  | false=>
   cases e;exact k _ r [] s1 (Is.bl aB) λp c=>by simp at c
theorem BC(h:VE X a fa):VE X (.UnaryOp .Not a pos) (EU fa):=PE.imp (C1 h) λm H Q ⟨g,s,l,c,env,e,k⟩=>by
 unfold EU at e
 cases q:xB fa s with
 | none=>rw[q] at e;cases e
 | some d=>
  rw[q] at e;cases e;exact⟨g,s,.bl d,c,env,Tn q,λv i j s1 f _=>⟨d,f.bl_inv.1,k _ i [] s1 (Is.bl _) λp b=>by simp at b⟩⟩
theorem Jh(t:VT X c gc)(r:VE X a fa)(u:VE X b fb):VE X (.IfExp c a b pos) (Ge gc fa fb):=PE.imp (HF t r u) λv H Q ⟨m,s,l,i,env,e,k⟩=>by
 unfold Ge at e
 cases q:gc s with
 | none=>rw[q] at e;cases e
 | some d=>
  rw[q] at e;refine⟨m,s,d,i,env,q,λw s1=>?_⟩
  cases d with
  | true=>
   exact⟨m,s,l,λp g=>Same.mut s1 (i p g),env.mono s1,e,λo h f s2 j n=>k o h f (s1.trans s2) j n⟩
  | false=>
   exact⟨m,s,l,λp g=>Same.mut s1 (i p g),env.mono s1,e,λo h f s2 j n=>k o h f (s1.trans s2) j n⟩
end
section
variable {X:Cx} {a b c:av} {fa fb fc:XE} {pos:el}
noncomputable def Gh(neg:Bool):PV->Option PV
 | .non=>aA (.bl !neg)
 | _=>aA (.bl neg)
noncomputable def LH:PV->Bool
 | .non=>aC
 | _=>aB
theorem Qn{H:Hp}{l:PV}{v:V}{g:List aL}(i:Is K H l v g):decide (v=V.non)=LH l:=by
 cases l with
 | non=>rw[i.non_inv.1];rfl
 | bl b=>rw[i.bl_inv.1];rfl
 | int j=>rw[i.int_inv.1];rfl
 | str y=>rw[i.str_inv.1];rfl
 | ty n=>rw[i.ty_inv.1];rfl
 | exc C=>obtain⟨⟨e,o,x,C,rfl,_⟩,_⟩:=i;rfl
 | exf C l=>obtain⟨⟨e,o,x,C,k,q,u,z,rfl,_⟩,_⟩:=i;rfl
 | clo C l=>obtain⟨u,x,⟨f,fo,c,r,e,h,m,ct,rfl,_⟩,_⟩:=i;rfl
 | lst l=>obtain⟨p,a,d,rfl,_⟩:=i.lst_inv;rfl
 | cst l=>obtain⟨p,a,rfl,_⟩:=i.cst_inv;rfl
 | tup l=>obtain⟨p,a,rfl,_⟩:=i.tup_inv;rfl
 | dK ks l=>obtain⟨p,a,d,rfl,_⟩:=i.dK_inv;rfl
 | dT ks l=>obtain⟨p,a,d,rfl,_⟩:=i.dT_inv;rfl
noncomputable def Rx(neg:Bool)(a:XE):XE:=λs=>(a s).bind (Gh neg)
theorem EV:∀a H Q,tF K (Rx aB fa) a H Q->Az (tF K fa) a H Q:=λa H Q ⟨c,s,l,d,env,e,k⟩=>by
 unfold Rx at e
 cases q:fa s with
 | none=>rw[q] at e;cases e
 | some m=>
  rw[q] at e;simp only[aV] at e;refine⟨c,s,m,d,env,q,λv b h s1 g _=>?_⟩;show Q _ b;rw[Qn g];have:l = .bl (LH m):=by cases m<;>cases e<;>rfl
  subst this;exact k _ b [] s1 (Is.bl _) λp f=>by simp at f
theorem Gi:∀a H Q,tF K (Rx aC fa) a H Q->Ca (tF K fa) a H Q:=λa H Q ⟨c,s,l,d,env,e,k⟩=>by
 unfold Rx at e
 cases q:fa s with
 | none=>rw[q] at e;cases e
 | some m=>
  rw[q] at e;refine⟨c,s,m,d,env,q,λv b h s1 g _=>?_⟩;show Q _ b;rw[Qn g];have:l = .bl (!LH m):=by cases m<;>cases e<;>rfl
  subst this;exact k _ b [] s1 (Is.bl _) λp f=>by simp at f
theorem Cj:∀a H Q,Ml K (xB fa) a H Q->tB (tF K fa) a H Q:=λa H Q ⟨d,s,c,f,env,e,k⟩=>⟨d,s,.bl c,f,env,Tn e,λv b h g i n=>⟨c,i.bl_inv.1,k b g⟩⟩
theorem Ji{t t':TE}(i:∀a H Q,t' a H Q->t a H Q):∀a H Q,tB t' a H Q->tB t a H Q:=λa H Q h=>i a H _ h
theorem BD{j pos'}(c:VE X a fa):VT X (.Compare a [.Is] [.Constant .none j pos'] pos) (xB (Rx aB fa)):=PT.imp (HE (CT c)) λb H Q h=>Ji EV b H Q (Cj b H Q h)
theorem Jj{j pos'}(c:VE X a fa):VT X (.Compare a [.IsNot] [.Constant .none j pos'] pos) (xB (Rx aC fa)):=PT.imp (HE (Eh c)) λb H Q h=>Ji Gi b H Q (Cj b H Q h)
noncomputable def Mo:PV->Option PV
 | .int i=>aA (.int (-i))
 | _=>none
noncomputable def Gj(g:PV->Option PV)(a:XE):XE:=λs=>(a s).bind g
theorem OU(g:VE X a fa):VE X (.UnaryOp .USub a pos) (Gj Mo fa):=PE.imp (AN Bh g) λj H Q ⟨f,s,l,c,env,e,k⟩=>by
 unfold Gj at e
 cases q:fa s with
 | none=>rw[q] at e;cases e
 | some m=>
  rw[q] at e;simp only[aV] at e;unfold Mo at e;split at e
  ·cases e;exact⟨f,s,_,c,env,q,λv h i s1 d _=>⟨_,d.int_inv.1,k _ h [] s1 (Is.int _) λp b=>by simp at b⟩⟩
  ·cases e
end
end VL
namespace VL
open PySem PySem.Spec PyProof.Rows L2
variable {K:aD}
noncomputable def Qo:List XE->ZH->Option (List PV)
 | [],_=>aA []
 | f::fs,s=>(f s).bind λx=>(Qo fs s).map (x::·)
theorem Qp{f:XE}{fs:List XE}{s:ZH}{ls:List PV}(h:Qo (f::fs) s=aA ls):∃x r,f s=aA x/\Qo fs s=aA r/\ls=x::r:=by
 unfold Qo at h
 cases q:f s with
 | none=>rw[q] at h;cases h
 | some x=>cases q2:Qo fs s with
  | none=>rw[q,q2] at h;cases h
  | some r=>rw[q,q2] at h;cases h;exact⟨x,r,rfl,rfl,rfl⟩
theorem Vl:∀{fs:List XE}{s:ZH}{ls:List PV},Qo fs s=aA ls->ls.length=fs.length
 | [],_,_,h=>by cases h;rfl
 | f::fs,s,ls,h=>by obtain⟨x,r,_,a,rfl⟩:=Qp h;rw[bh,bh,Vl a]
noncomputable def tFA(K:aD)(fs:List XE):TA:=λσ H Q=>∃(Rm:aL->Prop) (s:ZH) (ls:List PV),(∀p,Rm p->UG (H p))/\EnvIs K Rm H s σ/\Qo fs s=aA ls/\∀vs H' fp,Same H H'->Iss K H' ls vs fp->(∀p∈fp,¬Rm p)->Q vs H'
noncomputable def tMA(K:aD)(fs:List XE):TA:=λσ H Q=>∃(s:ZH) (ls:List PV),EnvIs K (λ_=>False) H s σ/\Qo fs s=aA ls/\∀vs H' fp,Same H H'->Iss K H' ls vs fp->fp.Nodup->(∀p∈fp,H p=none/\UG (H' p))->Q vs H'
noncomputable def VA(X:Cx)(es:List av)(fs:List XE):Prop:=PA X es (tFA X.K fs)
noncomputable def VMA(X:Cx)(es:List av)(fs:List XE):Prop:=PA X es (tMA X.K fs)
section
variable {X:Cx} {e:av} {es:List av} {f:XE} {fs:List XE} {pos:el} {k:Nat}
theorem PA.imp{t t':TA}(h:PA X es t)(i:∀a H Q,t' a H Q->t a H Q):PA X es t':=λpos b s a H Q I q=>h pos b s a H Q I (i a H Q q)
theorem BE:VA X [] []:=PA.imp UW λd H Q ⟨b,s,ls,c,env,e,k⟩=>by
 cases e;exact k [] H [] (Same.refl H) Iss.nil λp a=>by simp at a
theorem To(r:VE X e f)(j:VA X es fs)(l:aY (e::es) X.env=(aB,eval e X.env)::aY es X.env:=by rfl):VA X (e::es) (f::fs):=PA.imp (Y7 r j l) λv H Q ⟨c,s,ls,b,env,e,k⟩=>by
 obtain⟨d,m,q,g,rfl⟩:=Qp e;refine⟨c,s,d,b,env,q,λx w f1 s1 n u=>⟨c,s,m,λp a=>Same.mut s1 (b p a),env.mono s1,g,λy i f2 s2 o t=>?_⟩⟩;refine k _ i (f1++f2) (s1.trans s2) (Iss.cons (n.mono s2) o) λp a=>?_;rcases bg.mp a with h | h
 ·exact u p h
 ·exact t p h
theorem RG:VMA X [] []:=PA.imp UW λb H Q ⟨s,ls,env,e,k⟩=>by
 cases e;exact k [] H [] (Same.refl H) Iss.nil dF λp a=>by simp at a
theorem Tp(c:VM X e f)(n:VMA X es fs)(o:aY (e::es) X.env=(aB,eval e X.env)::aY es X.env:=by rfl):VMA X (e::es) (f::fs):=PA.imp (Y7 c n o) λA H Q ⟨s,ls,env,e,k⟩=>by
 obtain⟨i,q,u,l,rfl⟩:=Qp e;refine⟨s,i,env,u,λx B f1 s1 r w g=>⟨s,q,env.mono s1,l,λC m f2 s2 t v d=>?_⟩⟩;refine k _ m (f1++f2) (s1.trans s2) (Iss.cons (r.mono s2) t) ?_ λp j=>?_
 ·refine eZ.mpr ⟨w,v,λa c b y z=>?_⟩;subst z;exact Xk (g a c).2 (d a y).1
 ·rcases bg.mp j with h | h
  ·exact⟨(g p h).1,Same.mut s2 (g p h).2⟩
  ·exact⟨Same.off s1 (d p h).1,(d p h).2⟩
noncomputable def OV(fs:List XE):XE:=λs=>(Qo fs s).map .tup
noncomputable def T8(fs:List XE):XE:=λs=>(Qo fs s).map .lst
theorem map_some{d c:Type}{o:Option d}{g:d->c}{b:c}(h:o.map g=aA b):∃a,o=aA a/\b=g a:=by
 cases o with
 | none=>cases h
 | some a=>cases h;exact⟨a,rfl,rfl⟩
theorem OW(h:VA X es fs)(m:fs.length<=1000:=by decide):VE X (.Tuple es k pos) (OV fs):=PE.imp (Lq h) λj H Q ⟨g,s,l,d,env,e,q⟩=>by
 obtain⟨ls,a,rfl⟩:=map_some e;refine⟨g,s,ls,d,env,a,λvs n f s1 c i=>⟨?_,λp b=>?_⟩⟩
 ·rw[c.len,Vl a];exact cS (lt_size (by omega))
 ·exact q _ _ f (s1.trans (Same.new b _)) (Is.tup Zt (c.mono (Same.new b _))) i
theorem BF(h:VMA X es fs)(n:fs.length<=1000:=by decide):VM X (.Tuple es k pos) (OV fs):=PE.imp (Lq h) λm H Q ⟨s,l,env,e,q⟩=>by
 obtain⟨ls,c,rfl⟩:=map_some e;refine⟨s,ls,env,c,λvs o i s1 d j g=>⟨?_,λp b=>?_⟩⟩
 ·rw[d.len,Vl c];exact cS (lt_size (by omega))
 ·exact q _ _ i (s1.trans (Same.new b _)) (Is.tup Zt (d.mono (Same.new b _))) j λa f=>⟨(g a f).1,Same.mut (Same.new b _) (g a f).2⟩
theorem Gk(h:VA X es fs)(n:fs.length<=1000:=by decide):VE X (.List es pos) (T8 fs):=PE.imp (HK h) λm H Q ⟨j,s,l,f,env,e,q⟩=>by
 obtain⟨ls,d,rfl⟩:=map_some e;refine⟨j,s,ls,f,env,d,λvs o i s1 g k=>⟨?_,λp b=>?_⟩⟩
 ·rw[g.len,Vl d];exact cS (lt_size (by omega))
 ·refine q _ _ (p::i) (s1.trans (Same.new b _)) (Is.lst Zt (g.mono (Same.new b _))) λa c z=>?_;rcases a9.mp c with rfl | c
  ·exact Xk (Same.mut s1 (f a z)) b
  ·exact k a c z
theorem LI(h:VMA X es fs)(m:fs.length<=1000:=by decide):VM X (.List es pos) (T8 fs):=PE.imp (HK h) λk H Q ⟨s,l,env,e,q⟩=>by
 obtain⟨ls,f,rfl⟩:=map_some e;refine⟨s,ls,env,f,λvs n i s1 g j d=>⟨?_,λp b=>?_⟩⟩
 ·rw[g.len,Vl f];exact cS (lt_size (by omega))
 ·refine q _ _ (p::i) (s1.trans (Same.new b _)) (Is.lst Zt (g.mono (Same.new b _))) (bN.mpr ⟨λz=>Xk (d p z).2 b,j⟩) λa c=>?_;rcases a9.mp c with rfl | c
  ·exact⟨Same.off s1 b,by rw[Zt];exact cz⟩
  ·exact⟨(d a c).1,Same.mut (Same.new b _) (d a c).2⟩
end
noncomputable def Y5(K:aD)(D:List PV->Option PV)(n:Nat):Sp:=λvs H Q _=>vs.length=n/\∃ls fp l,Iss K H ls vs fp/\D ls=aA l/\∀v H' fq,Same H H'->Is K H' l v fq->fq.Nodup->(∀p∈fq,H p=none/\UG (H' p))->Q v H'
noncomputable def Zc(D:List PV->Option PV)(fs:List XE):XE:=λs=>(Qo fs s).bind D
theorem Ze{d c:Type}{o:Option d}{g:d->Option c}{b:c}(h:o.bind g=aA b):∃a,o=aA a/\g a=aA b:=by
 cases o with
 | none=>cases h
 | some a=>exact⟨a,rfl,h⟩
section
variable {X:Cx} {x:ak} {ps:List ak} {k:Nat} {e:av} {es:List av} {fs:List XE} {p pos:el}
theorem Jk{D:List PV->Option PV}{n:Nat}(C:Xi X.prog X.w X.K X.mg X.base x ps (Y5 X.K D n) k)(r:Room k X.A)(i:Gl X x)(b:VA X (e::es) fs)(j:fs.length=n:=by rfl)
  (c:(x==("__debug__" : ak))=aB:=by decide) (m:aY (e::es) X.env=(aB,eval e X.env)::aY es X.env:=by rfl) (d:(eu pos (aY es X.env)).any (·.1)=aB:=by rfl) :
  VM X (.Call (.Name x p) (e::es) [] pos) (Zc D fs):=PE.imp (Ly C r i b c m d) λE H Q ⟨s,l,env,e,q⟩=>by
 obtain⟨ls,f,y⟩:=Ze e;refine⟨λ_=>False,s,ls,λ_ z=>z.elim,env,f,λvs B u s1 g F=>?_⟩;show Y5 X.K D n (vs++[]) B Q E0;rw[dI];exact⟨by rw[g.len,Vl f,j],ls,u,l,g,y,λv o t s2 w A h=>q v o t (s1.trans s2) w A λa b=>⟨Same.off s1 (h a b).1,(h a b).2⟩⟩
end
noncomputable def RC(K:aD)(r:List V->Hp->VK->Prop)(g:List PV->Option PV):Prop:=∀(H:Hp)(vs:List V)(ls:List PV)(l:PV)(fp:List aL),Iss K H ls vs fp->g ls=aA l->∀Q:VK,
 (∀v H' fq,Same H H'->Is K H' l v fq->(∀p∈fq,p∈fp\/H p=none)->Q v H')->r vs H Q
noncomputable def RCM(K:aD)(r:List V->Hp->VK->Prop)(g:List PV->Option PV):Prop:=∀(H:Hp)(vs:List V)(ls:List PV)(l:PV)(fp:List aL),Iss K H ls vs fp->g ls=aA l->∀Q:VK,
 (∀v H' fq,Same H H'->Is K H' l v fq->fq.Nodup->(∀p∈fq,H p=none/\UG (H' p))->Q v H')->r vs H Q
theorem Ck{r:List V->Hp->VK->Prop}{g:List PV->Option PV}{fs:List XE}(i:RC K r g):∀a H Q,tF K (Zc g fs) a H Q->tCB r (tFA K fs) a H Q:=λa H Q ⟨q,s,l,b,env,e,k⟩=>by
 obtain⟨ls,c,u⟩:=Ze e;refine⟨q,s,ls,b,env,c,λvs w m s1 n x=>i w vs ls l m n u Q λv f j s2 o t=>k v f j (s1.trans s2) o λp d z=>?_⟩;rcases t p d with h | h
 ·exact x p h z
 ·exact Xk (Same.mut s1 (b p z)) h
theorem Zaf{r:List V->Hp->VK->Prop}{g:List PV->Option PV}{fs:List XE}(h:RCM K r g):∀a H Q,tM K (Zc g fs) a H Q->tCB r (tFA K fs) a H Q:=λa H Q ⟨s,l,env,e,k⟩=>by obtain⟨ls,d,o⟩:=Ze e;exact⟨λ_=>False,s,ls,λ_ z=>z.elim,env,d,λvs t j s1 m u=>h t vs ls l j m o Q λv f i s2 n q c=>k v f i (s1.trans s2) n q λp b=>⟨Same.off s1 (c p b).1,(c p b).2⟩⟩
section
variable {X:Cx} {x:ak} {k:Nat} {e:av} {es:List av} {fs:List XE} {p pos:el} {id T:String} {r:List V->Hp->VK->Prop} {g:List PV->Option PV}
theorem Mp(i:XJ X (.builtin id) r)(d:RC X.K r g)(f:Gl X x)(c:X.mg x=none)(l:dC x=aA (.builtin id))(k:VA X (e::es) fs)(h:x≠"__name__":=by decide)(b:(x==("__debug__" : ak))=aB:=by decide)
  (j:aY (e::es) X.env=(aB,eval e X.env)::aY es X.env:=by rfl) (a:(eu pos (aY es X.env)).any (·.1)=aB:=by rfl):VE X (.Call (.Name x p) (e::es) [] pos) (Zc g fs):=
 PE.imp (HM i f c l k h b j a) (Ck d)
theorem Zv(i:XJ X (.type T) r)(d:RC X.K r g)(f:Gl X x)(c:X.mg x=none)(l:dC x=aA (.type T))(k:VA X (e::es) fs)(h:x≠"__name__":=by decide)(b:(x==("__debug__" : ak))=aB:=by decide)
  (j:aY (e::es) X.env=(aB,eval e X.env)::aY es X.env:=by rfl) (a:(eu pos (aY es X.env)).any (·.1)=aB:=by rfl):VE X (.Call (.Name x p) (e::es) [] pos) (Zc g fs):=
 PE.imp (P0 i f c l k h b j a) (Ck d)
theorem Va(i:XJ X (.type T) r)(d:RCM X.K r g)(f:Gl X x)(c:X.mg x=none)(l:dC x=aA (.type T))(k:VA X (e::es) fs)(h:x≠"__name__":=by decide)(b:(x==("__debug__" : ak))=aB:=by decide)
  (j:aY (e::es) X.env=(aB,eval e X.env)::aY es X.env:=by rfl) (a:(eu pos (aY es X.env)).any (·.1)=aB:=by rfl):VM X (.Call (.Name x p) (e::es) [] pos) (Zc g fs):=
 PE.imp (P0 i f c l k h b j a) (Zaf d)
end
theorem Iss.one_inv{H:Hp}{l:PV}{vs:List V}{c:List aL}(h:Iss K H [l] vs c):∃v,vs=[v]/\Is K H l v c:=by obtain⟨x,r,f1,f2,rfl,a,b,rfl⟩:=h.inv;rw[b.1,b.2,dI];exact⟨x,rfl,a⟩
theorem Iss.two_inv{H:Hp}{l m:PV}{vs:List V}{d:List aL}(h:Iss K H [l,m] vs d):∃v w f1 f2,vs=[v,w]/\Is K H l v f1/\Is K H m w f2/\d=f1++f2:=by obtain⟨x,r,f1,f2,rfl,a,b,rfl⟩:=h.inv;obtain⟨y,rfl,c⟩:=b.one_inv;exact⟨x,y,f1,f2,rfl,a,c,rfl⟩
noncomputable def UX:PV->Option (List PV)
 | .lst l=>aA l
 | .cst l=>aA l
 | .tup l=>aA l
 | _=>none
theorem Wf{H:Hp}{l:PV}{v:V}{g:List aL}{m:List PV}(h:Is K H l v g)(e:UX l=aA m):∃p a f,v = .ref p/\(SqL K H p a\/SqT K H p a)/\Iss K H m a f/\∀q∈f,q∈g:=by
 cases l with
 | lst l=>
  cases e;obtain⟨p,a,f,rfl,c,d,rfl⟩:=h.lst_inv;exact⟨p,a,f,rfl,.inl (SqL.of c),d,λq b=>aT _ b⟩
 | cst l=>
  cases e;obtain⟨p,a,rfl,c,d⟩:=h.cst_inv;exact⟨p,a,g,rfl,.inl c.sq,d,λq b=>b⟩
 | tup l=>
  cases e;obtain⟨p,a,rfl,c,d⟩:=h.tup_inv;exact⟨p,a,g,rfl,.inr (SqT.of c),d,λq b=>b⟩
 | _=>cases e
noncomputable def YF:List PV->Option PV
 | [.str z]=>if z.length<=sizeLine then aA (.int z.length) else none
 | [l]=>(UX l).map λm=>.int m.length
 | _=>none
theorem BG:RC K (λb H Q=>∃x n,b=[x]/\AV K x H n/\Q (.int n) H) YF:=λH vs ls l g h e Q k=>by
 unfold YF at e;split at e
 ·split at e
  ·cases e;obtain⟨v,rfl,i⟩:=h.one_inv;exact⟨v,_,rfl,by rw[i.str_inv.1];exact⟨by assumption,rfl⟩,k _ H [] (Same.refl H) (Is.int _) λp a=>by simp at a⟩
  ·cases e
 ·obtain⟨m,c,rfl⟩:=map_some e;obtain⟨v,rfl,i⟩:=h.one_inv;obtain⟨p,b,f,rfl,a,d,_⟩:=Wf i c;refine⟨_,b.length,rfl,?_,?_⟩
  ·rcases a with a | a
   ·exact .inl ⟨b,a,rfl⟩
   ·exact .inr ⟨b,a,rfl⟩
  ·rw[d.len];exact k _ H [] (Same.refl H) (Is.int _) λp a=>by simp at a
 ·cases e
noncomputable def ZP:List PV->Option PV
 | [l]=>(UX l).map .tup
 | _=>none
theorem ZC:RC K (BA K) ZP:=λH vs ls l n h e Q k=>by
 unfold ZP at e;split at e
 ·obtain⟨m,g,rfl⟩:=map_some e;obtain⟨v,rfl,i⟩:=h.one_inv;rename_i l0
  cases l0 with
  | tup l=>
   cases g;obtain⟨p,f,rfl,b,j⟩:=id i.tup_inv;exact⟨p,f,rfl,.inr ⟨SqT.of b,k _ H n (Same.refl H) i λa c=>.inl c⟩⟩
  | lst l=>
   cases g;obtain⟨p,f,o,rfl,b,j,rfl⟩:=i.lst_inv;exact⟨p,f,rfl,.inl ⟨SqL.of b,λq d=>k _ _ o (Same.new d _) (Is.tup Zt (j.mono (Same.new d _))) λa c=>.inl (aT _ c)⟩⟩
  | cst l=>
   cases g;obtain⟨p,f,rfl,b,j⟩:=i.cst_inv;exact⟨p,f,rfl,.inl ⟨b.sq,λq d=>k _ _ n (Same.new d _) (Is.tup Zt (j.mono (Same.new d _))) λa c=>.inl c⟩⟩
  | _=>cases g
 ·cases e
noncomputable def WR:List PV->Option PV
 | [l]=>(UX l).bind λm=>if ZL m=aC then aA (.lst m) else none
 | _=>none
theorem VY:RCM K (EJ K) WR:=λH vs ls l s h e Q k=>by
 unfold WR at e;split at e
 ·obtain⟨m,f,b⟩:=Ze e;split at b
  ·cases b;obtain⟨v,rfl,i⟩:=h.one_inv;obtain⟨p,n,r,rfl,g,d,o⟩:=Wf i f;have:=Iss.pure _ _ _ (by assumption) d;subst this;refine⟨p,n,rfl,g,λq c=>k _ _ [q] (Same.new c _) (Is.lst Zt (d.mono (Same.new c _))) (by simp) λa j=>?_⟩;rw[ag.mp j];exact⟨c,by rw[Zt];exact cz⟩
  ·cases b
 ·cases e
noncomputable def XY:List PV->Option (List Int)
 | []=>aA []
 | .int i::r=>(XY r).map (i::·)
 | _=>none
theorem Xf:∀l:List Int,XY (iL l)=aA l
 | []=>rfl
 | i::r=>by show(XY (iL r)).map (i::·)=_;rw[Xf r];rfl
theorem XQ:∀{m:List PV}{l:List Int},XY m=aA l->m=iL l
 | [],l,h=>by cases h;rfl
 | .int i::r,l,h=>by obtain⟨a,e,rfl⟩:=map_some (show(XY r).map (i::·)=aA l from h);rw[XQ e];rfl
 | .non::_,_,h=>by cases h
 | .bl _::_,_,h=>by cases h
 | .str _::_,_,h=>by cases h
 | .ty _::_,_,h=>by cases h
 | .exc _::_,_,h=>by cases h
 | .exf _ _::_,_,h=>by cases h
 | .clo _ _::_,_,h=>by cases h
 | .tup _::_,_,h=>by cases h
 | .lst _::_,_,h=>by cases h
 | .cst _::_,_,h=>by cases h
 | .dK _ _::_,_,h=>by cases h
 | .dT _ _::_,_,h=>by cases h
abbrev bL(l:List Bool):List PV:=l.map PV.bl
noncomputable def Vm:List PV->Option (List Bool)
 | []=>aA []
 | .bl i::r=>(Vm r).map (i::·)
 | _=>none
theorem WS:∀l:List Bool,Vm (bL l)=aA l
 | []=>rfl
 | i::r=>by show(Vm (bL r)).map (i::·)=_;rw[WS r];rfl
theorem Vn:∀{m:List PV}{l:List Bool},Vm m=aA l->m=bL l
 | [],l,h=>by cases h;rfl
 | .bl i::r,l,h=>by obtain⟨a,e,rfl⟩:=map_some (show(Vm r).map (i::·)=aA l from h);rw[Vn e];rfl
 | .non::_,_,h=>by cases h
 | .int _::_,_,h=>by cases h
 | .str _::_,_,h=>by cases h
 | .ty _::_,_,h=>by cases h
 | .exc _::_,_,h=>by cases h
 | .exf _ _::_,_,h=>by cases h
 | .clo _ _::_,_,h=>by cases h
 | .tup _::_,_,h=>by cases h
 | .lst _::_,_,h=>by cases h
 | .cst _::_,_,h=>by cases h
 | .dK _ _::_,_,h=>by cases h
 | .dT _ _::_,_,h=>by cases h
theorem Iss.bL{H:Hp}:∀{l:List Bool}{xs:List V}{fp:List aL},Iss K H (VL.bL l) xs fp->xs=l.map V.bl/\fp=[]
 | [],xs,fp,h=>by simpa only[VL.bL,List.map_nil,Iss] using h
 | i::l,xs,fp,h=>by obtain⟨x,r,f1,f2,rfl,a,b,rfl⟩:=Iss.inv (show Iss K H (PV.bl i::VL.bL l) xs fp from h);obtain⟨rfl,rfl⟩:=a.bl_inv;obtain⟨rfl,rfl⟩:=b.bL;exact⟨rfl,rfl⟩
theorem Qq{H:Hp}{p:aL}{a:List V}(h:SqL K H p a\/SqT K H p a):∃b,Ra b K H p a:=by
 rcases h with h | h
 ·exact⟨aC,h⟩
 ·exact⟨aB,h⟩
noncomputable def VZ:List PV->Option PV
 | [l]=>(UX l).bind λm=>(XY m).map λns=>.int ns.sum
 | _=>none
noncomputable def LJ:List PV->Option PV
 | [l]=>(UX l).bind λm=>(Vm m).map λbs=>.bl (bs.all id)
 | _=>none
noncomputable def Gm:List PV->Option PV
 | [l]=>(UX l).bind λm=>(Vm m).map λbs=>.bl (bs.any id)
 | _=>none
theorem UY:RC K (λd H Q=>∃(b:Bool) (p:aL) (a:List Int),d=[.ref p]/\Ra b K H p (a.map V.int)/\Q (.int a.sum) H) VZ:=λH vs ls l t h e Q k=>by
 unfold VZ at e;split at e
 ·obtain⟨m,f,o⟩:=Ze e;obtain⟨a,g,rfl⟩:=map_some o;obtain⟨v,rfl,i⟩:=h.one_inv;obtain⟨p,d,s,rfl,c,j,r⟩:=Wf i f;have n:=XQ g;subst n;obtain⟨rfl,rfl⟩:=j.iL;obtain⟨b,q⟩:=Qq c;exact⟨b,p,a,rfl,q,k _ H [] (Same.refl H) (Is.int _) λp c=>by simp at c⟩
 ·cases e
theorem BH:RC K (λc H Q=>∃(b:Bool) (p:aL) (bs:List Bool),c=[.ref p]/\Ra b K H p (bs.map V.bl)/\Q (.bl (bs.all id)) H) LJ:=λH vs ls l t h e Q k=>by
 unfold LJ at e;split at e
 ·obtain⟨m,f,o⟩:=Ze e;obtain⟨d,g,rfl⟩:=map_some o;obtain⟨v,rfl,i⟩:=h.one_inv;obtain⟨p,c,s,rfl,a,j,r⟩:=Wf i f;have n:=Vn g;subst n;obtain⟨rfl,rfl⟩:=j.bL;obtain⟨b,q⟩:=Qq a;exact⟨b,p,d,rfl,q,k _ H [] (Same.refl H) (Is.bl _) λp a=>by simp at a⟩
 ·cases e
theorem BI:RC K (λc H Q=>∃(b:Bool) (p:aL) (bs:List Bool),c=[.ref p]/\Ra b K H p (bs.map V.bl)/\Q (.bl (bs.any id)) H) Gm:=λH vs ls l t h e Q k=>by
 unfold Gm at e;split at e
 ·obtain⟨m,f,o⟩:=Ze e;obtain⟨d,g,rfl⟩:=map_some o;obtain⟨v,rfl,i⟩:=h.one_inv;obtain⟨p,c,s,rfl,a,j,r⟩:=Wf (K:=K) i f;have n:=Vn g;subst n;obtain⟨rfl,rfl⟩:=j.bL;obtain⟨b,q⟩:=Qq a;exact⟨b,p,d,rfl,q,k _ H [] (Same.refl H) (Is.bl _) λp a=>by simp at a⟩
 ·cases e
noncomputable def Mq:List PV->Option PV
 | [.int i,.int j]=>aA (.int (if j<i then j else i))
 | _=>none
noncomputable def Zag:List PV->Option PV
 | [.int i,.int j]=>aA (.int (if j>i then j else i))
 | _=>none
noncomputable def LK:List PV->Option PV
 | [.int i]=>aA (.int (if i<0 then -i else i))
 | _=>none
noncomputable def Cm:List PV->Option PV
 | [.int i]=>aA (.int i)
 | [.bl c]=>aA (.int (if c then 1 else 0))
 | _=>none
theorem EW:RC K (λc H Q=>∃i j,c=[.int i,.int j]/\Q (.int (if j<i then j else i)) H) Mq:=λH vs ls l f h e Q k=>by
 unfold Mq at e;split at e
 ·cases e;obtain⟨v,w,f1,f2,rfl,a,b,rfl⟩:=h.two_inv;exact⟨_,_,by rw[a.int_inv.1,b.int_inv.1],k _ H [] (Same.refl H) (Is.int _) λp d=>by simp at d⟩
 ·cases e
theorem Gn:RC K (λb H Q=>∃i,b=[.int i]/\Q (.int (if i<0 then -i else i)) H) LK:=λH vs ls l d h e Q k=>by
 unfold LK at e;split at e
 ·cases e;obtain⟨v,rfl,a⟩:=h.one_inv;exact⟨_,by rw[a.int_inv.1],k _ H [] (Same.refl H) (Is.int _) λp c=>by simp at c⟩
 ·cases e
section
variable {X:Cx} {e:av} {es:List av} {fs:List XE} {p pos:el}
noncomputable def tyP:PV->Option String
 | .int _=>aA "int"
 | .bl _=>aA "bool"
 | .tup _=>aA "tuple"
 | .lst _=>aA "list"
 | .str _=>aA "str"
 | _=>none
noncomputable def UN:List PV->Option PV
 | [a,.ty t]=>(tyP a).bind λu=>if t=u then aA (.bl aC) else if u = "int"/\t = "bool" then aA (.bl aB) else none
 | _=>none
theorem Pz:cj K (.type "bool") (.type "bool")=aA aC:=rfl
theorem BJ{H:Hp}{a:PV}{u:String}{v:V}{f:List aL}(e:tyP a=aA u)(h:Is K H a v f):TyOf K H v (.type u)/\cj K (.type u) (.type u)=aA aC:=by
 cases a<;>first
  | exact nomatch (show none=aA u from e)
  | cases e
 ·obtain⟨rfl,_⟩:=h.bl_inv;exact⟨TyOf.bl _,Pz⟩
 ·obtain⟨rfl,_⟩:=h.int_inv;exact⟨TyOf.int _,Mf⟩
 ·obtain⟨rfl,_⟩:=h.str_inv;exact⟨TyOf.str _,Mh⟩
 ·obtain⟨q,c,rfl,b,_⟩:=h.tup_inv;exact⟨TyOf.tup b,Mg⟩
 ·obtain⟨q,c,d,rfl,b,_⟩:=h.lst_inv;exact⟨TyOf.lst b,Px⟩
theorem OX:RC K (λm H Q=>∃x T t b,m=[x,.ty T]/\TyOf K H x t/\cj K t (.type T)=aA b/\Q (.bl b) H) UN:=λH vs ls l n h e Q k=>by
 have d:∀b:Bool,l = .bl b->Q (.bl b) H:=λb z=>by subst z;exact k _ H [] (Same.refl H) (Is.bl _) λp i=>by simp at i
 unfold UN at e;split at e
 ·obtain⟨u,g,c⟩:=Ze e;obtain⟨v,w,f1,f2,rfl,a,b,rfl⟩:=h.two_inv;obtain⟨f,j⟩:=BJ g a;split at c
  ·rename_i z;subst z;cases c;exact⟨_,_,_,_,by rw[b.ty_inv.1],f,j,d _ rfl⟩
  ·split at c
   ·rename_i z;obtain⟨rfl,rfl⟩:=z;cases c;exact⟨_,_,_,_,by rw[b.ty_inv.1],f,OO,d _ rfl⟩
   ·cases c
 ·cases e
theorem Gp{x:ak}{n:String}(b:Gl X x)(a:X.mg x=none)(e:dC x=aA (.type n))(c:x≠"__name__":=by decide)(d:(x==("__debug__" : ak))=aB:=by decide):VE X (.Name x pos) (eC (.ty n)):=
 EN (Eg b a e (v:=.ty n) rfl c d) λ_=>Is.ty n
end
end VL
namespace VL
open PySem PySem.Spec PyProof.Rows L2
variable {K:aD}
open Classical in
instance:DecidableEq PV:=λa b=>propDecidable (a=b)
noncomputable def UI:Nat->PV->PV->Bool
 | _+1,.non,.non=>aC
 | _+1,.bl _,.bl _=>aC
 | _+1,.int _,.int _=>aC
 | _+1,.str _,.str _=>aC
 | n+1,.tup l,.tup m=>(l.zip m).all λz=>UI n z.1 z.2
 | n+1,.lst l,.lst m=>(l.zip m).all λz=>UI n z.1 z.2
 | _,_,_=>aB
theorem Tq{d c:Type}{p:d×c->Bool}{a:d}{b:c}{l:List d}{m:List c}(h:((a::l).zip (b::m)).all p=aC):p (a,b)=aC/\(l.zip m).all p=aC:=by rw[j3,hU,bX] at h;exact h
theorem Iss.inj'{n:Nat}{H:Hp}(c:∀a b v fa fb,UI n a b=aC->Is K H a v fa->Is K H b v fb->a=b):∀{l m:List PV}{xs:List V}{fa fb:List aL},(l.zip m).all (λz=>UI n z.1 z.2)=aC->Iss K H l xs fa->Iss K H m xs fb->l=m
 | [],m,xs,fa,fb,_,h,h'=>by
  simp only[Iss] at h;rw[h.1] at h';have:=h'.len
  cases m with
  | nil=>rfl
  | cons _ _=>simp at this
 | a::l,m,xs,fa,fb,hc,h,h'=>by
  obtain⟨x,r,f1,f2,rfl,i,j,rfl⟩:=h.inv
  cases m with
  | nil=>have:=h'.len;simp at this
  | cons b m=>
   obtain⟨k,p,g,o,e,f,d,rfl⟩:=h'.inv;cases e;obtain⟨c1,c2⟩:=Tq hc;rw[c a b x f1 g c1 i f,Iss.inj' c c2 j d]
theorem Is.inj'{H:Hp}:∀(n:Nat)(a b:PV)(v:V)(fa fb:List aL),UI n a b=aC->Is K H a v fa->Is K H b v fb->a=b
 | 0,a,b,v,fa,fb,hc,_,_=>nomatch (show aB=aC from hc)
 | n+1,a,b,v,fa,fb,hc,ha,hb=>by
  cases a<;>cases b<;>first
   | exact nomatch (show aB=aC from hc)
   | skip
  ·rfl
  ·rw[ha.bl_inv.1] at hb;have:=hb.bl_inv.1;cases this;rfl
  ·rw[ha.int_inv.1] at hb;have:=hb.int_inv.1;cases this;rfl
  ·rw[ha.str_inv.1] at hb;have:=hb.str_inv.1;cases this;rfl
  ·obtain⟨p,j,rfl,f,g⟩:=ha.tup_inv;obtain⟨h,i,e,c,d⟩:=hb.tup_inv;cases e;rw[f] at c;cases c;rw[Iss.inj' (Is.inj' n) hc g d]
  ·obtain⟨p,j,l,rfl,f,g,_⟩:=ha.lst_inv;obtain⟨h,i,k,e,c,d,_⟩:=hb.lst_inv;cases e;rw[f] at c;cases c;rw[Iss.inj' (Is.inj' n) hc g d]
section
variable {X:Cx} {kf:List (aL×dN)} {σ:Rc} {H:Hp} {s:aN} {A:cH}
theorem LL{n:Nat}(i:∀a b x y fa fb u w,UI n a b=aC->Is K H a x fa->Is K H b y fb->RelV x u->RelV y w->∃r,iU A s u w r/\(r=aC↔a=b)) :
  ∀{l m:List PV}{xs ys:List V}{fa fb:List aL}{us ws:List aH},(l.zip m).all (λz=>UI n z.1 z.2)=aC->Iss K H l xs fa->Iss K H m ys fb->Vals xs us->Vals ys ws->
  ∃e:Nat->Bool,(∀j (c:j<us.length) (d:j<ws.length),iU A s us[j] ws[j] (e j))/\((aE (min us.length ws.length)).all e=aC↔l.take (min us.length ws.length)=m.take (min us.length ws.length))
 | [],m,xs,ys,fa,fb,us,ws,_,h,_,r,_=>by simp only[Iss] at h;obtain⟨rfl,_⟩:=h;cases r;exact⟨λ_=>aC,λj c=>by simp at c,by simp⟩
 | a::l,[],xs,ys,fa,fb,us,ws,_,_,h,_,r=>by simp only[Iss] at h;obtain⟨rfl,_⟩:=h;cases r;exact⟨λ_=>aC,λj c d=>by simp at d,by simp⟩
 | a::l,b::m,xs,ys,fa,fb,us,ws,hc,h,h',r,r'=>by
  obtain⟨x,G,f1,f2,rfl,c,d,rfl⟩:=h.inv;obtain⟨y,F,D,E,rfl,C,p,rfl⟩:=h'.inv;obtain⟨c1,c2⟩:=Tq hc
  cases r with
  | cons q v=>cases r' with
   | cons q' v'=>
    obtain⟨t,o,f⟩:=i a b x y f1 D _ _ c1 c C q q';obtain⟨e,B,g⟩:=LL i c2 d p v v';refine⟨λj=>match j with | 0=>t | k+1=>e k,λj c d=>?_,?_⟩
    ·cases j with
     | zero=>exact o
     | succ k=>exact B k (by simpa using c) (by simpa using d)
    ·simp only[bh,Nat.succ_min_succ,List.range_succ_eq_map,hU,jm,bX,List.take_succ_cons,List.cons.injEq];exact and_congr f g
theorem Iss.same'{l m:List PV}{f e:List V}{i fb:List aL}{c d:List aH}(h:Iss K H l f i)(g:Iss K H m e fb)(r:Vals f c)(j:Vals e d) :
  (l.take (min c.length d.length)=m.take (min c.length d.length)/\c.length=d.length)↔l=m:=by
 have o:=h.len;have k:=g.len;have n:=r.length;have p:=j.length;constructor
 ·rintro⟨a,b⟩;rw[b0 (by omega),b0 (by omega)] at a;exact a
 ·intro a;subst a;exact⟨rfl,by omega⟩
noncomputable def Cn(A:cH)(s:aN)(u w:aH)(r:Bool):Prop:=SeqAt.RcAt A s u w r/\SeqAt.RcNeAt A s u w !r
theorem Qr(I:Inv X kf σ H s):∀(n:Nat)(A:cH)(a b:PV)(x y:V)(z fb:List aL)(u w:aH),A.units+2*n+2<fU->UI n a b=aC->Is K H a x z->Is K H b y fb->RelV x u->RelV y w->
  (∃r,iU A s u w r/\(r=aC↔a=b))/\∃r,Cn A s u w r/\(r=aC↔a=b)
 | 0,A,a,b,x,y,z,fb,u,w,hu,hc,_,_,_,_=>nomatch (show aB=aC from hc)
 | n+1,A,a,b,x,y,z,fb,u,w,hu,hc,ha,hb,ru,ZZ=>by
  cases a<;>cases b<;>first
   | exact nomatch (show aB=aC from hc)
   | skip
  ·rw[ha.non_inv.1] at ru;rw[hb.non_inv.1] at ZZ;cases ru;cases ZZ;exact⟨⟨aC,i7 _,by simp⟩,aC,⟨SeqAt.RcAt.none_none,SeqAt.RcNeAt.none_none⟩,by simp⟩
  ·rw[ha.bl_inv.1] at ru;rw[hb.bl_inv.1] at ZZ;cases ru;cases ZZ;exact⟨⟨_,iU.bool_bool _ _,by simp⟩,_,⟨SeqAt.RcAt.bool_bool _ _,SeqAt.RcNeAt.bool_bool _ _⟩,by simp⟩
  ·rw[ha.int_inv.1] at ru;rw[hb.int_inv.1] at ZZ;obtain⟨t,rfl⟩:=ru;obtain⟨t',rfl⟩:=ZZ;exact⟨⟨_,iU.int_int _ _ _ _,by simp⟩,_,⟨SeqAt.RcAt.int_int _ _ _ _,SeqAt.RcNeAt.int_int _ _ _ _⟩,by simp⟩
  ·rw[ha.str_inv.1] at ru;rw[hb.str_inv.1] at ZZ;obtain⟨t,rfl⟩:=ru;obtain⟨t',rfl⟩:=ZZ;exact⟨⟨_,iU.str_str _ _ _ _,by simp⟩,_,⟨SeqAt.RcAt.str_str _ _ _ _,SeqAt.RcNeAt.str_str _ _ _ _⟩,by simp⟩
  ·rename_i O Q;obtain⟨p,xs,rfl,J,E⟩:=id ha.tup_inv;obtain⟨C,Z,rfl,o,h⟩:=id hb.tup_inv;cases ru;cases ZZ;obtain⟨B,F,q,_⟩:=I.tuple (SqT.of J);obtain⟨D,i,l,_⟩:=I.tuple (SqT.of o);obtain⟨f,G,k⟩:=LL (A:=A.in1) (λa b x y z fb u w c M N L P=>(Qr I n A.in1 a b x y z fb u w (by show A.units+1+2*n+2<fU;omega) c M N L P).1) hc E h F i;have S:=SeqAt.RcAt.tuples (A:=A) (e:=f) (show s.heap.IsTuple p B.toArray from q) (show s.heap.IsTuple C D.toArray from l) (by omega) (λj v m=>G j (by simpa using v) (by simpa using m));have Y:=SeqAt.RcNeAt.tuples (A:=A) (e:=f) (show s.heap.IsTuple p B.toArray from q) (show s.heap.IsTuple C D.toArray from l) (by omega) (λj v m=>G j (by simpa using v) (by simpa using m));have g:(((aE (min B.toArray.size D.toArray.size)).all f&&B.toArray.size==D.toArray.size)=aC)↔PV.tup O=PV.tup Q:=by simp only[aP,bX,beq_iff_eq,PV.tup.injEq];rw[k];exact Iss.same' E h F i
   refine⟨?_,_,⟨S,Y⟩,g⟩;by_cases e:p=C
   ·subst e;exact⟨aC,i7 _,by simp[Is.inj' (n+1) _ _ _ _ _ hc ha hb]⟩
   ·exact⟨_,j4 e S,g⟩
  ·rename_i O Q;obtain⟨p,xs,fq,rfl,J,E,_⟩:=id ha.lst_inv;obtain⟨C,Z,W,rfl,o,h,_⟩:=id hb.lst_inv;cases ru;cases ZZ;obtain⟨B,F,q,_⟩:=I.list (SqL.of J);obtain⟨D,i,l,_⟩:=I.list (SqL.of o);obtain⟨f,G,k⟩:=LL (A:=A.in1) (λa b x y z fb u w c M N L P=>(Qr I n A.in1 a b x y z fb u w (by show A.units+1+2*n+2<fU;omega) c M N L P).1) hc E h F i
   have R:∃r,Cn A s (.ref p) (.ref C) r/\(r=aC↔PV.lst O=PV.lst Q):=by
    have g:=Iss.same' E h F i;by_cases d:B.length=D.length
    ·refine⟨_,⟨SeqAt.RcAt.lists (e:=f) q.isList l.isList (by simpa using d) (by omega) (λj v m=>G j (by simpa using v) (by simpa using m)),SeqAt.RcNeAt.lists (e:=f) q.isList l.isList (by simpa using d) (by omega) (λj v m=>G j (by simpa using v) (by simpa using m))⟩,?_⟩;rw[d,Nat.min_self] at k g;simp only[aP,PV.lst.injEq];rw[d,k,<-g];simp
    ·refine⟨aB,⟨SeqAt.RcAt.lists_lengths q.isList l.isList (by simpa using d) (by omega),SeqAt.RcNeAt.lists_lengths q.isList l.isList (by simpa using d) (by omega)⟩,?_⟩;rw[PV.lst.injEq,<-g];simp[d]
   obtain⟨r,T,U⟩:=R;refine⟨?_,r,T,U⟩;by_cases e:p=C
   ·subst e;exact⟨aC,i7 _,by simp[Is.inj' (n+1) _ _ _ _ _ hc ha hb]⟩
   ·exact⟨r,j4 e T.1,U⟩
end
noncomputable def BK(K:aD)(neg:Bool):R2:=λx y H Q=>∃a b fa fb,Is K H a x fa/\Is K H b y fb/\UI 8 a b=aC/\∀r:Bool,(r=aC↔a=b)->Q (.bl (if neg then !r else r)) H
section
variable {X:Cx}
theorem Gq(n:X.A.units+64<fU):Tg X (eT .Eq) (BK X.K aB):=by intro l s m H x y v u Q I d c h;obtain⟨a,b,k,fb,f,j,i,q⟩:=h;obtain⟨_,r,e,g⟩:=Qr I 8 X.A a b x y k fb v u (by omega) i f j d c;exact e.1 X.prog X.w X.xe _ ⟨.bl r,H,I,rfl,q r g⟩
theorem Gr(n:X.A.units+64<fU):Tg X (eT .NotEq) (BK X.K aC):=by intro l s m H x y v u Q I d c h;obtain⟨a,b,k,fb,f,j,i,q⟩:=h;obtain⟨_,r,e,g⟩:=Qr I 8 X.A a b x y k fb v u (by omega) i f j d c;exact e.2 X.prog X.w X.xe _ ⟨.bl !r,H,I,rfl,q r g⟩
end
noncomputable def Wg(neg:Bool):PV->PV->Option PV:=λa b=>if UI 8 a b=aC then aA (.bl (if neg then !decide (a=b) else decide (a=b))) else none
theorem OY(neg:Bool):RB K (BK K neg) (Wg neg):=λH x y a b l h fb f g e Q k=>by
 unfold Wg at e;split at e
 ·cases e;refine⟨a,b,h,fb,f,g,by assumption,λr c=>?_⟩
  have:r=decide (a=b):=by
   cases r with
   | true=>exact(decide_eq_true (c.mp rfl)).symm
   | false=>exact(decide_eq_false λz=>bT (c.mpr z)).symm
  subst this;exact k _ H [] (Same.refl H) (Is.bl _) λp d=>by simp at d
 ·cases e
noncomputable def BL(K:aD)(neg:Bool):R2:=λx y H Q=>∃a b m fa fb,Is K H a x fa/\Is K H b y fb/\UX b=aA m/\(m.all λz=>UI 8 z a)=aC/\∀r:Bool,(r=aC↔a∈m)->Q (.bl (if neg then !r else r)) H
section
variable {X:Cx} {kf:List (aL×dN)} {σ:Rc} {H:Hp} {s:aN}
theorem RH{a:PV}{x:V}{D:List aL}{u:aH}{A:cH}(I:Inv X kf σ H s)(Z:A.units+18<fU)(O:Is K H a x D)(J:RelV x u):∀{m:List PV}{i:List V}{fb:List aL}{k:List aH},(m.all λz=>UI 8 z a)=aC->Iss K H m i fb->Vals i k->
  ∃e:aH->Bool,(∀y∈k,iU A s y u (e y))/\(k.any e=aC↔a∈m):=λ{m i fb k} S h r=>by
 -- c one's answer
 have c:∀y∈k,∃t:Bool,iU A s y u t/\(t=aC↔∃b,b∈m/\b=a/\∃z f,Is K H b z f/\RelV z y):=λy d=>by obtain⟨j,q,e⟩:=dc.mp d;have W:=r.length;have n:i[j]?=aA i[j]:=aI (by omega);obtain⟨b,f,p,o,_⟩:=h.get' n;obtain⟨w,v,ZZ⟩:=r.get n;rw[aI q] at v;cases v;rw[e] at ZZ;have l:=cI p;have B:=ao.mp S b l;obtain⟨⟨t,E,R⟩,_⟩:=Qr I 8 A b a i[j] x f D y u (by omega) B o O ZZ J;refine⟨t,E,R.trans ⟨λz=>⟨b,l,z,i[j],f,o,ZZ⟩,λ⟨L,N,T,z,Y,P,M⟩=>?_⟩⟩;have U:=M.inj ZZ;subst U;subst T;exact Is.inj' 8 b L _ _ _ B o P
 classical
 refine⟨λy=>if d:y∈k then(c y d).choose else aB,λy d=>?_,?_⟩
 ·simp only[dif_pos d];exact(c y d).choose_spec.1
 ·rw[dz];constructor
  ·rintro⟨y,d,e⟩;rw[dif_pos d] at e;obtain⟨b,p,rfl,_⟩:=(c y d).choose_spec.2.mp e;exact p
  ·intro C;obtain⟨j,q,e⟩:=dc.mp C;obtain⟨z,f,G,Q,_⟩:=h.get (aI q);obtain⟨y,d,F⟩:=r.get G;have g:=cI d;refine⟨y,g,?_⟩;rw[dif_pos g];exact(c y g).choose_spec.2.mpr ⟨a,C,rfl,z,f,e▸Q,F⟩
end
section
variable {X:Cx}
theorem BM(J:X.A.units+64<fU):Tg X (eT .In) (BL X.K aB):=by
 intro D s E H x y v u Q I k r h;obtain⟨a,b,m,G,fb,n,B,z,o,q⟩:=h;obtain⟨p,F,C,rfl,c,l,_⟩:=Wf B z;cases r;rcases c with c | c
 ·obtain⟨d,j,t,_⟩:=I.list c;obtain⟨e,g,i⟩:=RH (A:=X.A.in1) I (by show X.A.units+1+18<fU;omega) n k o l j;refine SeqAt.in_listAt e t.isList (λw f=>g w (by simpa using f)) ⟨.bl _,H,I,rfl,?_⟩;rw[show d.toArray.any e=d.any e by simp];exact q _ i
 ·obtain⟨d,j,t,_⟩:=I.tuple c;obtain⟨e,g,i⟩:=RH (A:=X.A.in1) I (by show X.A.units+1+18<fU;omega) n k o l j;refine SeqAt.in_tupleAt e t (λw f=>g w (by simpa using f)) ⟨.bl _,H,I,rfl,?_⟩;rw[show d.toArray.any e=d.any e by simp];exact q _ i
theorem Il(J:X.A.units+64<fU):Tg X (eT .NotIn) (BL X.K aC):=by
 intro D s E H x y v u Q I k r h;obtain⟨a,b,m,G,fb,n,B,z,o,q⟩:=h;obtain⟨p,F,C,rfl,c,l,_⟩:=Wf B z;cases r;rcases c with c | c
 ·obtain⟨d,j,t,_⟩:=I.list c;obtain⟨e,g,i⟩:=RH (A:=X.A.in1) I (by show X.A.units+1+18<fU;omega) n k o l j;refine SeqAt.notIn_listAt e t.isList (λw f=>g w (by simpa using f)) ⟨.bl _,H,I,rfl,?_⟩;rw[show d.toArray.any e=d.any e by simp];exact q _ i
 ·obtain⟨d,j,t,_⟩:=I.tuple c;obtain⟨e,g,i⟩:=RH (A:=X.A.in1) I (by show X.A.units+1+18<fU;omega) n k o l j;refine SeqAt.notIn_tupleAt e t (λw f=>g w (by simpa using f)) ⟨.bl _,H,I,rfl,?_⟩;rw[show d.toArray.any e=d.any e by simp];exact q _ i
end
noncomputable def Im(neg:Bool):PV->PV->Option PV:=λa b=>(UX b).bind λm=>if(m.all λz=>UI 8 z a)=aC then aA (.bl (if neg then !decide (a∈m) else decide (a∈m))) else none
theorem Gs(neg:Bool):RB K (BL K neg) (Im neg):=λH x y a b l i fb f h e Q k=>by
 obtain⟨m,g,e⟩:=Ze e;split at e
 ·cases e;refine⟨a,b,m,i,fb,f,h,g,by assumption,λr c=>?_⟩
  have:r=decide (a∈m):=by
   cases r with
   | true=>exact(decide_eq_true (c.mp rfl)).symm
   | false=>exact(decide_eq_false λz=>bT (c.mpr z)).symm
  subst this;exact k _ H [] (Same.refl H) (Is.bl _) λp d=>by simp at d
 ·cases e
end VL
namespace VL
open PySem PySem.Spec PyProof.Rows L2
variable {K:aD}
mutual
theorem Is.dom{H:Hp}:∀(l:PV)(v:V)(fp:List aL),Is K H l v fp->∀p∈fp,H p≠none
 | .non,_,_,h=>by simp only[Is] at h;rw[h.2];simp
 | .bl _,_,_,h=>by simp only[Is] at h;rw[h.2];simp
 | .int _,_,_,h=>by simp only[Is] at h;rw[h.2];simp
 | .str _,_,_,h=>by simp only[Is] at h;rw[h.2];simp
 | .ty _,_,_,h=>by simp only[Is] at h;rw[h.2];simp
 | .exc _,_,_,h=>by simp only[Is] at h;rw[h.2];simp
 | .exf _ _,_,_,h=>by simp only[Is] at h;rw[h.2];simp
 | .clo L l,v,fp,h=>by simp only[Is] at h;obtain⟨u,x,_,_,b⟩:=h;exact Is.dom l x fp b
 | .tup l,v,fp,h=>by obtain⟨p,d,_,_,b⟩:=h.tup_inv;exact Iss.dom l d fp b
 | .lst l,v,fp,h=>by
  obtain⟨p,d,c,_,f,b,rfl⟩:=h.lst_inv;intro q a;rcases a9.mp a with rfl | a
  ·rw[f];simp
  ·exact Iss.dom l d c b q a
 | .cst l,v,fp,h=>by obtain⟨p,d,_,_,b⟩:=h.cst_inv;exact Iss.dom l d fp b
 | .dK ks l,v,fp,h=>by
  obtain⟨p,g,c,_,f,_,b,rfl⟩:=h.dK_inv;intro q a;rcases a9.mp a with rfl | a
  ·rcases f with e | ⟨o,e⟩<;>rw[e]<;>simp
  ·exact Iss.dom l _ c b q a
 | .dT ks l,v,fp,h=>by
  obtain⟨p,g,c,_,f,_,b,rfl⟩:=h.dT_inv;intro q a;rcases a9.mp a with rfl | a
  ·rcases f with e | ⟨o,e⟩<;>rw[e]<;>simp
  ·exact Iss.dom l _ c b q a
theorem Iss.dom{H:Hp}:∀(l:List PV)(xs:List V)(fp:List aL),Iss K H l xs fp->∀p∈fp,H p≠none
 | [],_,_,h=>by simp only[Iss] at h;rw[h.2];simp
 | l::ls,xs,fp,h=>by
  obtain⟨x,r,f1,f2,_,b,c,rfl⟩:=h.inv;intro q a;rcases bg.mp a with a | a
  ·exact Is.dom l x f1 b q a
  ·exact Iss.dom ls r f2 c q a
end
noncomputable def Ab(Rm:aL->Prop)(H H':Hp):Prop:=∀b o,H b=aA o->¬Rm b->H' b=aA o
theorem Same.ab{c:aL->Prop}{H a:Hp}(s:Same H a):Ab c H a:=λb o h _=>s b o h
theorem Ab.tk{e:aL->Prop}{H d:Hp}(a:Ab e H d)(c:∀p,e p->UG (H p)):EL H d:=⟨λb f h=>a b _ h λz=>by
 have:=c b z
 rw[h] at this;exact this,λb o f h=>a b _ h λz=>by
 have:=c b z
 rw[h] at this;exact this,λb o x h=>a b _ h λz=>by
 have:=c b z;rw[h] at this;exact this⟩
theorem Is.ab{c:aL->Prop}{H d:Hp}(a:Ab c H d)(e:∀p,c p->UG (H p)){l:PV}{v:V}{b:List aL}(n:∀p∈b,¬c p)(h:Is K H l v b):Is K d l v b:=
 Is.tr (a.tk e) l v b (λp f=>RdK.of λo q=>a p o q (n p f)) h
structure JIs(K:aD)(Rm:aL->Prop)(H1:Hp)(J:It)(ls:List PV):Prop where
 stop:∀H',Ab Rm H1 H'->J.stop ls.length H'
 go:∀H' (i:Nat) l,Ab Rm H1 H'->ls[i]?=aA l->J.go i H'
 yld:∀H' (i:Nat) l x H'',Ab Rm H1 H'->ls[i]?=aA l->J.yld i H' x H''->Same H' H''/\∃fp,Is K H'' l x fp/\∀p∈fp,H1 p≠none/\¬Rm p
abbrev XL:=ZH->Option (List PV)
noncomputable def iF(K:aD)(f:XL):TI:=λσ H R=>∃(Rm:aL->Prop) (s:ZH) (ls:List PV),(∀p,Rm p->UG (H p))/\EnvIs K Rm H s σ/\f s=aA ls/\∀J H1,Same H H1->JIs K Rm H1 J ls->R J H1
noncomputable def VI(X:Cx)(tg e:av)(f:XL):Prop:=PI X tg e (iF X.K f)
section
variable {X:Cx} {tg e:av} {es:List av}
theorem PI.imp{t t':TI}(h:PI X tg e t)(i:∀a H R,t' a H R->t a H R):PI X tg e t':=λb s a H R I q=>h b s a H R I (i a H R q)
noncomputable def BN:PV->Option (List PV)
 | .lst m=>aA m
 | .cst m=>aA m
 | _=>none
noncomputable def Vb(f:XE):XL:=λs=>(f s).bind BN
noncomputable def T9(f:XE):XL:=λs=>match f s with | some (.tup m)=>aA m | _=>none
theorem Gu{a:PV}{m:List PV}(h:BN a=aA m):a = .lst m\/a = .cst m:=by
 unfold BN at h;split at h
 ·cases h;exact .inl rfl
 ·cases h;exact .inr rfl
 ·cases h
theorem Io{f:XE}{s:ZH}{m:List PV}(h:T9 f s=aA m):f s=aA (.tup m):=by
 unfold T9 at h;split at h
 ·cases h;assumption
 ·cases h
theorem Y8{f:XE}(h:VE X e f):VI X tg e (Vb f):=PI.imp (Ek h) λL H R ⟨D,s,ls,A,env,e,k⟩=>by
 obtain⟨l,F,I⟩:=Ze e;refine⟨D,s,l,A,env,F,λv o B s1 C E=>?_⟩;have t:=λp d=>Same.mut s1 (A p d)
 have j:∀a b u,v = .ref a->SqL X.K o a b->(∀g,Ab D o g->SqL X.K g a b)->Iss X.K o ls b u->(∀p∈u,p∈B)->∃a,v = .ref a/\(∃b,SqL X.K o a b)/\R (Itl X.K a) o:=by
  rintro a b u rfl n c m sub;refine⟨a,rfl,⟨b,n⟩,k _ o s1 ⟨λg ab=>⟨b,c g ab,by rw[m.len];exact aJ _⟩,λg i l ab z=>?_,λg i l x G ab z y=>?_⟩⟩
  ·obtain⟨x,f1,w,_,_⟩:=m.get z;exact⟨b,x,c g ab,w⟩
  ·obtain⟨rfl,y⟩:=y;obtain⟨J,f1,w,ix,r⟩:=m.get z;have:=y b (c _ ab);rw[w] at this;cases this;have q:=λp d=>E p (sub p (r p d));exact⟨Same.refl _,f1,ix.ab ab t q,λp d=>⟨Is.dom _ _ _ ix p d,q p d⟩⟩
 rcases Gu I with rfl | rfl
 ·obtain⟨a,b,u,rfl,n,m,rfl⟩:=C.lst_inv;exact j a b u rfl (SqL.of n) (λg ab=>SqL.of (ab a _ n (E a aZ))) m λp d=>aT _ d
 ·obtain⟨a,b,rfl,n,m⟩:=C.cst_inv;exact j a b B rfl n.sq (λg ab=>(n.tr (ab.tk t)).sq) m λp d=>d
theorem Qs{f:XE}(h:VE X e f):VI X tg e (T9 f):=PI.imp (C6 h) λE H R ⟨t,s,ls,r,env,e,k⟩=>by
 refine⟨t,s,.tup ls,r,env,Io e,λv w D s1 z B=>?_⟩;obtain⟨a,g,rfl,u,o⟩:=z.tup_inv;have m:=λp d=>Same.mut s1 (r p d);have b:∀c,Ab t w c->SqT X.K c a g:=λc ab=>SqT.of ((ab.tk m).tup a g u);refine⟨a,rfl,⟨g,SqT.of u⟩,k _ w s1 ⟨λc ab=>⟨g,b c ab,by rw[o.len];exact aJ _⟩,λc i l ab q=>?_,λc i l x A ab q y=>?_⟩⟩
 ·obtain⟨x,f1,n,_,_⟩:=o.get q;exact⟨g,x,b c ab,n⟩
 ·obtain⟨rfl,y⟩:=y;obtain⟨C,f1,n,ix,sub⟩:=o.get q;have:=y g (b _ ab);rw[n] at this;cases this;have j:=λp d=>B p (sub p d);exact⟨Same.refl _,f1,ix.ab ab m j,λp d=>⟨Is.dom _ _ _ ix p d,j p d⟩⟩
noncomputable def Tr(n:Nat):List PV:=(aE n).map λ(i:Nat)=>PV.int (i:Int)
noncomputable def UZ(lo:Int)(n:Nat):List PV:=(aE n).map λ(i:Nat)=>PV.int (lo+(i:Int))
noncomputable def ZT(fs:List XE):XL:=λs=>match Qo fs s with | some [.int j]=>if -1000000<=j/\j<=1000000 then aA (Tr j.toNat) else none | _=>none
noncomputable def V0(fs:List XE):XL:=λs=>match Qo fs s with | some [.int i,.int j]=>if -1000000<=i/\i<=1000000/\-1000000<=j/\j<=1000000 then aA (UZ i (j-i).toNat) else none | _=>none
theorem Jl{d:aL->Prop}{e:Hp}(lo:Int)(n:Nat):JIs K d e (AJ lo n) (UZ lo n):=by
 refine⟨λc _=>by unfold UZ;rw[aO,bu];exact aJ n,λc i l _ a=>?_,λc i l x f _ a y=>?_⟩
 ·have:=(aU.mp a).1;unfold UZ at this;rw[aO,bu] at this;exact this
 ·obtain⟨rfl,rfl⟩:=y;have b:=(aU.mp a).1;unfold UZ at b a;rw[aO,bu] at b;rw[aW,bM b] at a;cases a;exact⟨Same.refl _,[],Is.int _,λp g=>by simp at g⟩
theorem EX(n:Nat):Tr n=UZ 0 n:=by apply aq;intro i _;rw[jn]
theorem Ip{a:av}{fs:List XE}{p pos:el}(b:Gl X "range")(m:X.mg "range" = none)(l:VA X [a] fs)(d:aY [a] X.env=[(aB,eval a X.env)]:=by rfl):VI X tg (.Call (.Name "range" p) [a] [] pos) (ZT fs):=
 PI.imp (J4 b m l d) λq H R ⟨h,s,ls,f,env,e,k⟩=>by
 unfold ZT at e;split at e
 ·split at e
  ·cases e;rename_i j c r;refine⟨h,s,_,f,env,c,λvs n o s1 g _=>?_⟩;obtain⟨v,rfl,i⟩:=g.one_inv;refine⟨j,by rw[i.int_inv.1],by omega,by omega,k _ n s1 ?_⟩;rw[EX];exact Jl _ _
  ·cases e
 ·cases e
theorem Iq{a b:av}{fs:List XE}{p pos:el}(d:Gl X "range")(q:X.mg "range" = none)(o:VA X [a,b] fs)(h:aY [a,b] X.env=[(aB,eval a X.env),(aB,eval b X.env)]:=by rfl)(c:aY [b] X.env=[(aB,eval b X.env)]:=by rfl):VI X tg (.Call (.Name "range" p) [a,b] [] pos) (V0 fs):=
 PI.imp (J5 d q o h c) λx H R ⟨n,s,ls,l,env,e,k⟩=>by
 unfold V0 at e;split at e
 ·split at e
  ·cases e;rename_i i j g y;refine⟨n,s,_,l,env,g,λvs r u s1 m _=>?_⟩;obtain⟨v,w,f1,f2,rfl,t,f,_⟩:=m.two_inv;exact⟨i,j,by rw[t.int_inv.1,f.int_inv.1],⟨by omega,by omega,by omega,by omega⟩,k _ r s1 (Jl _ _)⟩
  ·cases e
 ·cases e
noncomputable def Wz(m:List PV):List PV:=m.zipIdx.map λz=>.tup [.int (z.2:Nat),z.1]
noncomputable def Vo(m n:List PV):List PV:=(m.zip n).map λz=>.tup [z.1,z.2]
theorem Oc{m:List PV}{i:Nat}{l:PV}(h:(Wz m)[i]?=aA l):∃a,m[i]?=aA a/\l = .tup [.int (i:Nat),a]:=by
 unfold Wz at h;rw[aW,List.getElem?_zipIdx] at h
 cases q:m[i]? with
 | none=>rw[q] at h;cases h
 | some a=>rw[q] at h;cases h;exact⟨a,rfl,by simp⟩
theorem Od(m:List PV):(Wz m).length=m.length:=by unfold Wz;rw[aO,List.length_zipIdx]
theorem Mr{m n:List PV}{i:Nat}{l:PV}(h:(Vo m n)[i]?=aA l):∃a b,m[i]?=aA a/\n[i]?=aA b/\l = .tup [a,b]:=by
 unfold Vo at h;rw[aW] at h
 cases q:(m.zip n)[i]? with
 | none=>rw[q] at h;cases h
 | some z=>
  rw[q] at h;cases h;obtain⟨c,d⟩:=gq.mp q;exact⟨z.1,z.2,c,d,rfl⟩
theorem Ms(m n:List PV):(Vo m n).length=min m.length n.length:=by unfold Vo;rw[aO,List.length_zip]
noncomputable def seqB:Bool->PV->Option (List PV)
 | true,.lst l=>aA l
 | true,.cst l=>aA l
 | false,.tup l=>aA l
 | _,_=>none
theorem OZ{H:Hp}{b:Bool}{l:PV}{v:V}{g:List aL}{m:List PV}(h:Is K H l v g)(e:seqB b l=aA m):∃p a k,v = .ref p/\Iss K H m a k/\(∀q∈k,q∈g)/\∀(c:aL->Prop) d,Ab c H d->(∀p,c p->UG (H p))->(∀p∈g,¬c p)->Ra b K d p a:=by
 cases b with
 | true=>cases l with
  | lst l=>
   cases e;obtain⟨p,a,k,rfl,f,i,rfl⟩:=h.lst_inv;exact⟨p,a,k,rfl,i,λq j=>aT _ j,λc d ab _ n=>SqL.of (ab p _ f (n p aZ))⟩
  | cst l=>
   cases e;obtain⟨p,a,rfl,f,i⟩:=h.cst_inv;exact⟨p,a,g,rfl,i,λq j=>j,λc d ab o _=>(f.tr (ab.tk o)).sq⟩
  | _=>cases e
 | false=>cases l with
  | tup l=>
   cases e;obtain⟨p,a,rfl,f,i⟩:=h.tup_inv;exact⟨p,a,g,rfl,i,λq j=>j,λc d ab o _=>SqT.of ((ab.tk o).tup p a f)⟩
  | _=>cases e
noncomputable def Xu(b:Bool)(fs:List XE):XL:=λs=>match Qo fs s with | some [l]=>(seqB b l).map Wz | _=>none
noncomputable def U0(b1 b2:Bool)(fs:List XE):XL:=λs=>match Qo fs s with | some [l,r]=>(seqB b1 l).bind λm=>(seqB b2 r).map λn=>Vo m n | _=>none
theorem Vp{h:List av}{k:Nat}{n:el}(b:Bool){a:av}{fs:List XE}{p pos:el}(I:Gl X "enumerate")(S:X.mg "enumerate" = none)(P:VA X [a] fs)(M:aY [a] X.env=[(aB,eval a X.env)]:=by rfl) :
  VI X (.Tuple h k n) (.Call (.Name "enumerate" p) [a] [] pos) (Xu b fs):=PI.imp (EH b I S P M) λY H R ⟨E,s,ls,D,env,e,k⟩=>by
 unfold Xu at e;split at e
 ·rename_i l J;obtain⟨m,L,rfl⟩:=map_some e;refine⟨E,s,_,D,env,J,λvs B W s1 N G=>?_⟩;obtain⟨v,rfl,i⟩:=N.one_inv;have j:=λp f=>Same.mut s1 (D p f);obtain⟨a,t,U,rfl,w,sub,o⟩:=OZ i L;have r:=λd ab=>o E d ab j G;refine⟨a,rfl,⟨t,r B (Same.ab (Same.refl B))⟩,k _ B s1 ⟨λd ab=>⟨t,r d ab,by rw[Od,w.len]⟩,λd i l ab A=>?_,λd i l x O ab A y=>?_⟩⟩
  ·obtain⟨c,C,rfl⟩:=Oc A;obtain⟨x,f1,u,_,_⟩:=w.get C;exact⟨t,x,r d ab,u⟩
  ·obtain⟨c,C,rfl⟩:=Oc A;obtain⟨T,f1,u,ix,Q⟩:=w.get C;obtain⟨q,z,F,rfl,rfl,y⟩:=y;have:=y t (r _ ab);rw[u] at this;cases this;have g:=λp f=>G p (sub p (Q p f));refine⟨Same.new F _,f1,Is.tup Zt ?_,λp f=>⟨Is.dom _ _ _ ix p f,g p f⟩⟩;exact Iss.cons (Is.int _) (Iss.one ((ix.ab ab j g).mono (Same.new F _)))
 ·cases e
theorem Vq{B:List av}{k:Nat}{I:el}(b1 b2:Bool){a b:av}{fs:List XE}{p pos:el}(hg:Gl X "zip")(hm:X.mg "zip" = none)(ha:VA X [a,b] fs)
  (hs:aY [a,b] X.env=[(aB,eval a X.env),(aB,eval b X.env)]:=by rfl) (S:aY [b] X.env=[(aB,eval b X.env)]:=by rfl) :
  VI X (.Tuple B k I) (.Call (.Name "zip" p) [a,b] [] pos) (U0 b1 b2 fs):=PI.imp (Bz b1 b2 hg hm ha hs S) λσ H R ⟨W,s,ls,hd,env,e,k⟩=>by
 unfold U0 at e;split at e
 ·rename_i l r he;obtain⟨m,e1,e⟩:=Ze e;obtain⟨n,e2,rfl⟩:=map_some e;refine⟨W,s,_,hd,env,he,λvs G fp s1 i1 n1=>?_⟩;obtain⟨v,w,g1,g2,rfl,iv,iw,rfl⟩:=i1.two_inv;have j:=λp f=>Same.mut s1 (hd p f);have F:=λp f=>n1 p (b6 _ f);have E:=λp f=>n1 p (af _ f);obtain⟨a1,M,fq,rfl,O,sub,D⟩:=OZ iv e1;obtain⟨a2,L,fr,rfl,Y,C,o⟩:=OZ iw e2;have J:=λg ab=>D W g ab j F;have h:=λg ab=>o W g ab j E;refine⟨a1,a2,rfl,⟨M,J G (Same.ab (Same.refl G))⟩,⟨L,h G (Same.ab (Same.refl G))⟩,k _ G s1 ⟨λg ab=>⟨M,L,J g ab,h g ab,?_⟩,λg i l ab Z=>?_,λg i l x H'' ab Z y=>?_⟩⟩
  ·rw[Ms,O.len,Y.len];omega
  ·obtain⟨c,d,U,t,rfl⟩:=Mr Z;obtain⟨x,f1,N,_,_⟩:=O.get U;obtain⟨y,f2,Q,_,_⟩:=Y.get t;exact⟨M,L,x,y,J g ab,h g ab,N,Q⟩
  ·obtain⟨c,d,U,t,rfl⟩:=Mr Z;obtain⟨x',f1,N,ix,sb⟩:=O.get U;obtain⟨y',f2,Q,iy,T⟩:=Y.get t;obtain⟨q,z,z',P,rfl,rfl,y1,y2⟩:=y;have:=y1 M (J _ ab);rw[N] at this;cases this;have:=y2 L (h _ ab);rw[Q] at this;cases this;have A:=λp f=>F p (sub p (sb p f));have u:=λp f=>E p (C p (T p f));refine⟨Same.new P _,f1++f2,Is.tup Zt ?_,λp f=>?_⟩
   ·exact Iss.cons ((ix.ab ab j A).mono (Same.new P _)) (Iss.one ((iy.ab ab j u).mono (Same.new P _)))
   ·rcases bg.mp f with f | f
    ·exact⟨Is.dom _ _ _ ix p f,A p f⟩
    ·exact⟨Is.dom _ _ _ iy p f,u p f⟩
 ·cases e
end
inductive Tgt where
 | one (i:Nat) | many (is:List Nat)
noncomputable def Tgt.slots:Tgt->List Nat
 | .one i=>[i]
 | .many is=>is
noncomputable def setAll:List Nat->List PV->ZH->ZH
 | i::is,l::ls,s=>setAll is ls (s.set i (aA l))
 | _,_,s=>s
noncomputable def YU:List Nat->List V->Rc->Rc
 | i::is,l::ls,s=>YU is ls (s.set i (aA l))
 | _,_,s=>s
noncomputable def Xm:Tgt->PV->ZH->Option ZH
 | .one i,l,s=>aA (s.set i (aA l))
 | .many is,.tup ls,s=>if ls.length=is.length then aA (setAll is ls s) else none
 | _,_,_=>none
noncomputable def LM:List Nat->Cc
 | []=>AH
 | i::is=>Cd (Th i) (LM is)
noncomputable def gT(K:aD):Tgt->TG
 | .one i=>Th i
 | .many is=>AI K is.length (LM is)
theorem Qt:∀{is:List Nat}{vs:List V}{σ:Rc}{H:Hp}{Q:Rc->Hp->Prop},vs.length=is.length->Q (YU is vs σ) H->LM is vs σ H Q
 | [],[],_,_,_,_,q=>⟨rfl,q⟩
 | [],_::_,_,_,_,h,_=>by simp at h
 | _::_,[],_,_,_,h,_=>by simp at h
 | i::is,v::vs,σ,H,Q,h,q=>⟨v,vs,rfl,Qt (is:=is) (vs:=vs) (by simpa using h) q⟩
theorem LN{T:Tgt}{l:PV}{v:V}{b:List aL}{s d:ZH}{H:Hp}(h:Is K H l v b)(e:Xm T l s=aA d) :
  ∃ls vs fs,d=setAll T.slots ls s/\Iss K H ls vs fs/\ls.length=T.slots.length/\(∀p∈fs,p∈b)/\∀c (Q:Rc->Hp->Prop),Q (YU T.slots vs c) H->gT K T v c H Q:=by
 cases T with
 | one i=>
  cases e;exact⟨[l],[v],b,rfl,Iss.one h,rfl,λp a=>a,λc Q q=>q⟩
 | many is=>
  cases l with
  | tup ls=>
   have e:(if ls.length=is.length then aA (VL.setAll is ls s) else none)=aA d:=e;split at e
   ·cases e;obtain⟨p,g,rfl,a,f⟩:=h.tup_inv;exact⟨ls,g,b,rfl,f,by assumption,λp a=>a,λc Q q=>⟨p,g,rfl,SqT.of a,by rw[f.len];assumption,Qt (by rw[f.len];assumption) q⟩⟩
   ·cases e
  | _=>cases e
theorem Vr:∀{is:List Nat}{vs:List V}{σ:Rc}{n:Nat},(∀i∈is,i<n)->(YU is vs σ).drop n=σ.drop n
 | [],_,_,_,_=>rfl
 | _::_,[],_,_,_=>rfl
 | i::is,v::vs,σ,n,h=>by show(YU is vs (σ.set i (aA v))).drop n=_;rw[Vr (λj a=>h j (aT _ a))];have:=h i aZ;rw[List.drop_set,kr this]
theorem EnvIs.set{d:aL->Prop}{H:Hp}{s:ZH}{c:Rc}{i:Nat}{l:PV}{v:V}{b:List aL}(h:EnvIs K d H s c)(r:s.length=c.length)(q:Is K H l v b)(n:∀p∈b,¬d p):EnvIs K d H (s.set i (aA l)) (c.set i (aA v)):=⟨λj a e=>by
 rw[au] at e;by_cases g:i=j
 ·subst g;rw[kr rfl] at e;split at e
  ·cases e;exact⟨v,b,by rw[au,kr rfl,kr (by omega)],q,n⟩
  ·cases e
 ·rw[ku g] at e;obtain⟨w,f,o,k,m⟩:=h.is j a e;exact⟨w,f,by rw[au,ku g];exact o,k,m⟩⟩
theorem EnvIs.setAll{a:aL->Prop}{H:Hp}:∀{is:List Nat}{ls:List PV}{vs:List V}{fs:List aL}{s:ZH}{σ:Rc},EnvIs K a H s σ->s.length=σ.length->Iss K H ls vs fs->(∀p∈fs,¬a p)->EnvIs K a H (VL.setAll is ls s) (YU is vs σ)
 | [],_,_,_,_,_,h,_,_,_=>by unfold VL.setAll YU;exact h
 | i::is,[],vs,fs,s,σ,h,_,hi,_=>by simp only[Iss] at hi;rw[hi.1];exact h
 | i::is,l::ls,vs,fs,s,σ,h,hl,hi,n=>by obtain⟨x,r,f1,f2,rfl,c,d,rfl⟩:=hi.inv;show EnvIs K a H (VL.setAll is ls (s.set i (aA l))) (YU is r (σ.set i (aA x)));exact EnvIs.setAll (h.set hl c λp b=>n p (b6 _ b)) (by rw[bt,bt];exact hl) d λp b=>n p (af _ b)
noncomputable def ZJ(n:Nat)(ix:List Nat)(s:ZH):ZH:=aX n none++ix.map (λi=>(s[i]?).join)
noncomputable def WA(T:Tgt)(ft:XT)(fe:XE)(s0:ZH):List PV->Option (List PV)
 | []=>aA []
 | l::r=>(Xm T l s0).bind λs1=>(ft s1).bind λc=>if c=aC then(fe s1).bind λy=>(WA T ft fe s0 r).map (y::·) else WA T ft fe s0 r
noncomputable def Zr(n:Nat)(ix:List Nat)(fi:XL)(T:Tgt)(ft:XT)(fe:XE):XE:=λs=>(fi s).bind λls=>if ls.length<=10000 then(WA T ft fe (ZJ n ix s) ls).map .lst else none
noncomputable def Zy:XT:=λ_=>aA aC
theorem Ir{d:Type}{o:Option (Option d)}{a:d}(h:o.join=aA a):o=aA (aA a):=by
 cases o with
 | none=>cases h
 | some b=>cases b with
  | none=>cases h
  | some c=>cases h;rfl
theorem EnvIs.comp{g:aL->Prop}{H:Hp}{s:ZH}{f:Rc}{n:Nat}{ix:List Nat}(h:EnvIs K g H s f):EnvIs K g H (ZJ n ix s) (Z1 n ix f):=⟨λi l e=>by
 unfold ZJ at e;unfold Z1;by_cases d:i<n
 ·rw[ah (by simpa using d),ba,kr d] at e;cases e
 ·rw[bJ (by simpa using d),cy,aW] at e;rw[bJ (by simpa using d),cy,aW]
  cases q:ix[i-n]? with
  | none=>rw[q] at e;cases e
  | some j=>
   rw[q] at e;have e:=Ir (ay e);obtain⟨v,k,a,b,c⟩:=h.is j l e;exact⟨v,k,by show aA ((f[j]?).join)=_;rw[a];rfl,b,c⟩⟩
theorem Mu(n:Nat)(ix:List Nat)(s:ZH)(a:Rc):(ZJ n ix s).length=(Z1 n ix a).length:=by unfold ZJ Z1;simp
theorem Qu{T:Tgt}{d:XT}{a:XE}{b:ZH}{l:PV}{r f:List PV}(h:WA T d a b (l::r)=aA f):∃s1 c,Xm T l b=aA s1/\d s1=aA c/\((c=aC/\∃y e,a s1=aA y/\WA T d a b r=aA e/\f=y::e)\/(c=aB/\WA T d a b r=aA f)):=by
 obtain⟨s1,i,h⟩:=Ze h;obtain⟨c,k,h⟩:=Ze h;refine⟨s1,c,i,k,?_⟩
 cases c with
 | true=>
  obtain⟨y,g,h⟩:=Ze h;obtain⟨e,j,rfl⟩:=map_some h;exact .inl ⟨rfl,y,e,g,j,rfl⟩
 | false=>
  exact .inr ⟨rfl,h⟩
theorem Qv{b:Type}{l:List b}{i:Nat}{a:b}{r:List b}(h:l.drop i=a::r):l[i]?=aA a/\l.drop (i+1)=r:=by
 constructor
 ·have:=congrArg (λz=>z[0]?) h;simpa [dS] using this
 ·rw[<-List.drop_drop,h];rfl
section
variable {n:Nat} {ix:List Nat} {fi:XL} {T:Tgt} {ft:XT} {fe:XE}
theorem EY(hT:∀i∈T.slots,i<n):∀C H Q,tF K (Zr n ix fi T ft fe) C H Q->Qg n ix (iF K fi) (gT K T) (Ml K ft) (tF K fe) C H Q:=λC H Q ⟨u,s,L,S,env,e,k⟩=>by
 obtain⟨ls,e1,e⟩:=Ze e;split at e
 case isFalse=>cases e
 rename_i hlen;obtain⟨ys,e2,rfl⟩:=map_some e;refine⟨u,s,ls,S,env,e1,λJ H1 s1 j=>?_⟩;have hd1:=λp b=>Same.mut s1 (S p b)
 refine⟨λi m vs w=>m=ls.length-i/\i<=ls.length/\Same H1 w/\∃g Ys t,ys=g++Ys/\g.length<=i/\WA T ft fe (ZJ n ix s) (ls.drop i)=aA Ys/\Iss K w g vs t/\∀p∈t,¬u p,
  ⟨ls.length,by simp,cP _,Same.refl H1,[],ys,[],rfl,aJ _,e2,Iss.nil,λp b=>by simp at b⟩,?_⟩
 rintro i m vs w ⟨rfl,hi,d,g,Ys,t,rfl,F,M,N,P⟩;refine⟨by rw[N.len];exact cS (lt_size (by omega)),?_⟩
 cases q:ls.drop i with
 | nil=>
  have R:i=ls.length:=by have:=congrArg gL q;simp at this;omega
  subst R;rw[q] at M;cases M;refine .inl ⟨j.stop w (Same.ab d),λp b=>k _ _ (p::t) (s1.trans (d.trans (Same.new b _))) ?_ λa U z=>?_⟩
  ·rw[dI];exact Is.lst Zt (N.mono (Same.new b _))
  ·rcases a9.mp U with rfl | U
   ·exact Xk (Same.mut (s1.trans d) (S a z)) b
   ·exact P a U z
 | cons l r=>
  obtain⟨hl,hr⟩:=Qv q;have G:=(aU.mp hl).1;rw[q] at M;obtain⟨sb,c,eb,et,W⟩:=Qu M
  refine .inr ⟨j.go w i l (Same.ab d) hl,λE O=>Same H1 O/\∃dn' rest' fp',g++Ys=dn'++rest'/\dn'.length<=i+1/\WA T ft fe (ZJ n ix s) (ls.drop (i+1))=aA rest'/\Iss K O dn' E fp'/\∀p∈fp',¬u p,
   λE O h'=>⟨ls.length-(i+1),by omega,rfl,G,h'.1,h'.2⟩,λx H2 y=>?_⟩
  obtain⟨s2,fx,Z,nx⟩:=j.yld w i l x H2 (Same.ab d) hl y;have B:=λp b=>Same.mut (d.trans s2) (hd1 p b);obtain⟨bl,bv,bf,rfl,bi,_,A,I⟩:=LN Z eb;have D:EnvIs K u H2 (ZJ n ix s) (Z1 n ix C):=(env.mono (s1.trans (d.trans s2))).comp;have f:=D.setAll (is:=T.slots) (Mu n ix s C) bi λp b=>(nx p (A p b)).2;refine I _ _ ⟨Vr hT,u,_,c,B,f,et,λH3 o=>?_⟩;have Y:=λp b=>Same.mut o (B p b);rcases W with⟨rfl,y',zs,ey,X,rfl⟩ | ⟨rfl,X⟩
  ·refine A5 ?_;refine⟨u,_,y',Y,f.mono o,ey,λv H4 f4 s4 i4 n4=>?_⟩;refine⟨d.trans (s2.trans (o.trans s4)),g++[y'],zs,t++f4,by rw[fX];rfl,by rw[az];simp;exact F,by rw[hr];exact X,(N.mono (s2.trans (o.trans s4))).append (Iss.one i4),λp b=>?_⟩;rcases bg.mp b with h | h
   ·exact P p h
   ·exact n4 p h
  ·refine A4 ?_;exact⟨d.trans (s2.trans o),g,Ys,t,rfl,fZ F,by rw[hr];exact X,N.mono (s2.trans o),P⟩
theorem O1(hT:∀i∈T.slots,i<n):∀D H Q,tM K (Zr n ix fi T ft fe) D H Q->Qg n ix (iF K fi) (gT K T) (Ml K ft) (tM K fe) D H Q:=λD H Q ⟨s,L,env,e,k⟩=>by
 obtain⟨ls,e1,e⟩:=Ze e;split at e
 case isFalse=>cases e
 rename_i hlen;obtain⟨ys,e2,rfl⟩:=map_some e;have hd:∀(H:Hp) p,(λ_=>False:aL->Prop) p->UG (H p):=λ_ _ z=>z.elim;refine⟨λ_=>False,s,ls,hd H,env,e1,λJ F s1 w=>?_⟩
 refine⟨λi m vs A=>m=ls.length-i/\i<=ls.length/\Same F A/\∃t Ys u,ys=t++Ys/\t.length<=i/\WA T ft fe (ZJ n ix s) (ls.drop i)=aA Ys/\Iss K A t vs u/\u.Nodup/\∀p∈u,F p=none/\UG (A p),
  ⟨ls.length,by simp,cP _,Same.refl F,[],ys,[],rfl,aJ _,e2,Iss.nil,dF,λp d=>by simp at d⟩,?_⟩
 rintro i m vs A ⟨rfl,hi,g,t,Ys,u,rfl,I,P,R,dv,j⟩;refine⟨by rw[R.len];exact cS (lt_size (by omega)),?_⟩
 cases q:ls.drop i with
 | nil=>
  have U:i=ls.length:=by have:=congrArg gL q;simp at this;omega
  subst U;rw[q] at P;cases P;refine .inl ⟨w.stop A (Same.ab g),λp d=>k _ _ (p::u) (s1.trans (g.trans (Same.new d _))) ?_ (bN.mpr ⟨λz=>Xk (j p z).2 d,dv⟩) λa B=>?_⟩
  ·rw[dI];exact Is.lst Zt (R.mono (Same.new d _))
  ·rcases a9.mp B with rfl | B
   ·exact⟨Same.off (s1.trans g) d,by rw[Zt];exact cz⟩
   ·exact⟨Same.off s1 (j a B).1,Same.mut (Same.new d _) (j a B).2⟩
 | cons l r=>
  obtain⟨hl,hr⟩:=Qv q;have M:=(aU.mp hl).1;rw[q] at P;obtain⟨sb,c,eb,et,W⟩:=Qu P
  refine .inr ⟨w.go A i l (Same.ab g) hl,λG O=>Same F O/\∃dn' rest' fp',t++Ys=dn'++rest'/\dn'.length<=i+1/\WA T ft fe (ZJ n ix s) (ls.drop (i+1))=aA rest'/\Iss K O dn' G fp'/\fp'.Nodup/\∀p∈fp',F p=none/\UG (O p),
   λG O h'=>⟨ls.length-(i+1),by omega,rfl,M,h'.1,h'.2⟩,λx Y y=>?_⟩
  obtain⟨s2,fx,Z,nx⟩:=w.yld A i l x Y (Same.ab g) hl y;obtain⟨bl,bv,bf,rfl,bi,_,C,N⟩:=LN Z eb;have E:EnvIs K (λ_=>False) Y (ZJ n ix s) (Z1 n ix D):=(env.mono (s1.trans (g.trans s2))).comp;have o:=E.setAll (is:=T.slots) (Mu n ix s D) bi λp d=>(nx p (C p d)).2;refine N _ _ ⟨Vr hT,λ_=>False,_,c,hd Y,o,et,λH3 f=>?_⟩;rcases W with⟨rfl,y',zs,ey,X,rfl⟩ | ⟨rfl,X⟩
  ·refine A5 ?_;refine⟨_,y',o.mono f,ey,λv H4 f4 s4 i4 d4 S=>?_⟩;refine⟨g.trans (s2.trans (f.trans s4)),t++[y'],zs,u++f4,by rw[fX];rfl,by rw[az];simp;exact I,by rw[hr];exact X,(R.mono (s2.trans (f.trans s4))).append (Iss.one i4),eZ.mpr ⟨dv,d4,λa B b hb z=>?_⟩,λp d=>?_⟩
   ·subst z;exact Xk (Same.mut (s2.trans f) (j a B).2) (S a hb).1
   ·rcases bg.mp d with h | h
    ·exact⟨(j p h).1,Same.mut (s2.trans (f.trans s4)) (j p h).2⟩
    ·exact⟨Same.off (g.trans (s2.trans f)) (S p h).1,(S p h).2⟩
  ·refine A4 ?_;exact⟨g.trans (s2.trans f),t,Ys,u,rfl,fZ I,by rw[hr];exact X,R.mono (s2.trans f),dv,λp d=>⟨(j p d).1,Same.mut (s2.trans f) (j p d).2⟩⟩
end
noncomputable def Ar(X:Cx)(kj:List av)(f:XT):Prop:=Lx X kj (Ml X.K f)
section
variable {X:Cx} {tg ko iter c:av} {kj:List av} {scope:dP} {pos:el} {fi:XL} {T:Tgt} {ft:XT} {fe:XE}
theorem Z8:Ar X [] Zy:=λa s b H Q I ⟨f,d,c,g,env,e,k⟩=>by cases e;exact ED a s b H Q I (k H (Same.refl H))
theorem O2(h:VT X c ft):Ar X [c] ft:=EE h
theorem Y9(own fr:List ak)(ix:List Nat)(b:X.calm=aC)(f:VI X tg iter fi)(S:VV X.N X.env.scope scope own fr ix=aC)
  (c:∀cl C s H a,PG (ZI X (own++fr) scope cl C s H a) tg (gT X.K T)) (e:∀cl C s H a,Ar (ZI X (own++fr) scope cl C s H a) kj ft) (g:∀cl C s H a,VE (ZI X (own++fr) scope cl C s H a) ko fe)
  (h:∀i∈T.slots,i<own.length:=by decide) (d:∀x,b7 iter X.env x=pure x:=by intro _;rfl):VE X (.ListComp ko [⟨tg,iter,kj,0⟩] scope pos) (Zr own.length ix fi T ft fe):=
 PE.imp (Mi own fr ix b f S c (λcl C s H a=>(show Lx (ZI X (own++fr) scope cl C s H a) kj (Ml X.K ft) from e cl C s H a)) (λcl C s H a=>(show PE (ZI X (own++fr) scope cl C s H a) ko (tF X.K fe) from g cl C s H a)) d) (EY h)
theorem WB(own fr:List ak)(ix:List Nat)(b:X.calm=aC)(f:VI X tg iter fi)(S:VV X.N X.env.scope scope own fr ix=aC)
  (c:∀cl C s H a,PG (ZI X (own++fr) scope cl C s H a) tg (gT X.K T)) (e:∀cl C s H a,Ar (ZI X (own++fr) scope cl C s H a) kj ft) (g:∀cl C s H a,VM (ZI X (own++fr) scope cl C s H a) ko fe)
  (h:∀i∈T.slots,i<own.length:=by decide) (d:∀x,b7 iter X.env x=pure x:=by intro _;rfl):VM X (.ListComp ko [⟨tg,iter,kj,0⟩] scope pos) (Zr own.length ix fi T ft fe):=
 PE.imp (Mi own fr ix b f S c (λcl C s H a=>(show Lx (ZI X (own++fr) scope cl C s H a) kj (Ml X.K ft) from e cl C s H a)) (λcl C s H a=>(show PE (ZI X (own++fr) scope cl C s H a) ko (tM X.K fe) from g cl C s H a)) d) (O1 h)
end
noncomputable def Wm(xs:List PV)(lo hi:Option Int):List PV:=(xs.drop (HT.sIx xs.length 0 lo)).take (HT.sIx xs.length xs.length hi-HT.sIx xs.length 0 lo)
theorem Iss.cut{H:Hp}{l:List PV}{g:List V}{f:List aL}(lo e:Option Int)(h:Iss K H l g f):∃f1,Iss K H (Wm l lo e) (Ib g lo e) f1/\∀p∈f1,p∈f:=by unfold Wm Ib;rw[h.len];obtain⟨f1,a,b⟩:=h.drop (HT.sIx l.length 0 lo);obtain⟨f2,c,d⟩:=a.take (HT.sIx l.length l.length e-HT.sIx l.length 0 lo);exact⟨f2,c,λp i=>b p (d p i)⟩
abbrev XO:=ZH->Option (Option Int)
noncomputable def tFO(K:aD)(f:XO):TO:=λσ H Q=>∃(Rm:aL->Prop) (s:ZH) (i:Option Int),(∀p,Rm p->UG (H p))/\EnvIs K Rm H s σ/\f s=aA i/\∀H',Same H H'->Q i H'
noncomputable def VO(X:Cx)(e:Option av)(f:XO):Prop:=PO X e (tFO X.K f)
noncomputable def Lj:XO:=λ_=>aA none
noncomputable def UJ(f:XE):XO:=λs=>match f s with | some (.int i)=>aA (aA i) | _=>none
noncomputable def UK(x:PV)(lo hi:Option Int):Option PV:=match x with | .lst l=>aA (.lst (Wm l lo hi)) | .cst l=>aA (.lst (Wm l lo hi)) | _=>none
noncomputable def Ry(x:PV)(lo hi:Option Int):Option PV:=match x with | .tup l=>if HT.sIx l.length 0 lo=0/\HT.sIx l.length l.length hi=l.length then none else aA (.tup (Wm l lo hi)) | _=>none
noncomputable def RI(g:PV->Option Int->Option Int->Option PV)(a:XE)(lo hi:XO):XE:=λs=>(a s).bind λx=>(lo s).bind λl=>(hi s).bind λu=>g x l u
section
variable {X:Cx} {e:av} {lo hi:Option av} {p2 pos:el} {fa:XE} {fl fh:XO}
theorem WC:VO X none Lj:=λa s b H Q I ⟨d,c,i,f,env,e,k⟩=>by cases e;exact Ey a s b H Q I (k H (Same.refl H))
theorem Xa{e:av}(h:VE X e fa):VO X (aA e) (UJ fa):=λd s f H Q I ⟨g,b,i,c,env,e,k⟩=>by
 unfold UJ at e;split at e
 ·cases e;rename_i j m;exact Ez h d s f H Q I ⟨g,b,.int j,c,env,m,λv a o l i n=>⟨j,i.int_inv.1,k a l⟩⟩
 ·cases e
theorem Xy(A:VE X e fa)(C:VO X lo fl)(B:VO X m fh):VE X (.Subscript e (.Slice lo m none p2) pos) (RI UK fa fl fh):=PE.imp (Mc EB A C B) λI H Q ⟨n,s,l,j,env,e,k⟩=>by
 obtain⟨x,w,e⟩:=Ze e;obtain⟨a,D,e⟩:=Ze e;obtain⟨b,y,e⟩:=Ze e;refine⟨n,s,x,j,env,w,λv L G s1 t u=>⟨n,s,a,λp f=>Same.mut s1 (j p f),env.mono s1,D,λE s2=>⟨n,s,b,λp f=>Same.mut (s1.trans s2) (j p f),env.mono (s1.trans s2),y,λJ i=>?_⟩⟩⟩
 cases x with
 | lst l=>
  cases e;obtain⟨p,o,F,rfl,f,m,rfl⟩:=(t.mono (s2.trans i)).lst_inv;obtain⟨f1,c,d⟩:=m.cut a b;refine⟨p,o,rfl,SqL.of f,λq h=>k _ _ (q::f1) (s1.trans (s2.trans (i.trans (Same.new h _)))) (Is.lst Zt (c.mono (Same.new h _))) λr g z=>?_⟩;rcases a9.mp g with rfl | g
  ·exact Xk (Same.mut (s1.trans (s2.trans i)) (j r z)) h
  ·exact u r (aT _ (d r g)) z
 | cst l=>
  cases e;obtain⟨p,o,rfl,f,m⟩:=(t.mono (s2.trans i)).cst_inv;obtain⟨f1,c,d⟩:=m.cut a b;refine⟨p,o,rfl,f.sq,λq h=>k _ _ (q::f1) (s1.trans (s2.trans (i.trans (Same.new h _)))) (Is.lst Zt (c.mono (Same.new h _))) λr g z=>?_⟩;rcases a9.mp g with rfl | g
  ·exact Xk (Same.mut (s1.trans (s2.trans i)) (j r z)) h
  ·exact u r (d r g) z
 | _=>cases e
theorem Sa(y:VE X e fa)(A:VO X lo fl)(z:VO X g fh):VE X (.Subscript e (.Slice lo g none p2) pos) (RI Ry fa fl fh):=PE.imp (Mc Bj y A z) λG H Q ⟨i,s,l,h,env,e,k⟩=>by
 obtain⟨x,o,e⟩:=Ze e;obtain⟨a,B,e⟩:=Ze e;obtain⟨b,w,e⟩:=Ze e;refine⟨i,s,x,h,env,o,λv J F s1 u C=>⟨i,s,a,λp f=>Same.mut s1 (h p f),env.mono s1,B,λE s2=>⟨i,s,b,λp f=>Same.mut (s1.trans s2) (h p f),env.mono (s1.trans s2),w,λI m=>?_⟩⟩⟩
 cases x with
 | tup l=>
  unfold Ry at e;simp only at e;split at e
  ·cases e
  ·rename_i j;cases e;obtain⟨p,D,rfl,f,g⟩:=(u.mono (s2.trans m)).tup_inv;obtain⟨f1,c,d⟩:=g.cut a b;refine⟨p,D,rfl,SqT.of f,by rw[g.len];exact j,λq n=>k _ _ f1 (s1.trans (s2.trans (m.trans (Same.new n _)))) (Is.tup Zt (c.mono (Same.new n _))) λr t=>C r (d r t)⟩
 | _=>cases e
end
end VL
namespace VL
open PySem PySem.Spec PyProof.Rows L2
variable {K:aD}
structure Rel(K:aD)(O:List Nat)(H0:Hp)(fps:Nat->List aL)(s:ZH)(σ:Rc)(H:Hp):Prop where
 same:Same H0 H
 len:s.length=σ.length
 is:∀(i:Nat) l,s[i]?=aA (aA l)->∃v,σ[i]?=aA (aA v)/\Is K H l v (fps i)
 emp:∀(i:Nat),(∀l,s[i]?≠aA (aA l))->fps i=[]
 nd:∀i∈O,(fps i).Nodup
 own:∀i∈O,∀p∈fps i,H0 p=none/\UG (H p)
 dis:∀i∈O,∀j,j≠i->∀p∈fps i,p∉fps j
noncomputable def Ow(O:List Nat)(fps:Nat->List aL)(p:aL):Prop:=∃i∈O,p∈fps i
noncomputable def YB(O:List Nat)(s:ZH):ZH:=O.foldl (λs i=>s.set i none) s
theorem Qw:∀{O:List Nat}{s:ZH}{i:Nat}{l:PV},(YB O s)[i]?=aA (aA l)->i∉O/\s[i]?=aA (aA l)
 | [],s,i,l,h=>⟨by simp,h⟩
 | o::O,s,i,l,h=>by
  obtain⟨b,a⟩:=Qw (O:=O) (s:=s.set o none) h;rw[au] at a;by_cases e:o=i
  ·rw[kr e] at a;split at a<;>cases a
  ·rw[ku e] at a;exact⟨by simp only[a9,not_or];exact⟨λz=>e z.symm,b⟩,a⟩
section
variable {O:List Nat} {H0 H H':Hp} {fps:Nat->List aL} {s:ZH} {σ:Rc}
theorem Rel.at(r:Rel K O H0 fps s σ H)(i:Nat){p:aL}(c:p∈fps i):∃l v,s[i]?=aA (aA l)/\σ[i]?=aA (aA v)/\Is K H l v (fps i):=by
 cases q:s[i]? with
 | none=>rw[r.emp i (λl z=>by rw[q] at z;cases z)] at c;simp at c
 | some o=>cases o with
  | none=>rw[r.emp i (λl z=>by rw[q] at z;cases z)] at c;simp at c
  | some l=>
   obtain⟨v,a,b⟩:=r.is i l q;exact⟨l,v,rfl,a,b⟩
theorem Rel.dom(r:Rel K O H0 fps s σ H)(i:Nat):∀p∈fps i,H p≠none:=λp a=>by obtain⟨l,v,_,_,b⟩:=r.at i a;exact Is.dom _ _ _ b p a
theorem Rel.env(r:Rel K O H0 fps s σ H):EnvIs K (λ_=>False) H s σ:=⟨λi l e=>by
 obtain⟨v,a,b⟩:=r.is i l e;exact⟨v,_,a,b,λ_ _ z=>z⟩⟩
theorem Rel.envO(r:Rel K O H0 fps s σ H):EnvIs K (Ow O fps) H (YB O s) σ:=⟨λi l e=>by
 obtain⟨n,e⟩:=Qw e;obtain⟨v,a,b⟩:=r.is i l e;exact⟨v,_,a,b,λp f ⟨j,d,c⟩=>r.dis j d i (λz=>n (z▸d)) p c f⟩⟩
theorem Rel.owMut(r:Rel K O H0 fps s σ H):∀p,Ow O fps p->UG (H p):=λp ⟨i,b,a⟩=>(r.own i b p a).2
theorem Rel.grow(r:Rel K O H0 fps s σ H)(e:Same H H'):Rel K O H0 fps s σ H':=
 ⟨r.same.trans e,r.len,λi l q=>by obtain⟨v,a,b⟩:=r.is i l q;exact⟨v,a,b.mono e⟩,r.emp,r.nd,λi d p c=>⟨(r.own i d p c).1,Same.mut e (r.own i d p c).2⟩,r.dis⟩
theorem Rel.less{F:Hp}(r:Rel K O F fps s σ H)(e:Same H0 F):Rel K O H0 fps s σ H:=
 ⟨e.trans r.same,r.len,r.is,r.emp,r.nd,λi b p a=>⟨Same.off e (r.own i b p a).1,(r.own i b p a).2⟩,r.dis⟩
open Classical in
noncomputable def VP(H:Hp)(Rm:aL->Prop):Hp:=λb=>if Rm b then none else H b
theorem Oe{a:aL->Prop}:Same (VP H a) H:=λb o h=>by
 unfold VP at h;split at h
 ·cases h
 ·exact h
theorem Rel.frame(r:Rel K O H0 fps s σ H):Rel K O (VP H (Ow O fps)) fps s σ H:=
 ⟨Oe,r.len,r.is,r.emp,r.nd,λi b p a=>⟨by unfold VP;rw[kr ⟨i,b,a⟩],(r.own i b p a).2⟩,r.dis⟩
theorem Rel.under(r:Rel K O H0 fps s σ H):Same H0 (VP H (Ow O fps)):=λb o h=>by unfold VP;rw[ku (λ⟨i,c,a⟩=>by rw[(r.own i c b a).1] at h;cases h)];exact r.same b o h
open Classical in
noncomputable def Ts(fps:Nat->List aL)(n:Nat)(i:Nat)(fp:List aL):Nat->List aL:=λj=>if j=i/\i<n then fp else fps j
theorem ZV{n i j:Nat}{a:List aL}(h:j≠i):Ts fps n i a j=fps j:=by unfold Ts;rw[ku (λz=>h z.1)]
theorem O3{n i:Nat}{a:List aL}(h:i<n):Ts fps n i a i=a:=by unfold Ts;rw[kr ⟨rfl,h⟩]
theorem Rel.set(r:Rel K O H0 fps s σ H){i:Nat}{l:PV}{v:V}{f:List aL}(x:Is K H l v f)(q:i∈O->f.Nodup/\∀p∈f,H0 p=none/\UG (H p))
  (o:∀j,j≠i->(j∈O\/i∈O)->∀p∈f,p∉fps j):Rel K O H0 (Ts fps s.length i f) (s.set i (aA l)) (σ.set i (aA v)) H:=by
 by_cases c:i<s.length
 ·have g:Ts fps s.length i f i=f:=O3 c;refine⟨r.same,by rw[bt,bt];exact r.len,λj a e=>?_,λj h=>?_,λj b=>?_,λj b p d=>?_,λj b k n p d=>?_⟩
  ·rw[au] at e;by_cases b:i=j
   ·subst b;rw[kr rfl,kr c] at e;cases e;rw[g];exact⟨v,by rw[au,kr rfl,kr (by rw[<-r.len];exact c)],x⟩
   ·rw[ku b] at e;obtain⟨w,t,y⟩:=r.is j a e;rw[ZV (aw b)];exact⟨w,by rw[au,ku b];exact t,y⟩
  ·by_cases b:i=j
   ·subst b;exact absurd (by rw[au,kr rfl,kr c]) (h l)
   ·rw[ZV (aw b)];exact r.emp j λa z=>h a (by rw[au,ku b];exact z)
  ·by_cases e:j=i
   ·subst e;rw[g];exact(q b).1
   ·rw[ZV e];exact r.nd j b
  ·by_cases e:j=i
   ·subst e;rw[g] at d;exact(q b).2 p d
   ·rw[ZV e] at d;exact r.own j b p d
  ·by_cases e:j=i
   ·subst e;rw[g] at d;rw[ZV n];exact o k n (.inr b) p d
   ·rw[ZV e] at d;by_cases m:k=i
    ·subst m;rw[g];exact λz=>o j e (.inl b) p z d
    ·rw[ZV m];exact r.dis j b k n p d
 ·have g:s.set i (aA l)=s:=hV (by omega);have m:σ.set i (aA v)=σ:=hV (by rw[<-r.len];omega);have u:Ts fps s.length i f=fps:=by funext j;unfold Ts;rw[ku (λz=>c z.2)]
  rw[g,m,u];exact r
theorem Rel.mutate(r:Rel K O H0 fps s σ H){i:Nat}(n:i∈O){p:aL}(m:p∈fps i){o:HO}{l':PV}{v:V}{fp':List aL}(C:σ[i]?=aA (aA v))(f:i<s.length)
  (E:Is K (upd H p o) l' v fp') (I:fp'.Nodup) (J:∀q∈fp',H0 q=none/\UG (upd H p o q)) (y:∀j,j≠i->∀q∈fp',q∉fps j) (F:UG (aA o)):Rel K O H0 (Ts fps s.length i fp') (s.set i (aA l')) σ (upd H p o):=by
 have g:=(r.own i n p m).2;have B:=(r.own i n p m).1;have l:Ts fps s.length i fp' i=fp':=O3 f
 have tk:EL H (upd H p o):=⟨λb L h=>by
  rw[upd_ne (λz=>by rw[z] at h;rw[h] at g;exact g)];exact h,λb o L h=>by
  rw[upd_ne (λz=>by rw[z] at h;rw[h] at g;exact g)];exact h,λb o x h=>by
  rw[upd_ne (λz=>by rw[z] at h;rw[h] at g;exact g)];exact h⟩
 refine⟨λb u h=>by rw[upd_ne (Zu h B)];exact r.same b u h,by rw[bt];exact r.len,λj a e=>?_,λj h=>?_,λj c=>?_,λj c q d=>?_,λj c k t q d=>?_⟩
 ·rw[au] at e;by_cases c:i=j
  ·subst c;rw[kr rfl,kr f] at e;cases e;rw[l];exact⟨v,C,E⟩
  ·rw[ku c] at e;obtain⟨w,G,D⟩:=r.is j a e;rw[ZV (aw c)];refine⟨w,G,Is.tr tk _ _ _ (λq d=>RdK.of λu M=>?_) D⟩;have ne:q≠p:=λz=>r.dis i n j (aw c) p m (z▸d);rw[upd_ne ne];exact M
 ·by_cases c:i=j
  ·subst c;exact absurd (by rw[au,kr rfl,kr f]) (h l')
  ·rw[ZV (aw c)];exact r.emp j λa z=>h a (by rw[au,ku c];exact z)
 ·by_cases e:j=i
  ·subst e;rw[l];exact I
  ·rw[ZV e];exact r.nd j c
 ·by_cases e:j=i
  ·subst e;rw[l] at d;exact J q d
  ·rw[ZV e] at d;refine⟨(r.own j c q d).1,?_⟩;have ne:q≠p:=λz=>r.dis j c i (aw e) q d (z▸m);rw[upd_ne ne];exact(r.own j c q d).2
 ·by_cases e:j=i
  ·subst e;rw[l] at d;rw[ZV t];exact y k t q d
  ·rw[ZV e] at d;by_cases A:k=i
   ·subst A;rw[l];exact λz=>y j e q z d
   ·rw[ZV A];exact r.dis j c k t q d
end
noncomputable def Kep(a b:List aL):Prop:=a=b\/a=[]
theorem Kep.refl(a:List aL):Kep a a:=.inl rfl
theorem Kep.trans{a b c:List aL}(h:Kep a b)(k:Kep b c):Kep a c:=by
 rcases h with rfl | h
 ·exact k
 ·exact .inr h
inductive LO where
 | nx (s:ZH) | rt (l:PV) | bk (s:ZH) | ct (s:ZH)
abbrev XS:=ZH->Option LO
noncomputable def OutOk(K:aD)(O W:List Nat)(H0:Hp)(fps:Nat->List aL)(σ:Rc)(D:Y3):LO->Prop
 | .nx s'=>∀kh σ' H',Rel K O H0 kh s' σ' H'->(∀j,j∉W->σ'[j]?=σ[j]?/\Kep (kh j) (fps j))->D.nx σ' H'
 | .bk s'=>∀kh σ' H',Rel K O H0 kh s' σ' H'->(∀j,j∉W->σ'[j]?=σ[j]?/\Kep (kh j) (fps j))->D.bk σ' H'
 | .ct s'=>∀kh σ' H',Rel K O H0 kh s' σ' H'->(∀j,j∉W->σ'[j]?=σ[j]?/\Kep (kh j) (fps j))->D.ct σ' H'
 | .rt l=>∀v fp H',Same H0 H'->Is K H' l v fp->fp.Nodup->(∀p∈fp,H0 p=none/\UG (H' p))->D.rt v H'
noncomputable def As(K:aD)(O W:List Nat)(f:XS):TS:=λD σ H=>∃H0 fps s out,Rel K O H0 fps s σ H/\f s=aA out/\OutOk K O W H0 fps σ D out
noncomputable def VS(X:Cx)(O W:List Nat)(st:bb)(f:XS):Prop:=PS X st (As X.K O W f)
noncomputable def Hw(X:Cx)(O W:List Nat)(st:List bb)(f:XS):Prop:=PSs X st (As X.K O W f)
theorem OutOk.same{O W m:List Nat}{n:Hp}{fps c:Nat->List aL}{o i:Rc}{D:Y3}{d:LO}(h:OutOk K O m n fps o D d)(k:∀j,j∉m->i[j]?=o[j]?/\Kep (c j) (fps j))(e:∀j,j∉m->j∉W):OutOk K O W n c i D d:=by
 cases d with
 | nx s'=>exact λg b f r q=>h g b f r λj a=>⟨(q j (e j a)).1.trans (k j a).1,(q j (e j a)).2.trans (k j a).2⟩
 | bk s'=>exact λg b f r q=>h g b f r λj a=>⟨(q j (e j a)).1.trans (k j a).1,(q j (e j a)).2.trans (k j a).2⟩
 | ct s'=>exact λg b f r q=>h g b f r λj a=>⟨(q j (e j a)).1.trans (k j a).1,(q j (e j a)).2.trans (k j a).2⟩
 | rt l=>exact h
theorem OutOk.less{O W:List Nat}{j F:Hp}{fps:Nat->List aL}{k:Rc}{D:Y3}{c:LO}(h:OutOk K O W j fps k D c)(e:Same j F):OutOk K O W F fps k D c:=by
 cases c with
 | nx s'=>exact λf a b r q=>h f a b (r.less e) q
 | bk s'=>exact λf a b r q=>h f a b (r.less e) q
 | ct s'=>exact λf a b r q=>h f a b (r.less e) q
 | rt l=>exact λv m b o i d n=>h v m b (e.trans o) i d λp g=>⟨Same.off e (n p g).1,(n p g).2⟩
noncomputable def YG:XS:=λs=>aA (.nx s)
noncomputable def Zp(f g:XS):XS:=λs=>(f s).bind λo=>match o with | .nx s'=>g s' | r=>aA r
noncomputable def Rh(c:XT)(f g:XS):XS:=λs=>(c s).bind λk=>if k=aC then f s else g s
noncomputable def ZO(f:XE):XS:=λs=>(f s).map .rt
noncomputable def Zq(i:Nat)(f:XE):XS:=λs=>(f s).map λl=>.nx (s.set i (aA l))
section
variable {X:Cx} {O W W1 W2:List Nat} {st:bb} {Ys:List bb} {f g:XS} {pos:el}
theorem PS.imp{t t':TS}(h:PS X st t)(i:∀D a H,t' D a H->t D a H):PS X st t':=λb s a H D I q=>h b s a H D I (i D a H q)
theorem PSs.imp{t t':TS}(h:PSs X Ys t)(i:∀D a H,t' D a H->t D a H):PSs X Ys t':=λb s a H D I q=>h b s a H D I (i D a H q)
theorem Gv:∀D a H,As K O W YG D a H->Cb D a H:=λD a H ⟨c,fps,s,b,r,e,k⟩=>by cases e;exact k fps a H r λj _=>⟨rfl,Kep.refl _⟩
theorem YL:Hw X O [] [] YG:=PSs.imp Ej Gv
theorem Zj(h:VS X O W st f):Hw X O W [st] f:=K5 h
theorem Zd(y:VS X O W1 st f)(w:Hw X O W2 Ys g):Hw X O (W1++W2) (st::Ys) (Zp f g):=PSs.imp (N6 y w) λD B H ⟨q,fps,s,n,r,e,k⟩=>by
 obtain⟨t,u,e⟩:=Ze e;have a:∀j,j∉W1++W2->j∉W1:=λj b z=>b (b6 _ z);have d:∀j,j∉W1++W2->j∉W2:=λj b z=>b (af _ z);refine⟨q,fps,s,t,r,u,?_⟩
 cases t with
 | nx s1=>
  intro h A C x v;exact⟨q,h,s1,n,x,e,k.same (λj b=>v j (a j b)) d⟩
 | bk s1=>cases e;exact λp c i o m=>k p c i o λj b=>m j (a j b)
 | ct s1=>cases e;exact λp c i o m=>k p c i o λj b=>m j (a j b)
 | rt l=>cases e;exact k
theorem WD{c:av}{a b:List bb}{m:XT}(q:VT X c m)(p:Hw X O W1 a f)(t:Hw X O W2 b g):VS X O (W1++W2) (.If c a b pos) (Rh m f g):=PS.imp (AF q p t) λD u H ⟨n,fps,s,d,r,e,k⟩=>by
 obtain⟨c,o,e⟩:=Ze e;have h:∀j,j∉W1++W2->j∉W1:=λj l z=>l (b6 _ z);have i:∀j,j∉W1++W2->j∉W2:=λj l z=>l (af _ z);refine⟨λ_=>False,s,c,λ_ z=>z.elim,r.env,o,λv s1=>?_⟩
 cases c with
 | true=>
  exact⟨n,fps,s,d,r.grow s1,e,k.same (λj _=>⟨rfl,Kep.refl _⟩) h⟩
 | false=>
  exact⟨n,fps,s,d,r.grow s1,e,k.same (λj _=>⟨rfl,Kep.refl _⟩) i⟩
theorem Zs{e:av}{b:XE}(g:VM X e b):VS X O [] (.Return (aA e) pos) (ZO b):=PS.imp (Lk g) λD q H ⟨o,fps,s,h,r,e,k⟩=>by obtain⟨l,f,rfl⟩:=map_some e;exact⟨s,l,r.env,f,λv c j m i d n=>k v j c (r.same.trans m) i d λp a=>⟨Same.off r.same (n p a).1,(n p a).2⟩⟩
theorem RJ{e:av}{i:Nat}(f:PE X e (Pq i))(c:i∈O:=by decide):VS X O [] (.Return (aA e) pos) (ZO (Za i)):=PS.imp (Lk f) λD h H ⟨j,fps,s,d,r,e,k⟩=>by obtain⟨l,g,rfl⟩:=map_some e;obtain⟨v,a,b⟩:=r.is i l (Ob g);exact⟨v,a,k v _ H r.same b (r.nd i c) (r.own i c)⟩
theorem Jm{t:TE}{i:Nat}{c:XE}(g:∀a H Q,tM K c a H Q->t a H Q):∀D a H,As K O [i] (Zq i c) D a H->Ll t (Th i) D a H:=λD a H ⟨u,fps,s,m,r,e,k⟩=>by
 obtain⟨l,h,rfl⟩:=map_some e;refine g a H _ ⟨s,l,r.env,h,λv f w o is d n=>?_⟩;refine k _ _ f ((r.grow o).set is (λ_=>⟨d,λp b=>⟨Same.off r.same (n p b).1,(n p b).2⟩⟩) λj _ _ p b z=>r.dom j p z (n p b).1) λj q=>?_;have:j≠i:=by simpa using q
 exact⟨by rw[au,ku (aw this)],.inl (ZV this)⟩
theorem BO{i:Nat}{x:ak}{e:av}{b:XE}{a:el}(k:X.N.Nodup)(j:X.N[i]?=aA x)(d:Ee X.env.scope x)(f:VM X e b)(c:g7 e (aA (.Name x a)) pos.line X.env=pure aB:=by rfl)(g:X.fn x=aC\/X.env.scope.names.lookup x=aA .local:=by first | exact .inl rfl | exact .inr rfl | assumption) :
  VS X O [i] (.Assign [.Name x a] e pos) (Zq i b):=PS.imp (C4 k j d f c g) (Jm λ_ _ _ h=>h)
end
noncomputable def VQ(T:Tgt)(fb:XS):List PV->ZH->Option LO
 | [],s=>aA (.nx s)
 | l::r,s=>(Xm T l s).bind λs1=>(fb s1).bind λo=>match o with | .nx s2=>VQ T fb r s2 | .ct s2=>VQ T fb r s2 | .bk s2=>aA (.nx s2) | .rt v=>aA (.rt v)
noncomputable def Xn(O:List Nat)(fi:XL)(T:Tgt)(fb:XS):XS:=λs=>(fi (YB O s)).bind λls=>VQ T fb ls s
theorem Rel.setAll{O:List Nat}{m H:Hp}:∀{is:List Nat}{ls:List PV}{vs:List V}{fs:List aL}{fps:Nat->List aL}{s:ZH}{σ:Rc},Rel K O m fps s σ H->Iss K H ls vs fs->ls.length=is.length->(∀i∈is,i∉O)->(∀i∈O,∀p∈fps i,p∉fs)->
  ∃k,Rel K O m k (VL.setAll is ls s) (YU is vs σ) H/\∀j,j∉is->(YU is vs σ)[j]?=σ[j]?/\Kep (k j) (fps j)
 | [],ls,vs,fs,fps,s,σ,r,_,_,_,_=>⟨fps,by unfold VL.setAll YU;exact r,λj _=>⟨by unfold YU;rfl,Kep.refl _⟩⟩
 | i::is,[],vs,fs,fps,s,σ,r,_,hl,_,_=>by simp at hl
 | i::is,l::ls,vs,fs,fps,s,σ,r,hi,hl,hO,hd=>by
  obtain⟨x,v,f1,f2,rfl,t,n,rfl⟩:=hi.inv;have g:=hO i aZ
  have o:=r.set (i:=i) t (λz=>absurd z g) λj f c p h z=>by
   rcases c with c | c
   ·exact hd j c p z (b6 _ h)
   ·exact absurd c g
  obtain⟨k,u,q⟩:=Rel.setAll (is:=is) o n (by simpa using hl) (λj f=>hO j (aT _ f)) λj f p h z=>by have d:j≠i:=λe=>g (by rw[<-e];exact f);rw[ZV d] at h;exact hd j f p h (af _ z)
  refine⟨k,u,λj f=>?_⟩;have d:j≠i:=λe=>f (e▸aZ);obtain⟨a,b⟩:=q j (λz=>f (aT _ z));exact⟨a.trans (by rw[au,ku (aw d)]),b.trans (.inl (ZV d))⟩
section
variable {O W:List Nat} {T:Tgt} {fb:XS}
theorem Gw{G:Hp}{fps:Nat->List aL}{s:ZH}{I:Rc}{D:Y3}{J:It}{ls:List PV}{u:LO}(r:Rel K O (VP G (Ow O fps)) fps s I G)(F:JIs K (Ow O fps) G J ls)(e:VQ T fb ls s=aA u)(hT:∀i∈T.slots,i∉O)
  (k:OutOk K O (T.slots++W) (VP G (Ow O fps)) fps I D u):Zb8 (gT K T) (As K O W fb) D I J G:=by
 have w:∀j,j∉T.slots++W->j∉T.slots:=λj a z=>a (b6 _ z);have d:∀j,j∉T.slots++W->j∉W:=λj a z=>a (af _ z)
 refine⟨λi m g H=>m=ls.length-i/\i<=ls.length/\∃U Z,Rel K O (VP G (Ow O fps)) U Z g H/\VQ T fb (ls.drop i) Z=aA u/\∀j,j∉T.slots++W->g[j]?=I[j]?/\Kep (U j) (fps j),
  ⟨ls.length,by simp,cP _,fps,s,r,e,λj _=>⟨rfl,Kep.refl _⟩⟩,?_⟩
 rintro i m g H ⟨rfl,hi,U,Z,S,t,X⟩;have ab:=λb o h n=>S.same b o (by unfold VP;rw[ku n];exact h)
 cases q:ls.drop i with
 | nil=>
  have Y:i=ls.length:=by have:=congrArg gL q;simp at this;omega
  subst Y;rw[q] at t;cases t;exact .inl ⟨F.stop H ab,k U g H S X⟩
 | cons l rr=>
  obtain⟨hl,hr⟩:=Qv q;have N:=(aU.mp hl).1;rw[q] at t;obtain⟨sb,eb,t⟩:=Ze t;obtain⟨o,eo,t⟩:=Ze t
  refine .inr ⟨F.go H i l ab hl,λE R=>∃fps2 s2,Rel K O (VP G (Ow O fps)) fps2 s2 E R/\VQ T fb (ls.drop (i+1)) s2=aA u/\∀j,j∉T.slots++W->E[j]?=I[j]?/\Kep (fps2 j) (fps j),
   λE R h2=>⟨ls.length-(i+1),by omega,rfl,N,h2⟩,λx R y=>?_⟩
  obtain⟨s2,fx,ix,nx⟩:=F.yld H i l x R ab hl y;obtain⟨bl,bv,bf,rfl,bi,L,M,Q⟩:=LN ix eb;obtain⟨A,r3,q3⟩:=Rel.setAll (S.grow s2) bi L hT λj a p hp z=>by obtain⟨n1,n2⟩:=nx p (M p z);have:=(S.own j a p hp).1;unfold VP at this;rw[ku n2] at this;exact n1 this
  refine Q _ _ ⟨_,A,_,o,r3,eo,?_⟩;have c:∀j,j∉T.slots++W->(YU T.slots bv g)[j]?=I[j]?/\Kep (A j) (fps j):=λj a=>⟨(q3 j (w j a)).1.trans (X j a).1,(q3 j (w j a)).2.trans (X j a).2⟩
  cases o with
  | nx s4=>exact λf C H4 P B=>⟨f,s4,P,by rw[hr];exact t,λj a=>⟨(B j (d j a)).1.trans (c j a).1,(B j (d j a)).2.trans (c j a).2⟩⟩
  | ct s4=>exact λf C H4 P B=>⟨f,s4,P,by rw[hr];exact t,λj a=>⟨(B j (d j a)).1.trans (c j a).1,(B j (d j a)).2.trans (c j a).2⟩⟩
  | bk s4=>
   cases t;exact λf C H4 P B=>k f C H4 P λj a=>⟨(B j (d j a)).1.trans (c j a).1,(B j (d j a)).2.trans (c j a).2⟩
  | rt v=>
   cases t;exact k
end
section
variable {X:Cx} {O W:List Nat} {tg iter:av} {body:List bb} {fi:XL} {T:Tgt} {fb:XS} {pos:el}
theorem BP(d:jJ (model X.prog X.w) X.A X.env X.xe)(l:X.calm=aC)(h:VI X tg iter fi)(b:PG X tg (gT X.K T))(m:Hw X O W body fb)(j:∀i∈T.slots,i∉O:=by decide)
  (f:∀x,b7 iter X.env x=pure x:=by intro _;rfl):VS X O (T.slots++W) (.For tg iter body [] pos) (Xn O fi T fb):=PS.imp (C7 d l h b m f) λD o H ⟨n,fps,s,g,r,e,k⟩=>by
 obtain⟨ls,c,e⟩:=Ze e;refine⟨Ow O fps,YB O s,ls,r.owMut,r.envO,c,λJ p s1 a=>?_⟩;exact Gw (r.grow s1).frame a e j (k.less (r.grow s1).under)
end
noncomputable def YC(c:XT)(fb:XS):Nat->ZH->Option LO
 | 0,_=>none
 | n+1,s=>(c s).bind λk=>if k=aC then(fb s).bind λo=>match o with | .nx s2=>YC c fb n s2 | .ct s2=>YC c fb n s2 | .bk s2=>aA (.nx s2) | .rt v=>aA (.rt v) else aA (.nx s)
theorem V1{c:XT}{fb:XS}:∀{n:Nat}{s:ZH}{o:LO},YC c fb n s=aA o->YC c fb (n+1) s=aA o
 | 0,_,_,h=>by cases h
 | n+1,s,o,h=>by
  unfold YC at h ⊢;obtain⟨k,a,h⟩:=Ze h;rw[a]
  cases k with
  | false=>exact h
  | true=>
   rw[kr rfl] at h;obtain⟨b,d,h⟩:=Ze h;simp only[aV,if_true,d]
   cases b with
   | nx s2=>exact V1 h
   | ct s2=>exact V1 h
   | bk s2=>exact h
   | rt v=>exact h
theorem Of{c:XT}{fb:XS}{n m:Nat}{s:ZH}{o:LO}(h:YC c fb n s=aA o)(a:n<=m):YC c fb m s=aA o:=by
 induction m with
 | zero=>
  have:n=0:=by omega
  subst this;exact h
 | succ m ih=>
  by_cases e:n=m+1
  ·subst e;exact h
  ·exact V1 (ih (by omega))
open Classical in
noncomputable def Xz(c:XT)(fb:XS):XS:=λs=>if h:∃n,(YC c fb n s).isSome=aC then YC c fb h.choose s else none
theorem Og{c:XT}{fb:XS}{n:Nat}{s:ZH}{o:LO}(h:YC c fb n s=aA o):Xz c fb s=aA o:=by
 have b:∃n,(YC c fb n s).isSome=aC:=⟨n,by rw[h];rfl⟩;unfold Xz;rw[dif_pos b];obtain⟨d,e⟩:=bq.mp b.choose_spec;rw[e];rcases Nat.le_total n b.choose with a | a
 ·rw[Of h a] at e;exact e.symm
 ·rw[Of e a] at h;exact h
section
variable {X:Cx} {O W:List Nat} {c:av} {body:List bb} {fc:XT} {fb:XS} {pos:el}
theorem V2(I:jJ (model X.prog X.w) X.A X.env X.xe)(L:VT X c fc)(M:Hw X O W body fb):VS X O W (.While c body [] pos) (Xz fc fb):=PS.imp (HG I L M) λD E H ⟨y,fps,s,t,r,e,k⟩=>by
 unfold Xz at e;split at e
 case isFalse=>cases e
 rename_i J;generalize J.choose=n at e;refine⟨λm g C=>∃w q,Rel X.K O y w q g C/\YC fc fb m q=aA t/\∀j,j∉W->g[j]?=E[j]?/\Kep (w j) (fps j),⟨n,fps,s,r,e,λj _=>⟨rfl,Kep.refl _⟩⟩,?_⟩;rintro m g C ⟨w,q,A,f,i⟩
 cases m with
 | zero=>cases f
 | succ m=>
  obtain⟨b,G,f⟩:=Ze f;refine⟨λ_=>False,q,b,λ_ z=>z.elim,A.env,G,λx s2=>?_⟩
  cases b with
  | false=>
   cases f;exact k w g x (A.grow s2) i
  | true=>
   obtain⟨o,F,f⟩:=Ze f;refine⟨λp x=>∃fps2 s2,Rel X.K O y fps2 s2 p x/\YC fc fb m s2=aA t/\∀j,j∉W->p[j]?=E[j]?/\Kep (fps2 j) (fps j),λp x N=>⟨m,gF m,N⟩,y,w,q,o,A.grow s2,F,?_⟩
   cases o with
   | nx s4=>exact λa l B u h=>⟨a,s4,u,f,λj d=>⟨(h j d).1.trans (i j d).1,(h j d).2.trans (i j d).2⟩⟩
   | ct s4=>exact λa l B u h=>⟨a,s4,u,f,λj d=>⟨(h j d).1.trans (i j d).1,(h j d).2.trans (i j d).2⟩⟩
   | bk s4=>
    cases f;exact λa l B u h=>k a l B u λj d=>⟨(h j d).1.trans (i j d).1,(h j d).2.trans (i j d).2⟩
   | rt v=>cases f;exact k
end
end VL
namespace VL
open PySem PySem.Spec PyProof.Rows L2
variable {K:aD}
section
variable {O:List Nat} {H0 H H':Hp} {fps:Nat->List aL} {s:ZH} {σ:Rc}
theorem Rel.lst_at(r:Rel K O H0 fps s σ H){i:Nat}(j:i∈O){m:List PV}(e:s[i]?=aA (aA (.lst m))):∃p d c,σ[i]?=aA (aA (.ref p))/\H p=aA (.lst d)/\Iss K H m d c/\fps i=p::c:=by obtain⟨v,a,b⟩:=r.is i _ e;obtain⟨p,d,c,rfl,g,f,h⟩:=b.lst_inv;exact⟨p,d,c,a,g,f,h⟩
theorem Sd{b:Type}{l:List b}{i:Nat}{a:b}(h:l[i]?=aA a):i<l.length:=(aU.mp h).1
theorem TK.upd'{p:aL}{o:HO}(a:UG (H p)):EL H (L2.upd H p o):=⟨λb c h=>by
 rw[upd_ne (λz=>by rw[z] at h;rw[h] at a;exact a)];exact h,λb o c h=>by
 rw[upd_ne (λz=>by rw[z] at h;rw[h] at a;exact a)];exact h,λb o x h=>by
 rw[upd_ne (λz=>by rw[z] at h;rw[h] at a;exact a)];exact h⟩
theorem RdK.upd_ne{p q:aL}{o:HO}(ne:q≠p):RdK H (L2.upd H p o) q:=RdK.of λu a=>by rw[L2.upd_ne ne];exact a
theorem Rel.relist(r:Rel K O H0 fps s σ H){i:Nat}(c:i∈O){m k:List PV}(e:s[i]?=aA (aA (.lst m))){p:aL}{l b:List aL}{d:List V}(g:fps i=p::l)(v:σ[i]?=aA (aA (.ref p)))
  (w:Iss K H k d b) (o:(p::b).Nodup) (t:∀q∈b,q∈l\/((H0 q=none/\UG (H q))/\∀j,q∉fps j)):Rel K O H0 (Ts fps s.length i (p::b)) (s.set i (aA (.lst k))) σ (L2.upd H p (.lst d)):=by
 have f:p∈fps i:=by rw[g];exact aZ
 have x:=(r.own i c p f).2;have n:=(bN.mp o).1;refine r.mutate c f v (Sd e) (Is.lst Zt (Iss.tr (TK.upd' x) _ _ _ (λq a=>RdK.upd_ne λz=>n (z▸a)) w)) o (λq a=>?_) (λj u q a z=>?_) cz
 ·rcases a9.mp a with rfl | a
  ·exact⟨(r.own i c q f).1,by rw[Zt];exact cz⟩
  ·have ne:q≠p:=λz=>n (z▸a);rw[L2.upd_ne ne];rcases t q a with h | h
   ·exact r.own i c q (by rw[g];exact aT _ h)
   ·exact h.1
 ·rcases a9.mp a with rfl | a
  ·exact r.dis i c j u q f z
  ·rcases t q a with h | h
   ·exact r.dis i c j u q (by rw[g];exact aT _ h) z
   ·exact h.2 j z
end
noncomputable def Iu(s:ZH)(i:Nat):Option (List PV):=match s[i]? with | some (aA (.lst m))=>aA m | _=>none
noncomputable def Hx:PV->Option Int
 | .int k=>aA k
 | _=>none
noncomputable def asL:PV->Option (List PV)
 | .lst k=>aA k
 | _=>none
theorem Tt{s:ZH}{i:Nat}{m:List PV}(h:Iu s i=aA m):s[i]?=aA (aA (.lst m)):=by
 unfold Iu at h;split at h
 ·cases h;assumption
 ·cases h
theorem Tu{a:PV}{k:Int}(h:Hx a=aA k):a = .int k:=by
 unfold Hx at h;split at h
 ·cases h;rfl
 ·cases h
theorem Gx{a:PV}{k:List PV}(h:asL a=aA k):a = .lst k:=by
 unfold asL at h;split at h
 ·cases h;rfl
 ·cases h
noncomputable def gd(c:Bool):Option Unit:=if c=aC then aA () else none
theorem RK{c:Bool}{u:Unit}(h:gd c=aA u):c=aC:=by
 unfold gd at h;split at h
 ·assumption
 ·cases h
noncomputable def WE(i:Nat)(f:XE):XS:=λs=>(f s).bind λl=>(Iu s i).bind λm=>(gd (decide (m.length<=10000))).bind λ_=>aA (.nx (s.set i (aA (.lst (m++[l])))))
noncomputable def Vs(i:Nat)(fk:XE)(f:XE):XS:=λs=>(fk s).bind λk=>(f s).bind λl=>(Hx k).bind λk=>(Iu s i).bind λm=>(gd (ZL m&&Yb l&&decide (0<=k/\k<=1000000/\m.length<=10000))).bind λ_=>aA (.nx (s.set i (aA (.lst (m.take k.toNat++l::m.drop k.toNat)))))
noncomputable def Xo(i:Nat)(fk:XE)(f:XE):XS:=λs=>(f s).bind λl=>(fk s).bind λk=>(Hx k).bind λk=>(Iu s i).bind λm=>(gd (ZL m&&Yb l)).bind λ_=>(Md m.length k).map λj=>.nx (s.set i (aA (.lst (m.set j l))))
section
variable {X:Cx} {O:List Nat} {i:Nat} {st:bb} {f fk:XE}
theorem tyL{H:Hp}{p:aL}{a:List V}(h:H p=aA (.lst a)):tyV K "list" (.ref p) H:=.inl ⟨rfl,_,SqL.of h⟩
theorem Jn{s:ZH}{a:Rc}{fps:Nat->List aL}{b:List aL}:∀j,j∉[i]->a[j]?=a[j]?/\Kep (Ts fps s.length i b j) (fps j):=λj c=>⟨rfl,.inl (ZV (by simpa using c))⟩
theorem Oh(h:PS X st (K6 (tBM X.K "list" Jb (Pq i) (Qc (tM X.K f) Er))))(g:i∈O:=by decide):VS X O [i] st (WE i f):=PS.imp h λD Q H ⟨M,fps,s,B,r,e,k⟩=>by
 obtain⟨l,A,e⟩:=Ze e;obtain⟨m,c,e⟩:=Ze e;obtain⟨_,E,e⟩:=Ze e;have c:=Tt c;have v:=of_decide_eq_true (RK E);cases e;obtain⟨p,L,P,u,t,x,d⟩:=r.lst_at g c;refine⟨.ref p,u,tyL t,s,l,r.env,A,λy N R s2 C I n=>?_⟩;refine⟨p,L,y,rfl,rfl,s2 _ _ t,by rw[x.len];exact lt_size (by omega),?_⟩;have F:=r.grow s2;have fr:=λq o j z=>r.dom j q z (n q o).1;refine k _ _ _ (F.relist g c d u ((x.mono s2).append (Iss.one C)) ?_ λq o=>?_) Jn
 ·have w:=r.nd i g;rw[d] at w;exact eZ.mpr ⟨w,I,λa G b J z=>fr b J i (by rw[d,<-z];exact G)⟩
 ·rcases bg.mp o with h | h
  ·exact .inl h
  ·exact .inr ⟨⟨Same.off r.same (n q h).1,(n q h).2⟩,fr q h⟩
theorem Iss.pureEq{H:Hp}{l:List PV}{a:List V}{b:List aL}(h:Iss K H l a b)(c:ZL l=aC):Iss K H l a []:=by have:=Iss.pure _ _ _ c h;subst this;exact h
theorem LP{l:List PV}(n:Nat)(h:ZL l=aC):ZL (l.take n)=aC:=by rw[Xx,ao] at *;exact λx a=>h x (gO a)
theorem LQ{l:List PV}(n:Nat)(h:ZL l=aC):ZL (l.drop n)=aC:=by rw[Xx,ao] at *;exact λx a=>h x (List.mem_of_mem_drop a)
theorem Oi(h:PS X st (K6 (tBM X.K "list" Jc (Pq i) (Qc (tF X.K fk) (Qc (tF X.K f) Er)))))(w:i∈O:=by decide):VS X O [i] st (Vs i fk f):=PS.imp h λD U H ⟨Q,fps,s,F,r,e,k⟩=>by obtain⟨kk,x,e⟩:=Ze e;obtain⟨l,C,e⟩:=Ze e;obtain⟨n,J,e⟩:=Ze e;obtain⟨m,c,e⟩:=Ze e;obtain⟨_,L,e⟩:=Ze e;rw[Tu J] at x;have c:=Tt c;have B:=RK L;simp only[bX,decide_eq_true_eq] at B;obtain⟨⟨g,P⟩,I,T,v⟩:=B;cases e;obtain⟨p,N,S,t,o,A,E⟩:=r.lst_at w c;refine⟨.ref p,t,tyL o,λ_=>False,s,_,λ_ z=>z.elim,r.env,x,λz Z Y s1 G _=>⟨λ_=>False,s,l,λ_ z=>z.elim,r.env.mono s1,C,λy R W s2 u _=>?_⟩⟩;have a:=s1.trans s2;obtain⟨rfl,_⟩:=G.int_inv;have:=Is.pure _ _ _ P u;subst this;refine⟨p,N,n,y,rfl,rfl,a _ _ o,I,by omega,by rw[A.len];exact lt_size (by omega),?_⟩;have b:=(A.mono a).pureEq g;obtain⟨f1,d,_⟩:=b.take n.toNat;obtain⟨f2,j,_⟩:=b.drop n.toNat;have d:=d.pureEq (LP _ g);have j:=j.pureEq (LQ _ g);exact k _ _ _ ((r.grow a).relist w c E t (d.append (Iss.cons u j)) (by simp) λq M=>by simp at M) Jn
theorem XU(h:PS X st (Ll (tF X.K f) (C3 (Pq i) (tF X.K fk) HQ)))(o:i∈O:=by decide):VS X O [i] st (Xo i fk f):=PS.imp h λD R H ⟨M,fps,s,B,r,e,k⟩=>by obtain⟨l,G,e⟩:=Ze e;obtain⟨kk,c,e⟩:=Ze e;obtain⟨L,E,e⟩:=Ze e;obtain⟨m,b,e⟩:=Ze e;obtain⟨_,F,e⟩:=Ze e;rw[Tu E] at c;have b:=Tt b;have u:=RK F;simp only[bX] at u;obtain⟨n,v⟩:=u;obtain⟨j,A,rfl⟩:=map_some e;obtain⟨p,J,P,d,w,t,x⟩:=r.lst_at o b;refine⟨λ_=>False,s,l,λ_ z=>z.elim,r.env,G,λy T Q s1 g _=>?_⟩;refine⟨.ref p,d,λ_=>False,s,_,λ_ z=>z.elim,r.env.mono s1,c,λz N S s2 C _=>?_⟩;have a:=s1.trans s2;obtain⟨rfl,_⟩:=C.int_inv;have:=Is.pure _ _ _ v g;subst this;refine⟨p,J,L,j,rfl,rfl,a _ _ w,by rw[t.len];exact A,?_⟩;exact k _ _ _ ((r.grow a).relist o b x d (Iss.setP j n v ((t.mono a).pureEq n) (g.mono s2)) (by simp) λq I=>by simp at I) Jn
end
theorem Iss.setRow{H:Hp}{o:List V}:∀{m:List PV}{xs:List V}{fq:List aL}{j:Nat}{n n':List PV}{q:aL},Iss K H m xs fq->m[j]?=aA (.lst n)->xs[j]?=aA (.ref q)->fq.Nodup->UG (H q)->ZL n=aC->Iss K (L2.upd H q (.lst o)) n' o []->
  Iss K (L2.upd H q (.lst o)) (m.set j (.lst n')) xs fq
 | [],_,_,_,_,_,_,_,e,_,_,_,_,_=>by simp at e
 | a::m,xs,fq,0,n,n',q,h,e,ex,nd,mu,pn,h'=>by obtain⟨x,r,f1,f2,rfl,k,d,rfl⟩:=h.inv;simp at e ex;subst e ex;obtain⟨v,p,s,e,A,b,rfl⟩:=k.lst_inv;cases e;have:=Iss.pure _ _ _ pn b;subst this;have i:q∉f2:=(bN.mp nd).1;exact Iss.cons (Is.lst Zt h') (Iss.tr (TK.upd' mu) _ _ _ (λz b=>RdK.upd_ne λe=>i (e▸b)) d)
 | a::m,xs,fq,j+1,n,n',q,h,e,ex,nd,mu,pn,h'=>by obtain⟨x,r,f1,f2,rfl,k,d,rfl⟩:=h.inv;simp at e ex;obtain⟨u,f,g⟩:=eZ.mp nd;obtain⟨y,B,l,t,c⟩:=d.get e;rw[ex] at l;cases l;obtain⟨v,p,s,w,_,_,rfl⟩:=t.lst_inv;cases w;have i:q∉f1:=λz=>g q z q (c q aZ) rfl;exact Iss.cons (Is.tr (TK.upd' mu) _ _ _ (λz b=>RdK.upd_ne λe=>i (e▸b)) k) (Iss.setRow d e ex f mu pn h')
noncomputable def Vt(i:Nat)(fa fb:XE)(f:XE):XS:=λs=>(f s).bind λl=>(fa s).bind λa=>(fb s).bind λb=>(Hx a).bind λa=>(Hx b).bind λb=>(Iu s i).bind λm=>(Md m.length a).bind λj=>(m[j]?).bind λr=>(asL r).bind λn=>
 (gd (ZL n&&Yb l)).bind λ_=>(Md n.length b).map λc=>.nx (s.set i (aA (.lst (m.set j (.lst (n.set c l))))))
end VL
namespace VL
open PySem PySem.Spec PyProof.Rows L2
variable {K:aD}
section
variable {X:Cx} {a b c d:av} {fa fb fc fd:XE} {pos:el}
theorem Co(c:X.A.units+64<fU)(e:VE X a fa)(d:VE X b fb):VE X (.Compare a [.Eq] [b] pos) (Zi (Wg aB) fa fb):=HZ (Gq c) (OY aB) e d (TY _)
theorem Cp(c:X.A.units+64<fU)(e:VE X a fa)(d:VE X b fb):VE X (.Compare a [.NotEq] [b] pos) (Zi (Wg aC) fa fb):=HZ (Gr c) (OY aC) e d (TY _)
theorem Rj(c:X.A.units+64<fU)(e:VE X a fa)(d:VE X b fb):VT X (.Compare a [.Eq] [b] pos) (xB (Zi (Wg aB) fa fb)):=T7 (Gq c) (OY aB) e d (TY _)
theorem Oj(c:X.A.units+64<fU)(e:VE X a fa)(d:VE X b fb):VT X (.Compare a [.NotEq] [b] pos) (xB (Zi (Wg aC) fa fb)):=T7 (Gr c) (OY aC) e d (TY _)
theorem Zah(d:X.A.units+64<fU)(f:VE X a fa)(e:VE X b fb)(c:cY .In b=aB:=by with_unfolding_all rfl):VT X (.Compare a [.In] [b] pos) (xB (Zi (Im aB) fa fb)):=T7 (BM d) (Gs aB) f e c
theorem Gy(d:X.A.units+64<fU)(f:VE X a fa)(e:VE X b fb)(c:cY .NotIn b=aB:=by with_unfolding_all rfl):VT X (.Compare a [.NotIn] [b] pos) (xB (Zi (Im aC) fa fb)):=T7 (Il d) (Gs aC) f e c
noncomputable def blO:PV->Option Bool
 | .bl c=>aA c
 | _=>none
end
section
variable {X:Cx} {a b:av} {fa fb:XE} {pos:el}
noncomputable def gCat:PV->PV->Option PV
 | .lst m,.lst n=>if m.length+n.length<=10000 then aA (.lst (m++n)) else none
 | _,_=>none
noncomputable def Qx:PV->PV->Option PV
 | .lst m,.lst n=>if m.length+n.length<=10000/\ZL m=aC/\ZL n=aC then aA (.lst (m++n)) else none
 | _,_=>none
theorem O4(B:VE X a fa)(E:VE X b fb):VM X (.BinOp a .Add b pos) (Zi Qx fa fb):=PE.imp (HI Bq B E) λL H Q ⟨s,l,env,e,k⟩=>by
 obtain⟨h,j,o,C,e⟩:=Qk e;refine⟨λ_=>False,s,h,λ_ z=>z.elim,env,o,λx M f1 s1 w _=>⟨λ_=>False,s,j,λ_ z=>z.elim,env.mono s1,C,λy I f2 s2 A _=>?_⟩⟩
 cases h with
 | lst m=>cases j with
  | lst n=>
   have e:(if m.length+n.length<=10000/\ZL m=aC/\ZL n=aC then aA (PV.lst (m++n)) else none)=aA l:=e;split at e
   case isFalse=>cases e
   rename_i f;cases e;obtain⟨p,F,J,rfl,u,i,rfl⟩:=w.lst_inv;obtain⟨D,G,t,rfl,d,c,rfl⟩:=A.lst_inv;refine⟨p,D,F,G,rfl,rfl,s2 _ _ u,d,by rw[i.len,c.len];exact cS (lt_size f.1),λq g=>?_⟩;refine k _ _ [q] (s1.trans (s2.trans (Same.new g _))) (Is.lst Zt ((((i.mono s2).pureEq f.2.1).append (c.pureEq f.2.2)).mono (Same.new g _))) (by simp) λr v=>?_;rw[ag.mp v];exact⟨Same.off (s1.trans s2) g,by rw[Zt];exact cz⟩
  | _=>cases e
 | _=>cases e
noncomputable def Mv:PV->PV->Option PV
 | .lst m,.int k=>if ZL m=aC/\-1000000<=k/\k<=1000000/\m.length*k.toNat<=10000 then aA (.lst (aX k.toNat m).flatten) else none
 | _,_=>none
theorem Iss.rep{H:Hp}{m:List PV}{a:List V}(h:Iss K H m a []):∀k:Nat,Iss K H (aX k m).flatten (aX k a).flatten []
 | 0=>Iss.nil
 | k+1=>by rw[dO,dO,eV,eV];exact h.append (Iss.rep h k)
theorem Gz(v:VE X a fa)(A:VE X b fb):VM X (.BinOp a .Mult b pos) (Zi Mv fa fb):=PE.imp (HI Br v A) λE H Q ⟨s,l,env,e,k⟩=>by
 obtain⟨d,h,i,w,e⟩:=Qk e;refine⟨λ_=>False,s,d,λ_ z=>z.elim,env,i,λx F f1 s1 t _=>⟨λ_=>False,s,h,λ_ z=>z.elim,env.mono s1,w,λy C f2 s2 u _=>?_⟩⟩
 cases d with
 | lst m=>cases h with
  | int n=>
   have e:(if ZL m=aC/\-1000000<=n/\n<=1000000/\m.length*n.toNat<=10000 then aA (PV.lst (aX n.toNat m).flatten) else none)=aA l:=e;split at e
   case isFalse=>cases e
   rename_i g;cases e;obtain⟨p,B,D,rfl,j,f,rfl⟩:=t.lst_inv;refine⟨p,n,B,rfl,u.int_inv.1,s2 _ _ j,by omega,by omega,by rw[f.len];exact cS (lt_size g.2.2.2),λq c=>?_⟩;refine k _ _ [q] (s1.trans (s2.trans (Same.new c _))) (Is.lst Zt ((Iss.rep ((f.mono s2).pureEq g.1) n.toNat).mono (Same.new c _))) (by simp) λr o=>?_;rw[ag.mp o];exact⟨Same.off (s1.trans s2) c,by rw[Zt];exact cz⟩
  | _=>cases e
 | _=>cases e
end
theorem Iss.fps{H:Hp}:∀{ls:List PV}{vs:List V}{fp:List aL},Iss K H ls vs fp->∃fps:Nat->List aL,(∀(i:Nat) l,ls[i]?=aA l->∃v,vs[i]?=aA v/\Is K H l v (fps i))/\∀i,ls.length<=i->fps i=[]
 | [],vs,fp,h=>⟨λ_=>[],λi l e=>by simp at e,λ_ _=>rfl⟩
 | a::ls,vs,fp,h=>by
  obtain⟨x,r,f1,f2,rfl,d,g,rfl⟩:=h.inv;obtain⟨fps,f,p2⟩:=g.fps;refine⟨λi=>match i with | 0=>f1 | k+1=>fps k,λi l e=>?_,λi c=>?_⟩
  ·cases i with
   | zero=>simp at e;subst e;exact⟨x,rfl,d⟩
   | succ k=>
    obtain⟨v,a,b⟩:=f k l (by simpa using e);exact⟨v,by simpa using a,b⟩
  ·cases i with
   | zero=>simp at c
   | succ k=>exact p2 k (by simpa using c)
noncomputable def ZN(m:Nat)(ls:List PV):ZH:=ls.map aA++aX (m-ls.length) none
noncomputable def V3:LO->Option PV
 | .rt v=>aA v
 | .nx _=>aA .non
 | _=>none
noncomputable def Yz(m:Nat)(f:XS):List PV->Option PV:=λls=>(f (ZN m ls)).bind V3
theorem Jo{N:List ak}{n:Nat}{O W:List Nat}{f:XS}{vs:List V}{H:Hp}{Q:VK}{E:XK}(u:∀i∈O,n<=i)(h:Y5 K (Yz N.length f) n vs H Q E):As K O W f { nx:=λ_ o=>Q .non o,rt:=Q } (L2.start N vs) H:=by
 obtain⟨J,ls,y,l,g,e,q⟩:=h;obtain⟨r,C,t⟩:=Ze e;obtain⟨fps,F,p2⟩:=g.fps;have k:=g.len
 have s:∀i:Nat,ls.length<=i->∀l,(ZN N.length ls)[i]?≠aA (aA l):=λi g l z=>by
  unfold ZN at z;rw[bJ (by simpa using g),ba] at z;split at z<;>cases z
 have w:Rel K O H fps (ZN N.length ls) (L2.start N vs) H:=by
  refine⟨Same.refl H,?_,λi a z=>?_,λi x=>?_,λi g=>?_,λi g p m=>?_,λi g j M p m=>?_⟩
  ·unfold ZN L2.start;simp[k]
  ·by_cases c:i<ls.length
   ·unfold ZN at z;rw[ah (by simpa using c),aW] at z
    cases q:ls[i]? with
    | none=>rw[q] at z;cases z
    | some b=>
     rw[q] at z;cases z;obtain⟨v,D,A⟩:=F i a q;refine⟨v,?_,A⟩;unfold L2.start;rw[ah (by simpa [k] using c),aW,D];rfl
   ·exact absurd z (s i (by omega) a)
  ·by_cases c:i<ls.length
   ·exact absurd (by unfold ZN;rw[ah (by simpa using c),aW,aI c];rfl) (x ls[i])
   ·exact p2 i (by omega)
  ·rw[p2 i (by have:=u i g;omega)];exact dF
  ·rw[p2 i (by have:=u i g;omega)] at m;simp at m
  ·rw[p2 i (by have:=u i g;omega)] at m;simp at m
 refine⟨H,fps,ZN N.length ls,r,w,C,?_⟩
 cases r with
 | nx s'=>
  cases t;exact λL B o G _=>q .non o [] G.same Is.non dF λp m=>by simp at m
 | rt v=>
  cases t;exact λv y o I i d n=>q v o y I i d n
 | bk s'=>cases t
 | ct s'=>cases t
section
variable {P:bW} {w:cN} {mg:ak->Option aH} {base:b9}
theorem O5{x:ak}{st:bb}{N d:List ak}{k n:Nat}{O W:List Nat}(m:Nat)(f:XS)(D:Def K mg x st)(S:Zm N d (Zf st))
  (p:∀(kV doc pm:aH)(an:Option aL)(b ct:aH)(us:List aH),us.length=d.length->iG (ck x x (XH st) (Yu st) (Zf st) .none kV doc pm an b ct) ⟨us,[]⟩=pure (d.zip us))
  (g:d.length=n) (o:N.length=m) (l:∀i∈O,n<=i)
  (c:∀(e:aL)(b:aH)(A:cH)(a:List ju)(s:aN)(H:Hp)(E:XK),Room k (A.deeper (gE x (Zf st) s.heap.objs.size e b))->Hw (Qd Lw P w K mg base N x (Zf st) e b A a s H E).nox O W (Yu st) f) :
  Xi P w K mg base x d (Y5 K (Yz m f) n) (k+1):=by
 subst o;refine D.cal S p (λvs H Q E h=>by rw[g];exact h.1) λe b A a s H vs Q E j h=>⟨_,c e b A a s H E j,Jo l h⟩
end
end VL
namespace VL
open PySem PySem.Spec PyProof.Rows L2
variable {K:aD}
section
variable {X:Cx} {O:List Nat} {tg ko iter:av} {kj:List av} {scope:dP} {pos:el} {fi:XL} {T:Tgt} {ft:XT} {fe:XE}
theorem RL(own fr:List ak)(ix:List Nat){i:Nat}{y:ak}{f b:el}(o:X.N.Nodup)(l:X.N[i]?=aA y)(d:X.env.scope.names.lookup y=aA .local)(c:X.calm=aC)(m:VI X tg iter fi)(S:VV X.N X.env.scope scope own fr ix=aC)
  (g:∀cl C s H a,PG (ZI X (own++fr) scope cl C s H a) tg (gT X.K T)) (h:∀cl C s H a,Ar (ZI X (own++fr) scope cl C s H a) kj ft) (j:∀cl C s H a,VM (ZI X (own++fr) scope cl C s H a) ko fe)
  (n:∀i∈T.slots,i<own.length:=by decide)
  (e:g7 (.ListComp ko [⟨tg,iter,kj,0⟩] scope pos) (aA (.Name y f)) b.line X.env=pure aC:=by rfl)
  (k:∀x,b7 iter X.env x=pure x:=by intro _;rfl):VS X O [i] (.Assign [.Name y f] (.ListComp ko [⟨tg,iter,kj,0⟩] scope pos) b) (Zq i (Zr own.length ix fi T ft fe)):=
 PS.imp (HX own fr ix o l d c m S g (λcl C s H a=>(show Lx (ZI X (own++fr) scope cl C s H a) kj (Ml X.K ft) from h cl C s H a)) (λcl C s H a=>(show PE (ZI X (own++fr) scope cl C s H a) ko (tM X.K fe) from j cl C s H a)) e k) (Jm (O1 n))
end
section
variable {P:bW} {w:cN} {mg:ak->Option aH} {base:b9}
theorem BQ{x:ak}{st:bb}{N e:List ak}{k n:Nat}{O W:List Nat}{d:aL}{g:du}(m:Nat)(f:XS)(F:Fun K x x st d g)(S:Zm N e (Zf st))
  (j:e.length=n) (p:N.length=m) (o:∀i∈O,n<=i)
  (c:∀(d:aL)(b:aH)(A:cH)(a:List ju)(s:aN)(H:Hp)(E:XK),Room k (A.deeper (gE x (Zf st) s.heap.objs.size d b))->Hw (Qd Lw P w K mg base N x (Zf st) d b A a s H E).nox O W (Yu st) f) :
  Ru P w K mg base Lw (k+1) d g e (Y5 K (Yz m f) n):=by
 subst p;refine F.ok S (λvs H Q E h=>by rw[j];exact h.1) λb A a s H vs Q E l h=>⟨_,c d b A a s H E l,?_⟩;exact Jo o h
theorem GA{st:bb}{x:ak}{D:List PV->Option PV}{k:Nat}{i:aL}(j:Def K mg "law" st)(g:mg "law" = aA (.ref i))
  (q:∀(kV b d:aH)(h:Option aL)(c ct u:aH),iG (ck "law" "law" (XH st) (Yu st) (Zf st) .none kV b d h c ct) ⟨[u],[]⟩=pure [(x,u)])
  (H:∀(base:b9)(f:aL)(a:du),K.In base->base.Ns cV mg->Fun K "law" "law" st f a->Ru P w K mg base Lw k f a [x] (Y5 K D 1)) :
  ∃a:du,(∀(s:aN)(u:aH),jd s a ⟨[u],[]⟩ [(x,u)])/\∀base:b9,K.In base->base.Ns cV mg->Ru P w K mg base Lw k i a [x] (Y5 K D 1):=by
 obtain⟨f,a,p,F⟩:=j.ex;have e:=g.symm.trans p;cases e;refine⟨a,?_,λbase n l=>H base i a n l F⟩;obtain⟨t,v,kV,b,d,h,c,ct,o,rfl,r,m⟩:=F.ex;exact λs u=>.of_eq (q kV b d h c ct u)
end
theorem BR{H:Hp}{a:aL}{b:List Int}{D:List PV->Option PV}{E:XK}(c:D [.cst (iL b)]=aA (.bl aC))(e:Bt H)(f:SqL K H a (b.map V.int)):Y5 K D 1 [.ref a] H (λv _=>v = .bl aC) E:=by
 have d:CsK K H a (b.map V.int):=by
  rcases f with h | h
  ·rcases h with h | ⟨o,h⟩
   ·rcases e a with z | ⟨o,k,z⟩
    ·rw[h] at z;cases z
    ·rw[h] at z;cases z
   ·exact .inl ⟨o,h⟩
  ·exact .inr h
 exact⟨rfl,[.cst (iL b)],[],.bl aC,Iss.one (Is.cst d (Iss.ofInts b)),c,λv g j _ i _ _=>i.bl_inv.1⟩
end VL
namespace VL
open PySem L2
noncomputable def BS(K:aD):Bool:=K.all λp=>match p.2.data with
 | .fields vs=>(match vs.toList with
  | _::.str n _::_=>!(J0 n)
  | _=>aC)
 | _=>aC
theorem noLam{K:aD}(g:BS K=aC):∀(q:ak)(c:aL),J0 q=aC->cZ K (.ref c) q=aC->False:=λq c h a=>by
 have a:(match K.lookup c with
   | some ⟨_,_,.fields vs,_⟩=>(match vs.toList with | _::.str n _::_=>n==q | _=>aB)
   | _=>aB)=aC:=a
 split at a
 ·rename_i k i vs j d;split at a
  ·rename_i y n t r b;have f:n=q:=beq_iff_eq.mp a;subst f;have e:=ao.mp g (c,_) (PySem.W.mem_of_lookupK d);simp only[b,h,Bool.not_true] at e;cases e
  ·cases a
 ·cases a
@[simp] theorem eVar_def(i:Nat)(s:ZH):Za i s=(s[i]?).join:=rfl
@[simp] theorem eC_def(l:PV)(s:ZH):eC l s=aA l:=rfl
@[simp] theorem Tv(g:PV->PV->Option PV)(a b:XE)(s:ZH):Zi g a b s=(a s).bind λx=>(b s).bind λy=>g x y:=rfl
@[simp] theorem eUn_def(g:PV->Option PV)(a:XE)(s:ZH):Gj g a s=(a s).bind g:=rfl
@[simp] theorem O6(f:XE)(s:ZH):eP f s=(f s).bind λl=>if Yb l=aC then aA l else none:=rfl
@[simp] theorem Jp(s:ZH):Qo [] s=aA []:=rfl
@[simp] theorem ZD(f:XE)(fs:List XE)(s:ZH):Qo (f::fs) s=(f s).bind λx=>(Qo fs s).map (x::·):=rfl
@[simp] theorem YH(D:List PV->Option PV)(fs:List XE)(s:ZH):Zc D fs s=(Qo fs s).bind D:=rfl
@[simp] theorem Mw(fs:List XE)(s:ZH):OV fs s=(Qo fs s).map .tup:=rfl
@[simp] theorem eLst_def(fs:List XE)(s:ZH):T8 fs s=(Qo fs s).map .lst:=rfl
@[simp] theorem Wh(g:PV->Option Int->Option Int->Option PV)(a:XE)(lo hi:XO)(s:ZH):RI g a lo hi s=(a s).bind λx=>(lo s).bind λl=>(hi s).bind λu=>g x l u:=rfl
@[simp] theorem RM(s:ZH):Lj s=aA none:=rfl
@[simp] theorem gI_ii(g:Int->Int->Int)(i j:Int):gI g (.int i) (.int j)=aA (.int (g i j)):=rfl
@[simp] theorem gB_ii(g:Int->Int->Bool)(i j:Int):gB g (.int i) (.int j)=aA (.bl (g i j)):=rfl
@[simp] theorem BU(C:Int->Int->Prop)[∀i j,Decidable (C i j)](g:Int->Int->Int)(i j:Int):Ij C g (.int i) (.int j)=if C i j then aA (.int (g i j)) else none:=rfl
@[simp] theorem gIx_ti(l:List PV)(i:Int):ZM (.tup l) (.int i)=S9 l i:=rfl
@[simp] theorem gIx_li(l:List PV)(i:Int):ZM (.lst l) (.int i)=S9 l i:=rfl
@[simp] theorem gIx_ci(l:List PV)(i:Int):ZM (.cst l) (.int i)=S9 l i:=rfl
@[simp] theorem O7(f:XE)(s:ZH):xB f s=(f s).bind blO:=by
 unfold xB
 cases f s with
 | none=>rfl
 | some a=>cases a<;>rfl
@[simp] theorem blO_bl(b:Bool):blO (.bl b)=aA b:=rfl
@[simp] theorem xAnd_def(a b:XT)(s:ZH):Qm a b s=(a s).bind λc=>if c=aC then b s else aA aB:=rfl
@[simp] theorem EZ(a b:XT)(s:ZH):ES a b s=(a s).bind λc=>if c=aC then aA aC else b s:=rfl
@[simp] theorem GB(a:XT)(s:ZH):Ik a s=(a s).map not:=rfl
@[simp] theorem GC(a b:XE)(s:ZH):OT a b s=(xB a s).bind λc=>if c=aC then b s else aA (.bl aB):=rfl
@[simp] theorem eOr_def(a b:XE)(s:ZH):eOr a b s=(xB a s).bind λc=>if c=aC then aA (.bl aC) else b s:=rfl
@[simp] theorem eNot_def(a:XE)(s:ZH):EU a s=(xB a s).map λc=>.bl !c:=rfl
@[simp] theorem O8(c:XT)(a b:XE)(s:ZH):Ge c a b s=(c s).bind λk=>if k=aC then a s else b s:=rfl
@[simp] theorem GD(neg:Bool)(a:XE)(s:ZH):Rx neg a s=(a s).bind (Gh neg):=rfl
@[simp] theorem sNext_def(s:ZH):YG s=aA (.nx s):=rfl
@[simp] theorem Mx(f g:XS)(s:ZH):Zp f g s=(f s).bind λo=>match o with | .nx s'=>g s' | r=>aA r:=rfl
@[simp] theorem Yv(c:XT)(f g:XS)(s:ZH):Rh c f g s=(c s).bind λk=>if k=aC then f s else g s:=rfl
@[simp] theorem GF(f:XE)(s:ZH):ZO f s=(f s).map .rt:=rfl
@[simp] theorem Yp(i:Nat)(f:XE)(s:ZH):Zq i f s=(f s).map λl=>.nx (s.set i (aA l)):=rfl
@[simp] theorem retO_rt(v:PV):V3 (.rt v)=aA v:=rfl
@[simp] theorem pureV_int(i:Int):Yb (.int i)=aC:=rfl
@[simp] theorem pureV_bl(i:Bool):Yb (.bl i)=aC:=rfl
@[simp] theorem pureV_str(i:ak):Yb (.str i)=aC:=rfl
@[simp] theorem pureV_non:Yb .non=aC:=rfl
@[simp] theorem Ur(l:List PV):Yb (.tup l)=ZL l:=by rw[Yb]
@[simp] theorem pureL_nil:ZL []=aC:=rfl
@[simp] theorem pureL_cons(a:PV)(l:List PV):ZL (a::l)=(Yb a&&ZL l):=rfl
theorem Iv{b:Type}{l:List b}{f:b->PV}(h:∀a∈l,Yb (f a)=aC):ZL (l.map f)=aC:=by rw[Xx,jm,ao];exact h
@[simp] theorem pureL_iL(l:List Int):ZL (l.map PV.int)=aC:=Yc l
abbrev pP(l:List Int):PV:=.tup (iL l)
abbrev wP(W:List (List Int)):PV:=.tup (W.map pP)
@[simp] theorem V4(W:List (List Int)):ZL (W.map pP)=aC:=Iv λa _=>by simp
theorem O9{l:List Int}{k:Nat}(h:k<l.length):(iL l)[k]?=aA (.int (Zn l k)):=by simp[Zn,aI h]
theorem Y1{l:List Int}{k:Nat}(h:k<l.length):S9 (iL l) (k:Int)=aA (.int (Zn l k)):=Vj (O9 h)
theorem Us{W:List (List Int)}{k:Nat}(h:k<W.length):S9 (W.map pP) (k:Int)=aA (pP (ZK W k)):=by refine Vj ?_;rw[aW,Mj h];rfl
@[simp] theorem gSum_t(l:List Int):VZ [.tup (l.map PV.int)]=aA (.int l.sum):=by simp[VZ,UX,Xf l]
@[simp] theorem Qy(l:List Int):VZ [.lst (l.map PV.int)]=aA (.int l.sum):=by simp[VZ,UX,Xf l]
@[simp] theorem BV(l:List Bool):LJ [.lst (l.map PV.bl)]=aA (.bl (l.all id)):=by simp[LJ,UX,WS l]
@[simp] theorem BW(l:List Bool):Gm [.lst (l.map PV.bl)]=aA (.bl (l.any id)):=by simp[Gm,UX,WS l]
@[simp] theorem BX(l:List PV):YF [.tup l]=aA (.int l.length):=rfl
@[simp] theorem LR(l:List PV):YF [.lst l]=aA (.int l.length):=rfl
@[simp] theorem gLen_c(l:List PV):YF [.cst l]=aA (.int l.length):=rfl
@[simp] theorem Yy(l:List PV):ZP [.lst l]=aA (.tup l):=rfl
@[simp] theorem gTuple_t(l:List PV):ZP [.tup l]=aA (.tup l):=rfl
@[simp] theorem Tw(l:List PV):WR [.tup l]=if ZL l=aC then aA (.lst l) else none:=rfl
@[simp] theorem Qz(l:List PV):WR [.lst l]=if ZL l=aC then aA (.lst l) else none:=rfl
@[simp] theorem gMin2_ii(i j:Int):Mq [.int i,.int j]=aA (.int (if j<i then j else i)):=rfl
@[simp] theorem gMax2_ii(i j:Int):Zag [.int i,.int j]=aA (.int (if j>i then j else i)):=rfl
@[simp] theorem gInt1_b(c:Bool):Cm [.bl c]=aA (.int (if c then 1 else 0)):=rfl
@[simp] theorem gInt1_i(c:Int):Cm [.int c]=aA (.int c):=rfl
@[simp] theorem gInst_ii(i:Int):UN [.int i,.ty "int"]=aA (.bl aC):=rfl
@[simp] theorem gInst_ib(i:Int):UN [.int i,.ty "bool"]=aA (.bl aB):=rfl
@[simp] theorem gInst_tt(l:List PV):UN [.tup l,.ty "tuple"]=aA (.bl aC):=rfl
@[simp] theorem gInst_ll(l:List PV):UN [.lst l,.ty "list"]=aA (.bl aC):=rfl
theorem Jq(n:Nat)(i j:Int):UI (n+1) (.int i) (.int j)=aC:=rfl
theorem Rk{d c:Type}{f:d->PV}{g:c->PV}{p:PV->PV->Bool}(h:∀a b,p (f a) (g b)=aC):∀(l:List d)(m:List c),((l.map f).zip (m.map g)).all (λz=>p z.1 z.2)=aC
 | [],_=>by simp
 | _::_,[]=>by simp
 | a::l,b::m=>by rw[dj,dj,j3,hU,Rk h l m,h a b];rfl
theorem E4(n:Nat)(l m:List Int):UI (n+2) (pP l) (pP m)=aC:=Rk (λa b=>Jq n a b) l m
theorem BY{l m:List Int}:iL l=iL m↔l=m:=by
 constructor
 ·intro h;exact(List.map_inj_right (λa b e=>PV.int.inj e)).mp h
 ·intro h;rw[h]
theorem BZ{l m:List Int}:pP l=pP m↔l=m:=by rw[PV.tup.injEq];exact BY
@[simp] theorem LS(neg:Bool)(i j:Int):Wg neg (.int i) (.int j)=aA (.bl (if neg then !decide (i=j) else decide (i=j))):=by
 unfold Wg;rw[kr (Jq 7 i j)];congr 2;cases neg<;>simp
@[simp] theorem LU(neg:Bool)(l m:List Int):Wg neg (.tup (l.map PV.int)) (.tup (m.map PV.int))=aA (.bl (if neg then !decide (l=m) else decide (l=m))):=by unfold Wg;rw[kr (E4 6 l m)];have:decide ((PV.tup (l.map PV.int)) = .tup (m.map PV.int))=decide (l=m):=decide_eq_decide.mpr BZ;rw[this]
theorem Ol{f:Type}{T:Tgt}{e:XT}{c:XE}{d:ZH}{q g:f->PV}:∀{ls:List f},(∀a∈ls,∃s1,Xm T (q a) d=aA s1/\e s1=aA aC/\c s1=aA (g a))->WA T e c d (ls.map q)=aA (ls.map g)
 | [],_=>rfl
 | a::r,h=>by obtain⟨s1,i,m,j⟩:=h a aZ;have k:=Ol (ls:=r) λb l=>h b (aT _ l);rw[dj,dj];unfold WA;rw[i];simp only[aV,m,if_true,j,k,dM]
theorem Tx{d:Type}{T:Tgt}{i:XT}{e:XE}{f:ZH}{q g:d->PV}{c:d->Bool}:∀{ls:List d},(∀a∈ls,∃s1,Xm T (q a) f=aA s1/\i s1=aA (c a)/\(c a=aC->e s1=aA (g a)))->WA T i e f (ls.map q)=aA ((ls.filter c).map g)
 | [],_=>rfl
 | a::r,h=>by
  obtain⟨s1,k,n,l⟩:=h a aZ;have j:=Tx (ls:=r) λb m=>h b (aT _ m);rw[dj];unfold WA;rw[k];simp only[aV,n]
  cases hc:c a with
  | true=>simp[l hc,j,hc]
  | false=>simp[j,hc]
theorem ZX{f:Type}{n:Nat}{ix:List Nat}{c:XL}{T:Tgt}{e:XT}{d:XE}{s:ZH}(ls:List f)(q g:f->PV)(b:c s=aA (ls.map q))(i:ls.length<=10000)
  (h:∀a∈ls,∃s1,Xm T (q a) (ZJ n ix s)=aA s1/\e s1=aA aC/\d s1=aA (g a)):Zr n ix c T e d s=aA (.lst (ls.map g)):=by
 unfold Zr;rw[b];simp only[aV,aO,kr i,Ol h,dM]
theorem Vu{d:Type}{n:Nat}{ix:List Nat}{e:XL}{T:Tgt}{i:XT}{f:XE}{s:ZH}(ls:List d)(q g:d->PV)(c:d->Bool)(b:e s=aA (ls.map q))(j:ls.length<=10000)
  (h:∀a∈ls,∃s1,Xm T (q a) (ZJ n ix s)=aA s1/\i s1=aA (c a)/\(c a=aC->f s1=aA (g a))):Zr n ix e T i f s=aA (.lst ((ls.filter c).map g)):=by
 unfold Zr;rw[b];simp only[aV,aO,kr j,Tx h,dM]
theorem Wn{T:Tgt}{fb:XS}:∀{ls:List PV}{s:ZH}(Jv:Nat->ZH->Prop),Jv 0 s->(∀(i:Nat) l st,ls[i]?=aA l->Jv i st->∃s1 s2,Xm T l st=aA s1/\fb s1=aA (.nx s2)/\Jv (i+1) s2)->
  ∃f,VQ T fb ls s=aA (.nx f)/\Jv ls.length f
 | [],s,Jv,h0,_=>⟨s,rfl,h0⟩
 | l::r,s,Jv,h0,h=>by obtain⟨s1,s2,a,b,c⟩:=h 0 l s rfl h0;obtain⟨f,d,e⟩:=Wn (ls:=r) (s:=s2) (λi=>Jv (i+1)) c λi l' st g j=>h (i+1) l' st (by simpa using g) j;refine⟨f,?_,e⟩;unfold VQ;rw[a];simp only[aV,b];exact d
theorem V5{n i:Nat}{l:PV}(h:(Tr n)[i]?=aA l):i<n/\l = .int (i:Int):=by have a:=(aU.mp h).1;unfold Tr at a h;rw[aO,bu] at a;rw[aW,bM a] at h;exact⟨a,(ay h).symm⟩
theorem GG{lo:Int}{n i:Nat}{l:PV}(h:(UZ lo n)[i]?=aA l):i<n/\l = .int (lo+(i:Int)):=by have a:=(aU.mp h).1;unfold UZ at a h;rw[aO,bu] at a;rw[aW,bM a] at h;exact⟨a,(ay h).symm⟩
@[simp] theorem Tz(n:Nat):(Tr n).length=n:=by unfold Tr;simp
@[simp] theorem GH(lo:Int)(n:Nat):(UZ lo n).length=n:=by unfold UZ;simp
@[simp] theorem bindT_one(i:Nat)(l:PV)(s:ZH):Xm (.one i) l s=aA (s.set i (aA l)):=rfl
theorem Iw(i j:Nat)(a b:PV)(s:ZH):Xm (.many [i,j]) (.tup [a,b]) s=aA ((s.set i (aA a)).set j (aA b)):=rfl
theorem WG(m:List PV):Wz m=(aE m.length).map λ(i:Nat)=>.tup [.int (i:Int),m.getD i .non]:=by
 apply cq;intro i;rw[aW];by_cases h:i<m.length
 ·have:(Wz m)[i]?=aA (.tup [.int (i:Int),m[i]]):=by unfold Wz;simp
  rw[this,bM h];simp[aI h]
 ·rw[bY (by rw[Od];omega),bY (by simpa using h)];rfl
theorem YO(m n:List PV)(h:n.length=m.length):Vo m n=(aE m.length).map λ(i:Nat)=>.tup [m.getD i .non,n.getD i .non]:=by
 apply cq;intro i;rw[aW];by_cases a:i<m.length
 ·have:(Vo m n)[i]?=aA (.tup [m[i],n[i]]):=by unfold Vo;rw[aW,gq (z:=(m[i],n[i])) |>.mpr ⟨aI a,aI (by omega)⟩];rfl
  rw[this,bM a];simp[aI a,aI (show i<n.length by omega)]
 ·rw[bY (by rw[Ms];omega),bY (by simpa using a)];rfl
theorem YD(l:List Int)(i:Nat)(h:i<l.length):(iL l).getD i .non = .int (Zn l i):=by rw[aG,O9 h];rfl
@[simp] theorem E5(f:XE)(s:ZH):ZT [f] s=(f s).bind λa=>(Hx a).bind λj=>if -1000000<=j/\j<=1000000 then aA (Tr j.toNat) else none:=by
 unfold ZT
 cases h:f s with
 | none=>simp[h]
 | some a=>cases a<;>simp[h,Hx]
@[simp] theorem E6(f g:XE)(s:ZH):V0 [f,g] s=(f s).bind λa=>(g s).bind λb=>(Hx a).bind λi=>(Hx b).bind λj=>if -1000000<=i/\i<=1000000/\-1000000<=j/\j<=1000000 then aA (UZ i (j-i).toNat) else none:=by
 unfold V0
 cases h:f s with
 | none=>simp[h]
 | some a=>cases h2:g s with
  | none=>simp[h,h2]
  | some b=>cases a<;>cases b<;>simp[h,h2,Hx]
@[simp] theorem TB(i:Int):Hx (.int i)=aA i:=rfl
@[simp] theorem E7(i:List PV):asL (.lst i)=aA i:=rfl
@[simp] theorem xEnum_def(b:Bool)(f:XE)(s:ZH):Xu b [f] s=(f s).bind λl=>(seqB b l).map Wz:=by
 unfold Xu;cases h:f s<;>simp[h]
@[simp] theorem My(b1 b2:Bool)(f g:XE)(s:ZH):U0 b1 b2 [f,g] s=(f s).bind λl=>(g s).bind λr=>(seqB b1 l).bind λm=>(seqB b2 r).map λn=>Vo m n:=by
 unfold U0;cases h:f s<;>cases h2:g s<;>simp[h,h2]
@[simp] theorem seqB_f(l:List PV):seqB aB (.tup l)=aA l:=rfl
@[simp] theorem seqB_t(l:List PV):seqB aC (.lst l)=aA l:=rfl
@[simp] theorem seqB_c(l:List PV):seqB aC (.cst l)=aA l:=rfl
@[simp] theorem xLst_def(f:XE)(s:ZH):Vb f s=(f s).bind BN:=rfl
@[simp] theorem asS_l(l:List PV):BN (.lst l)=aA l:=rfl
@[simp] theorem asS_c(l:List PV):BN (.cst l)=aA l:=rfl
theorem QA{f:XE}{s:ZH}{l:List PV}(h:f s=aA (.tup l)):T9 f s=aA l:=by unfold T9;rw[h]
@[simp] theorem sFor_def(O:List Nat)(fi:XL)(T:Tgt)(fb:XS)(s:ZH):Xn O fi T fb s=(fi (YB O s)).bind λls=>VQ T fb ls s:=rfl
@[simp] theorem xTrue_def(s:ZH):Zy s=aA aC:=rfl
theorem Z6{f:XE}{s:ZH}{n:Nat}(h:f s=aA (.int (n:Int)))(a:n<=10000):ZT [f] s=aA (Tr n):=by rw[E5,h];simp only[aV,TB];rw[kr ⟨by omega,by omega⟩,eY]
theorem Se{f g:XE}{s:ZH}{i j:Int}(h:f s=aA (.int i))(a:g s=aA (.int j))(c : -10000<=i/\i<=10000)(b : -10000<=j/\j<=10000):V0 [f,g] s=aA (UZ i (j-i).toNat):=by rw[E6,h,a];simp only[aV,TB];rw[kr ⟨by omega,by omega,by omega,by omega⟩]
theorem LV{i j:Int}(a : -10000<=i)(h:i<=10000):CMul i j:=by
 refine .inl ?_;have e:(2^64:Int)=18446744073709551616:=by decide
 rw[e];omega
theorem RN{c:Bool}(h:c=aC):gd c=aA ():=by unfold gd;rw[kr h]
theorem QB{i:Nat}{f:XE}{s:ZH}{m:List PV}{l:PV}(h:f s=aA l)(a:Iu s i=aA m)(b:m.length<=10000):WE i f s=aA (.nx (s.set i (aA (.lst (m++[l]))))):=by unfold WE;rw[h];simp only[aV,a,RN (decide_eq_true b)]
theorem QC{i:Nat}{a f:XE}{s:ZH}{m:List PV}{l:PV}{k:Int}(n:a s=aA (.int k))(h:f s=aA l)(b:Iu s i=aA m)(o:ZL m=aC)(g:Yb l=aC)(e:0<=k)(j:k<=1000000)(d:m.length<=10000) :
  Vs i a f s=aA (.nx (s.set i (aA (.lst (m.take k.toNat++l::m.drop k.toNat))))):=by
 unfold Vs;rw[n,h];have c:(ZL m&&Yb l&&decide (0<=k/\k<=1000000/\m.length<=10000))=aC:=by rw[o,g,decide_eq_true ⟨e,j,d⟩];rfl
 simp only[aV,TB,b,RN c]
theorem Om{i:Nat}{a f:XE}{s:ZH}{m:List PV}{l:PV}{k:Int}{j:Nat}(h:f s=aA l)(e:a s=aA (.int k))(b:Iu s i=aA m)(g:ZL m=aC)(d:Yb l=aC)(n:Md m.length k=aA j) :
  Xo i a f s=aA (.nx (s.set i (aA (.lst (m.set j l))))):=by
 unfold Xo;rw[e,h];have c:(ZL m&&Yb l)=aC:=by rw[g,d];rfl
 simp only[aV,TB,b,RN c,n,dM]
theorem QD{i:Nat}{d fb f:XE}{s:ZH}{m n:List PV}{l:PV}{a b:Int}{j c:Nat}(h:f s=aA l)(o:d s=aA (.int a))(t:fb s=aA (.int b))(p:Iu s i=aA m)(u:Md m.length a=aA j)(e:m[j]?=aA (.lst n))(g:ZL n=aC)(q:Yb l=aC)(r:Md n.length b=aA c) :
  Vt i d fb f s=aA (.nx (s.set i (aA (.lst (m.set j (.lst (n.set c l))))))):=by
 unfold Vt;rw[h,o,t];have k:(ZL n&&Yb l)=aC:=by rw[g,q];rfl
 simp only[aV,TB,E7,p,u,e,RN k,r,dM]
theorem Ut{n k:Nat}(h:k<n):Md n (k:Int)=aA k:=by unfold Md;rw[kr (by omega),kr (by omega)];rfl
@[simp] theorem CMul_l{i j:Int}(h : -(2^64)<i/\i<2^64):CMul i j:=.inl h
end VL
namespace VL
open PySem PySem.Spec PyProof.Rows L2
variable {K:aD}
noncomputable def Cq(K:aD):R2:=λx y H Q=>∃a b xs ys,x = .ref a/\y = .ref b/\SqT K H a xs/\SqT K H b ys/\xs.length+ys.length<=sizeLine/\
 (xs=[]->Q (.ref b) H)/\(ys=[]->Q (.ref a) H)/\∀p,H p=none->Q (.ref p) (upd H p (.tup (xs++ys)))
theorem Na{X:Cx}:Tg X (dE .Add) (Cq X.K):=by
 intro P s R H x y v u Q I o k h;obtain⟨a,b,r,O,rfl,rfl,q,t,B,M,A,G⟩:=h;by_cases g:r=[]
 ·cases o;cases k;obtain⟨F,E,J,_⟩:=I.tuple q;obtain⟨d,S,p2,_⟩:=I.tuple t;obtain⟨⟨C,w,l,z⟩,p,N,n,D⟩:=id J;obtain⟨⟨m,i,data2,f⟩,c,j,L,e⟩:=id p2;subst N D j e
  exact jg ⟨_,p,rfl⟩ ⟨_,c,rfl⟩ iH jR fW fP (fJ _ _)
   (tuple_addW0 a b F.toArray d.toArray n L w i z f (by simp[E.nil_iff.mpr g])) ⟨p,c,.ref b,H,I,rfl,M g⟩
 ·exact EA _ _ _ _ _ _ _ _ _ I o k ⟨a,b,r,O,rfl,rfl,q,t,g,B,A,λ_=>G⟩
noncomputable def Oo:PV->PV->Option PV
 | .tup m,.tup n=>if m.length+n.length<=10000 then aA (.tup (m++n)) else none
 | _,_=>none
theorem Nc:RB K (Cq K) Oo:=λH x y a b l o fb h j e Q k=>by
 cases a with
 | tup m=>cases b with
  | tup n=>
   have e:(if m.length+n.length<=10000 then aA (PV.tup (m++n)) else none)=aA l:=e;split at e
   case isFalse=>cases e
   rename_i t;cases e;obtain⟨p,v,rfl,s,g⟩:=h.tup_inv;obtain⟨u,w,rfl,f,c⟩:=j.tup_inv;refine⟨p,u,v,w,rfl,rfl,SqT.of s,SqT.of f,by rw[g.len,c.len];exact cS (lt_size t),λz=>?_,λz=>?_,λq i=>?_⟩
   ·have:=fR.mp (by rw[<-g.len,z];rfl);subst this;exact k _ _ fb (Same.refl _) j λr d=>.inr (.inl d)
   ·have:=fR.mp (by rw[<-c.len,z];rfl);subst this;rw[dI] at k;exact k _ _ o (Same.refl _) h λr d=>.inl d
   ·exact k _ _ (o++fb) (Same.new i _) (Is.tup Zt ((g.append c).mono (Same.new i _))) λr d=>(bg.mp d).elim .inl λz=>.inr (.inl z)
  | _=>cases e
 | _=>cases e
end VL
namespace VL
open PySem
open PySem.Sem (wp)
open PySem.Builtin
theorem Sf:fillsNumberSlot (.type "tuple") "mul" = pure aB:=rfl
theorem Nd:seqRepeat? (.type "tuple")=pure (aA (.builtin "tuple.__mul__")):=rfl
theorem QE(a:Int)(t:Tok)(l:aL)(b:Array aH)(n:Nat)(c:Option aL)(e:Array (Option aH)) :
  Meets (jL.«int.__rmul__» ⟨[.int a t,.ref l],[]⟩) (λ_ R s=>s.heap.get? l=aA { cls:=.type "tuple",dict:=c,data:=.seq b n,slots:=e }/\R (.ok (.ret aH.notImplemented)) s):=
 .of_wp λprog w A R s h=>by obtain⟨f,g,d,tk,os⟩:=s;obtain⟨i,h⟩:=h;wp_walk;exact⟨_,rfl,h⟩
theorem QF(l:aL)(a:Array aH)(n:Nat)(f:Option aL)(i:Array (Option aH))(x:Int)(u:Tok)(v:1<x)(r:x<2^63)(c:a.isEmpty=aB)(j:a.size*x.toNat<=sizeLine)
  (b:Array aH) (p:jZ (λo m=>o++m) #[] (aX x.toNat a)=b) (t:b.size<=sizeLine) :
  Meets (jL.«tuple.__mul__» ⟨[.ref l,.int x u],[]⟩) (λ_ R s=>s.heap.get? l=aA { cls:=.type "tuple",dict:=f,data:=.seq a n,slots:=i }/\R (.ok (.ret (jt s.heap.objs.size))) { s with heap:=s.heap.push { cls:=kO "tuple",data:=Data.seq b },toks:=s.toks }):=
 .of_wp λprog w A R s h=>by
  obtain⟨q,g,d,tk,os⟩:=s;obtain⟨y,h⟩:=h;have e:a.size*x.toNat<=2^40:=by rw[ig] at j;omega
  have k:(a.size:Int)*x=((a.size*x.toNat:Nat):Int):=by rw[Int.natCast_mul,Int.toNat_of_nonneg (by omega)]
  wp_walk
  refine fN (by simp;omega) ?_
  wp_walk
  refine fN (by simp[c];omega) ?_
  wp_walk
  refine fN (by simp[c];omega) ?_
  wp_walk
  refine fN (decide_eq_false (by omega)) ?_
  wp_walk
  refine fN (decide_eq_false (by rw[k];unfold Tuple.tupleTooMany;simp only[decide_eq_true_eq];omega)) ?_
  wp_walk
  rw[p];exact⟨_,rfl,h⟩
theorem PB(l:aL)(a:Array aH)(n:Nat)(b:Option aL)(c:Array (Option aH))(u:Tok) :
  Meets (jL.«tuple.__mul__» ⟨[.ref l,.int 1 u],[]⟩) (λ_ R s=>s.heap.get? l=aA { cls:=.type "tuple",dict:=b,data:=.seq a n,slots:=c }/\R (.ok (.ret (jt l))) s):=
 .of_wp λprog w A R s h=>by
  obtain⟨e,g,d,tk,os⟩:=s;obtain⟨f,h⟩:=h
  wp_walk
  exact⟨_,rfl,h⟩
end VL
namespace VL
open PySem PySem.Spec PyProof.Rows L2
noncomputable def Cs(K:aD):R2:=λx y H Q=>∃a k xs,x = .ref a/\y = .int k/\SqT K H a xs/\xs≠[]/\1<=k/\k<2^62/\xs.length*k.toNat<=sizeLine/\
 (k=1->Q (.ref a) H)/\∀p,H p=none->Q (.ref p) (upd H p (.tup (aX k.toNat xs).flatten))
theorem E8{X:Cx}:Tg X (dE .Mult) (Cs X.K):=by
 intro T s U H x y v u Q I z r h;obtain⟨a,k,Z,rfl,rfl,M,D,Y,S,i,w,G⟩:=h;cases z;obtain⟨t,rfl⟩:=r;obtain⟨c,j,J,_⟩:=I.tuple M;obtain⟨⟨A,f,m,g⟩,d,O,n,C⟩:=id J;subst O C;have p:=j.length
 refine gn rfl ⟨_,d,rfl⟩ (λB=>iS B k t) Sf F.fills_int_mul F.slot_int_rmul Nd F.slot_int_index.lookup
  (fO F.slot_int_rmul (iS s k t) F.entry_int_rmul (F.args_int_rmul_2 _ _) (QE k t a c.toArray n f g) ⟨d,rfl,⟨_,d,rfl⟩,?_⟩)
 by_cases N:k=1
 ·subst N;exact fO F.slot_tuple_mul ⟨_,d,rfl⟩ F.entry_tuple_mul (F.args_tuple_mul_2 _ _) (PB a c.toArray n f g t) ⟨d,.ref a,H,I,rfl,w rfl⟩
 ·have l:c.toArray.isEmpty=aB:=by
   cases c with
   | nil=>exact absurd (j.nil_iff.mp rfl) D
   | cons _ _=>rfl
  have P:jZ (λL E=>L++E) #[] (aX k.toNat c.toArray)=(aX k.toNat c).flatten.toArray:=by have:=T3 c k.toNat [];exact this
  have R:(aX k.toNat c).flatten.length<=sizeLine:=by rw[OL,cp,<-p];exact i
  refine fO F.slot_tuple_mul ⟨_,d,rfl⟩ F.entry_tuple_mul (F.args_tuple_mul_2 _ _) (QF a c.toArray n f g k t (by omega) (by omega) l (by rw[aP,<-p];exact i) _ P (by rw[aP];exact R)) ⟨d,?_⟩;refine⟨.ref s.heap.objs.size,_,I.laid (λb W q=>aF _ q) (aJ _) ?_,rfl,G _ (I.hok.fresh (aJ _))⟩;exact⟨⟨by rw[OL,cp];exact i,λo e=>R9 e⟩,_,j.rep k.toNat,jx _ _⟩
noncomputable def Mz:PV->PV->Option PV
 | .tup m,.int k=>if ZL m=aC/\m≠[]/\1<=k/\k<=1000000/\m.length*k.toNat<=10000 then aA (.tup (aX k.toNat m).flatten) else none
 | _,_=>none
theorem E9{K:aD}:RB K (Cs K) Mz:=λH x y a b l t fb g o e Q k=>by
 cases a with
 | tup m=>cases b with
  | int n=>
   unfold Mz at e;simp only at e;split at e
   case isFalse=>cases e
   rename_i c;cases e;obtain⟨p,s,rfl,j,f⟩:=g.tup_inv;refine⟨p,n,s,rfl,o.int_inv.1,SqT.of j,λz=>c.2.1 (fR.mp (by rw[<-f.len,z];rfl)),c.2.2.1,by omega,by rw[f.len];exact cS (lt_size c.2.2.2.2),λz=>?_,λq h=>?_⟩
   ·subst z;have i:(aX (Int.toNat 1) m).flatten=m:=by simp
    rw[i] at k;exact k _ _ t (Same.refl _) g λr d=>.inl d
   ·exact k _ _ [] (Same.new h _) (Is.tup Zt ((Iss.rep (f.pureEq c.1) n.toNat).mono (Same.new h _))) λr d=>by simp at d
  | _=>cases e
 | _=>cases e
end VL
namespace PW
open PySem L2 VL
noncomputable def Oq:XS:=(ZO (eP (Zc VZ [Zi ZM (Za 0) (Za 1)])))
noncomputable def Uu:List PV->Option PV:=Yz 2 Oq
noncomputable def Jr:XS:=(ZO (eP (Zc VZ [Za 0])))
noncomputable def RO:List PV->Option PV:=Yz 1 Jr
noncomputable def GI:XS:=(ZO (eP (Zc VZ [Zr 2 [1,2] (Xu aB [Zi ZM (Za 0) (Za 2)]) (.many [0,1]) Zy (Zi UH (Za 1) (Zi XN (Zi ZM (Za 2) (Za 0)) (Zi ZM (Za 2) (Za 3))))])))
noncomputable def QG:List PV->Option PV:=Yz 3 GI
noncomputable def Ct:XS:=(ZO (eP (Zc ZP [Zr 2 [0,2] (Xu aB [Za 1]) (.many [0,1]) Zy (Zi Yj (Za 1) (Zc QG [Za 2,Za 3,Za 0]))])))
noncomputable def UO:List PV->Option PV:=Yz 3 Ct
noncomputable def GJ:XS:=(ZO (eP (Zc ZP [Zr 2 [] (U0 aB aB [Za 0,Za 1]) (.many [0,1]) Zy (Zi Yj (Za 0) (Za 1))])))
noncomputable def U1:List PV->Option PV:=Yz 2 GJ
noncomputable def Js:XS:=(ZO (eP (Zc ZP [Zr 2 [] (U0 aB aB [Za 0,Za 1]) (.many [0,1]) Zy (Zi XN (Za 0) (Za 1))])))
noncomputable def Uv:List PV->Option PV:=Yz 2 Js
noncomputable def Ot:XS:=(ZO (eP (OT (Zc UN [Za 0,eC (.ty "int")]) (EU (Zc UN [Za 0,eC (.ty "bool")])))))
noncomputable def Wj:List PV->Option PV:=Yz 1 Ot
noncomputable def Ou:XS:=(ZO (eP (OT (Zc UN [Za 0,eC (.ty "tuple")]) (OT (Zi (Wg aB) (Zc YF [Za 0]) (Za 1)) (Zc LJ [Zr 1 [] (T9 (Za 0)) (.one 0) Zy (Zc Wj [Za 0])])))))
noncomputable def Ov:List PV->Option PV:=Yz 2 Ou
end PW
set_option maxHeartbeats 1000000
namespace VL
open PySem PySem.Spec PyProof.Rows L2
noncomputable def B2(f:XE):XL:=λs=>match Vb f s with
 | some m=>aA m
 | none=>T9 f s
theorem Zai{f:XE}{s:ZH}{l:List PV}(q:f s=aA (.lst l)):B2 f s=aA l:=by unfold B2 Vb;rw[q];rfl
noncomputable def XZ:List Int->Int
 | []=>0
 | [x]=>x
 | x::y::r=>if XZ (y::r)<x then XZ (y::r) else x
theorem Sg:∀{l:List Int},l≠[]->XZ l∈l/\∀x∈l,XZ l<=x
 | [],h=>absurd rfl h
 | [x],_=>by simp[XZ]
 | x::y::r,_=>by
  obtain⟨a,b⟩:=Sg (l:=y::r) (by simp);unfold XZ;split
  ·rename_i h;refine⟨aT _ a,λz c=>?_⟩;rcases a9.mp c with rfl | c
   ·omega
   ·exact b z c
  ·rename_i h;refine⟨by simp,λz c=>?_⟩;rcases a9.mp c with rfl | c
   ·omega
   ·have:=b z c;omega
theorem Jt{l:List Int}{m:Int}(h:m∈l)(g:∀x∈l,m<=x):XZ l=m:=by obtain⟨a,b⟩:=Sg (l:=l) (by intro z;subst z;simp at h);have:=b m h;have:=g _ a;omega
theorem QH(c:Nat->Int):∀k,argBest (λi j=>decide (c i<c j)) k<=k/\∀j,j<=k->c (argBest (λi j=>decide (c i<c j)) k)<=c j
 | 0=>⟨aJ _,λj d=>by rw[Nat.le_zero.mp d];exact df _⟩
 | k+1=>by
  obtain⟨a,b⟩:=QH c k;unfold argBest;split
  ·rename_i h;have h:=of_decide_eq_true h;refine⟨aJ _,λj d=>?_⟩;by_cases e:j=k+1
   ·subst e;exact df _
   ·have:=b j (by omega);omega
  ·rename_i h;have h:¬_:=λz=>h (decide_eq_true z);refine⟨by omega,λj d=>?_⟩;by_cases e:j=k+1
   ·subst e;omega
   ·exact b j (by omega)
noncomputable def GK(f:List Int->Int)(K:aD):List V->Hp->VK->Prop:=λxs H Q=>∃(b:Bool) (p:aL) (ns:List Int),xs=[.ref p]/\ns≠[]/\Ra b K H p (ns.map V.int)/\Q (.int (f ns)) H
section
variable {X:Cx}
theorem Iy(R:X.calm=aC):XJ X (.builtin "min") (GK XZ X.K):=by
 intro U s W H xs Z Q I r h;obtain⟨b,p,a,rfl,y,N,q⟩:=h;obtain⟨u,rfl,E⟩:=Ti r;cases E;obtain⟨n,C,d,T⟩:=I.seqB N;have z:=let⟨_,e⟩:=d.has;aS e;have w:=C.length;rw[aO] at w;have m:=dt.mpr y
 have f:∀(i:Nat)(v:aH),n.toArray[i]?=aA v->∃t,v=jI (a.getD i 0) t:=λi v l=>by
  have l:n[i]?=aA v:=by simpa using l
  have L:i<a.length:=by rw[w];exact(aU.mp l).1
  obtain⟨u,D,O⟩:=C.get (i:=i) (x:=.int a[i]) (by simp);rw[l] at D;cases D;obtain⟨t,rfl⟩:=O;refine⟨t,?_⟩;rw[aG,aI L];rfl
 refine call_min_walk (Yh d ?_);refine⟨_,_,_,_,_,_,λi j=>decide (a.getD i 0<a.getD j 0),rfl,Walks.seqB (A:=X.A.in1) b (I.ok.hd R) s.heap.objs.size p (bA z) n.toArray,⟨IterB.new (a0 _ rfl),d.at λo e=>aF _ e⟩,λc k=>?_,by rw[aP,<-w];exact m,CmpOf.ints_lt (λi=>a.getD i 0) f,λv Y tk l P=>?_⟩
 ·show c<(s.heap.push _).objs.size;rw[cA];rcases a9.mp k with rfl | k
  ·exact gF _
  ·rw[ag.mp k];exact jl z
 ·obtain⟨t,rfl⟩:=f _ _ l;obtain⟨J,B⟩:=QH (λi=>a.getD i 0) (n.toArray.size-1);rw[aP,<-w] at J B
  have e:XZ a=a.getD (argBest (λi j=>decide (a.getD i 0<a.getD j 0)) (n.toArray.size-1)) 0:=by
   rw[aP,<-w];refine Jt ?_ λx G=>?_
   ·rw[aG,aI (by omega)];exact dB _
   ·obtain⟨j,S,F⟩:=fH G;have:=B j (by omega);rw[aG (i:=j),aI S,F] at this;exact this
  refine⟨.int (XZ a),H,I.kept (λc o g=>P c o ?_ (aF _ g)),⟨t,by rw[e]⟩,q⟩;intro M;rw[ag.mp M] at g;exact absurd (aS g) (cD _)
end
noncomputable def Ju(f:List Int->Int):List PV->Option PV
 | [l]=>(UX l).bind λm=>(XY m).bind λns=>if ns=[] then none else aA (.int (f ns))
 | _=>none
abbrev Cu:List PV->Option PV:=Ju XZ
theorem Dc{K:aD}(f:List Int->Int):RC K (GK f K) (Ju f):=λH vs ls l w h e Q k=>by
 unfold Ju at e;split at e
 ·obtain⟨m,j,r⟩:=Ze e;obtain⟨g,n,d⟩:=Ze r;split at d
  ·cases d
  ·rename_i c;cases d;obtain⟨v,rfl,i⟩:=h.one_inv;obtain⟨p,x,u,rfl,a,o,t⟩:=Wf i j;have q:=XQ n;subst q;obtain⟨rfl,rfl⟩:=o.iL;obtain⟨b,s⟩:=Qq a;exact⟨b,p,g,rfl,c,s,k _ H [] (Same.refl H) (Is.int _) λp a=>by simp at a⟩
 ·cases e
theorem Dd{K:aD}:RC K (GK XZ K) Cu:=Dc XZ
theorem De(f:List Int->Int){l:List Int}(h:l≠[]):Ju f [pP l]=aA (.int (f l)):=by show(XY (iL l)).bind _=_;rw[Xf];simp only[aV];rw[ku h]
variable {K:aD}
noncomputable def Au(K:aD)(D:List PV->Option PV)(n:Nat):Sp:=λvs H Q _=>vs.length=n/\∃v0 vr l0 ls fp0 l',vs=v0::vr/\Is K H l0 v0 fp0/\fp0.Nodup/\(∀p∈fp0,UG (H p))/\Iss K H ls vr []/\D (l0::ls)=aA l'/\
 ∀H' fq,Same (VP H (·∈fp0)) H'->Is K H' l' v0 fq->fq.Nodup->(∀p∈fq,VP H (·∈fp0) p=none/\UG (H' p))->Q .non H'
noncomputable def B3(K:aD)(O W:List Nat)(H0:Hp)(fps:Nat->List aL)(σ:Rc)(D:Y3):LO->Prop
 | .nx s'=>∀kh σ' H',Rel K O H0 kh s' σ' H'->σ'[0]?=σ[0]?->D.nx σ' H'
 | _=>True
noncomputable def B4(K:aD)(O W:List Nat)(f:XS):TS:=λD σ H=>∃H0 fps s s',Rel K O H0 fps s σ H/\f s=aA (.nx s')/\B3 K O W H0 fps σ D (.nx s')
noncomputable def VS0(X:Cx)(O W:List Nat)(st:bb)(f:XS):Prop:=PS X st (B4 X.K O W f)
noncomputable def Dg(X:Cx)(O W:List Nat)(st:List bb)(f:XS):Prop:=PSs X st (B4 X.K O W f)
section
variable {X:Cx} {O W W1 W2:List Nat} {st:bb} {Ys:List bb} {f g:XS} {pos:el}
theorem VS.vs0(h:VS X O W st f)(g:0∉W:=by decide):VS0 X O W st f:=PS.imp h λD l H ⟨i,fps,s,c,r,e,k⟩=>⟨i,fps,s,.nx c,r,e,λd a b j q=>k d a b j (q 0 g).1⟩
theorem GL(h:VS0 X O W st f):Dg X O W [st] f:=K5 h
theorem Ox(q:VS0 X O W1 st f)(m:Dg X O W2 Ys g):Dg X O (W1++W2) (st::Ys) (Zp f g):=PSs.imp (N6 q m) λD w H ⟨c,fps,s,n,r,e,k⟩=>by
 obtain⟨v,i,e⟩:=Ze e
 cases v with
 | nx s1=>exact⟨c,fps,s,s1,r,i,λa u x o j=>⟨c,a,s1,n,o,e,λt b d p h=>k t b d p (h.trans j)⟩⟩
 | bk s1=>cases e
 | ct s1=>cases e
 | rt l=>cases e
theorem QI{fe fa fb:XE}(h:PS X st (Ll (tF X.K fe) (C3 (Aq (Bk X.K) (Pq 0) (tF X.K fa)) (tF X.K fb) HQ)))(v:0∈O:=by decide):VS0 X O [0] st (Vt 0 fa fb fe):=PS.imp h λD σ H ⟨H0,fps,s,s',r,e,k⟩=>by
 obtain⟨l,e0,e⟩:=Ze e;obtain⟨a,T,e⟩:=Ze e;obtain⟨b,Z,e⟩:=Ze e;obtain⟨ai,ea,e⟩:=Ze e;obtain⟨bi,eb,e⟩:=Ze e;obtain⟨m,E,e⟩:=Ze e;obtain⟨j,ej,e⟩:=Ze e;obtain⟨ZZ,J,e⟩:=Ze e;obtain⟨n,er,e⟩:=Ze e;obtain⟨_,eg,e⟩:=Ze e;rw[Tu ea] at T;rw[Tu eb] at Z;rw[Gx er] at J;have E:=Tt E;have R:=RK eg;simp only[bX] at R;obtain⟨I,S⟩:=R;obtain⟨c,ec,e⟩:=map_some e;cases e;obtain⟨p,xs,fq,hv,U,N,C⟩:=r.lst_at v E;refine⟨λ_=>False,s,l,λ_ z=>z.elim,r.env,e0,λy H1 fy s1 Y _=>?_⟩;refine⟨.ref p,hv,λ_=>False,s,_,λ_ z=>z.elim,r.env.mono s1,T,λz H2 fz s2 i2 _=>?_⟩;obtain⟨rfl,_⟩:=i2.int_inv;have i:=s1.trans s2;obtain⟨q,f1,g,iq,u⟩:=(N.mono i).get J;obtain⟨f,x,fz',rfl,L,W,rfl⟩:=id iq.lst_inv;refine⟨p,xs,ai,.ref f,rfl,rfl,SqL.of (i _ _ U),?_,λ_=>False,s,_,λ_ z=>z.elim,r.env.mono i,Z,λw Q fw F i3 _=>?_⟩
 ·unfold S9;rw[N.len,ej];exact g
 obtain⟨rfl,_⟩:=i3.int_inv;have d:=i.trans F;have P:=r.grow d;have A:f∈fps 0:=by rw[C];exact aT _ (u f aZ)
 have mu:=(P.own 0 v f A).2;have B:Q f=aA (.lst x):=F _ _ L;have:=Is.pure _ _ _ S Y;subst this;refine⟨f,x,bi,c,rfl,rfl,B,by rw[W.len];exact ec,?_⟩;have G:=r.nd 0 v;rw[C] at G;have M:f≠p:=λz=>(bN.mp G).1 (z▸u f aZ);have t:Iss X.K (L2.upd Q f (.lst (x.set c y))) (n.set c l) (x.set c y) []:=Iss.tr (TK.upd' mu) _ _ _ (λq g=>by simp at g) (Iss.setP c I S ((W.mono F).pureEq I) (Y.mono (s2.trans F)));have rows:=Iss.setRow (N.mono d) J g (bN.mp G).2 mu I t;refine k _ _ _ (P.mutate (o:=.lst (x.set c y)) (l':=.lst (m.set j (.lst (n.set c l)))) (fp':=p::fq) v A hv (Sd E) (Is.lst (by rw[L2.upd_ne (aw M)];exact d _ _ U) rows) G (λq g=>?_) (λj hj q g z=>r.dis 0 v j hj q (by rw[C];exact g) z) cz) rfl;refine⟨(r.own 0 v q (by rw[C];exact g)).1,?_⟩;by_cases e:q=f
 ·subst e;rw[Zt];exact cz
 ·rw[L2.upd_ne e];exact(P.own 0 v q (by rw[C];exact g)).2
end
noncomputable def Zaj:LO->Option PV
 | .nx s=>match s[0]? with | some (aA l)=>aA l | _=>none
 | _=>none
noncomputable def Av(m:Nat)(f:XS):List PV->Option PV:=λls=>if ZL (ls.drop 1)=aC then(f (ZN m ls)).bind Zaj else none
theorem GN{N:List ak}{n:Nat}{W:List Nat}{f:XS}{vs:List V}{H:Hp}{Q:VK}{E:XK}(h:Au K (Av N.length f) n vs H Q E):B4 K [0] W f { nx:=λ_ A=>Q .non A,rt:=Q } (L2.start N vs) H:=by
 obtain⟨Z,y,G,l0,L,g,l',rfl,J,B,F,u,e,q⟩:=h;unfold Av at e;split at e
 case isFalse=>cases e
 obtain⟨C,R,m⟩:=Ze e;have d:Iss K H (l0::L) (y::G) (g++[]):=Iss.cons J u;have k:=d.len;generalize o:l0::L=ls at *
 have t:∀i:Nat,ls.length<=i->∀l,(ZN N.length ls)[i]?≠aA (aA l):=λi d l z=>by
  unfold ZN at z;rw[bJ (by simpa using d),ba] at z;split at z<;>cases z
 have D:Rel K [0] (VP H (·∈g)) (λi=>if i=0 then g else []) (ZN N.length ls) (L2.start N (y::G)) H:=by
  refine⟨Oe,?_,λi a z=>?_,λi I=>?_,λi d=>?_,λi d p s=>?_,λi d j Y p s=>?_⟩
  ·have hq:G.length+1=ls.length:=k;unfold ZN L2.start;simp;omega
  ·by_cases c:i<ls.length
   ·unfold ZN at z;rw[ah (by simpa using c),aW] at z
    cases q:ls[i]? with
    | none=>rw[q] at z;cases z
    | some b=>
     rw[q] at z;cases z
     cases i with
     | zero=>
      rw[<-o] at q;simp at q;subst q;exact⟨y,by unfold L2.start;simp,by simpa using J⟩
     | succ i=>
      rw[<-o] at q;obtain⟨v,f1,S,M,T⟩:=u.get (i:=i) (a:=a) (by simpa using q);have:f1=[]:=by cases f1 with | nil=>rfl | cons x r=>exact absurd (T x aZ) (by simp)
      subst this;refine⟨v,?_,by simpa using M⟩;unfold L2.start;rw[ah (by rw[aO,k];exact c),aW];simp[S]
   ·exact absurd z (t i (by omega) a)
  ·by_cases c:i<ls.length
   ·exact absurd (by unfold ZN;rw[ah (by simpa using c),aW,aI c];rfl) (I ls[i])
   ·have:i≠0:=by rw[<-o] at c;simp at c;omega
    simp[this]
  ·simp at d;subst d;simpa using B
  ·simp at d;subst d;have s:p∈g:=by simpa using s
   exact⟨by unfold VP;rw[kr s],F p s⟩
  ·simp at d;subst d;simp[Y]
 cases C with
 | nx s'=>
  have m:(match s'[0]? with | some (aA l)=>aA l | _=>none)=aA l':=m;split at m
  case h_2=>cases m
  rename_i l U;cases m;refine⟨_,_,_,s',D,R,λX O A w P=>?_⟩;obtain⟨v,a,b⟩:=w.is 0 _ U;rw[P] at a;have:v=y:=by unfold L2.start at a;simp at a;exact a.symm
  subst this;exact q A (X 0) w.same b (w.nd 0 (by simp)) λp s=>w.own 0 (by simp) p s
 | rt v=>cases m
 | bk s'=>cases m
 | ct s'=>cases m
section
variable {P:bW} {w:cN} {mg:ak->Option aH} {base:b9}
theorem Dh{x:ak}{st:bb}{N d:List ak}{k n:Nat}{W:List Nat}(m:Nat)(f:XS)(D:Def K mg x st)(S:Zm N d (Zf st))
  (l:∀(kV doc pm:aH)(an:Option aL)(b ct:aH)(us:List aH),us.length=d.length->iG (ck x x (XH st) (Yu st) (Zf st) .none kV doc pm an b ct) ⟨us,[]⟩=pure (d.zip us))
  (g:d.length=n) (j:N.length=m)
  (c:∀(e:aL)(b:aH)(A:cH)(a:List ju)(s:aN)(H:Hp)(E:XK),Room k (A.deeper (gE x (Zf st) s.heap.objs.size e b))->Dg (Qd Lw P w K mg base N x (Zf st) e b A a s H E).nox [0] W (Yu st) f) :
  Xi P w K mg base x d (Au K (Av m f) n) (k+1):=by
 subst j;refine D.cal S l (λvs H Q E h=>by rw[g];exact h.1) λe b A a s H vs Q E i h=>⟨_,c e b A a s H E i,GN h⟩
end
noncomputable def MA(i:Nat)(D:List PV->Option PV)(fs:List XE):XS:=λs=>match s[i]? with
 | some (aA l0)=>(Qo fs s).bind λls=>if ZL ls=aC then(D (l0::ls)).map λl'=>.nx (s.set i (aA l')) else none
 | _=>none
theorem GO{X:Cx}{O:List Nat}{i:Nat}{st:bb}{D:List PV->Option PV}{n:Nat}{fs:List XE}(h:PS X st (K6 (HL (Au X.K D n) [] E0 (Qc (Pq i) (tFA X.K fs)))))(T:fs.length+1=n:=by rfl)(t:i∈O:=by decide):VS X O [i] st (MA i D fs):=PS.imp h λD' Y H ⟨H0,fps,s,W,r,e,k⟩=>by
 unfold MA at e;split at e
 case h_2=>cases e
 rename_i l0 R;obtain⟨ls,N,e⟩:=Ze e;split at e
 case isFalse=>cases e
 rename_i G;obtain⟨l',C,rfl⟩:=map_some e;obtain⟨E,P,iv⟩:=r.is i _ R;refine⟨E,P,λ_=>False,s,ls,λ_ z=>z.elim,r.env,N,λvs B fp s1 J _=>?_⟩;have:=Iss.pure _ _ _ G J;subst this;show Au X.K D n ((E::vs)++[]) B _ E0;rw[dI];have g:=r.grow s1;refine⟨by rw[bh,J.len,Vl N];exact T,E,vs,l0,ls,fps i,l',rfl,iv.mono s1,r.nd i t,λp x=>(g.own i t p x).2,J,C,λF y sm iq M Q=>?_⟩;have v:i<s.length:=Sd R;have c:∀b o,b∉fps i->B b=aA o->F b=aA o:=λb o l ho=>sm b o (by unfold VP;rw[ku l];exact ho);have tk:EL B F:=⟨λb S l=>c b _ (λz=>by have:=(g.own i t b z).2;rw[l] at this;exact this) l,λb o S l=>c b _ (λz=>by have:=(g.own i t b z).2;rw[l] at this;exact this) l,λb o S l=>c b _ (λz=>by have:=(g.own i t b z).2;rw[l] at this;exact this) l⟩
 have A:∀p∈y,p∈fps i\/B p=none:=λp x=>by
  have:=(Q p x).1;unfold VP at this;split at this
  ·exact .inl (by assumption)
  ·exact .inr this
 have fr:∀j,j≠i->∀p∈y,p∉fps j:=λj d p x z=>by
  rcases A p x with h | h
  ·exact g.dis i t j d p h z
  ·exact g.dom j p z h
 have m:Ts fps s.length i y i=y:=O3 v;refine k (Ts fps s.length i y) Y F ⟨λb u l=>c b u (λz=>by rw[(g.own i t b z).1] at l;cases l) (g.same b u l),by rw[bt];exact r.len,λj a e=>?_,λj h=>?_,λj d=>?_,λj d q f=>?_,λj d k' L q f=>?_⟩ Jn
 ·rw[au] at e;by_cases d:i=j
  ·subst d;rw[kr rfl,kr v] at e;cases e;rw[m];exact⟨E,P,iq⟩
  ·rw[ku d] at e;obtain⟨w,Z,U⟩:=g.is j a e;rw[ZV (aw d)];refine⟨w,Z,Is.tr tk _ _ _ (λq f=>RdK.of λu hu=>?_) U⟩;exact c q u (λz=>g.dis i t j (aw d) q z f) hu
 ·by_cases d:i=j
  ·subst d;exact absurd (by rw[au,kr rfl,kr v]) (h l')
  ·rw[ZV (aw d)];exact r.emp j λa z=>h a (by rw[au,ku d];exact z)
 ·by_cases e:j=i
  ·subst e;rw[m];exact M
  ·rw[ZV e];exact r.nd j d
 ·by_cases e:j=i
  ·subst e;rw[m] at f;refine⟨?_,(Q q f).2⟩;rcases A q f with h | h
   ·exact(g.own j d q h).1
   ·exact Same.off g.same h
  ·rw[ZV e] at f;refine⟨(r.own j d q f).1,?_⟩;have mu:=(g.own j d q f).2;have I:q∉fps i:=λz=>g.dis j d i (aw e) q f z
   cases hh:B q with
   | none=>exact absurd hh (g.dom j q f)
   | some o=>rw[c q o I hh,<-hh];exact mu
 ·by_cases e:j=i
  ·subst e;rw[m] at f;rw[ZV L];exact fr k' L q f
  ·rw[ZV e] at f;by_cases C:k'=i
   ·subst C;rw[m];exact λz=>fr j e q z f
   ·rw[ZV C];exact r.dis j d k' L q f
end VL
namespace VL
open PySem PySem.Spec PyProof.Rows L2
variable {K:aD}
noncomputable def CMulW(i j:Int):Prop:=i.natAbs.log2<67108863/\j.natAbs.log2<67108863
noncomputable def V6(i j:Int):Prop:=j≠0/\j.natAbs.log2<9000
instance (i j:Int):Decidable (CMulW i j):=by unfold CMulW;infer_instance
instance (i j:Int):Decidable (V6 i j):=by unfold V6;infer_instance
theorem Jw(i:Int):fI i<=i.natAbs.log2+1:=by
 unfold fI;split
 ·exact cP _
 ·exact aJ _
theorem CMulW.ok{i j:Int}(h:CMulW i j):IntMulOk i j:=by
 unfold IntMulOk jL.Int.intTooBig;have a:=Jw i;have d:=Jw j;have b:=h.1;have c:=h.2
 have:decide (((fI i:Int)+(fI j:Int))>(bitsLine:Int))=aB:=decide_eq_false (by
  have e:(bitsLine:Int)=134217728:=rfl;rw[e];omega)
 rw[this];simp
section
variable {X:Cx} {a b:av} {fa fb:XE} {pos:el}
theorem Di:Tg X (dE .Mult) (rI CMulW λi j=>.int (i*j)):=C9 λ_ _ _ _ _ _ _ a q=>mul_int q a.ok
theorem GP:Tg X (dE .FloorDiv) (rI V6 λi j=>.int (i.fdiv j)):=C9 λ_ _ _ _ _ _ _ a q=>ja a.1 q (.inl (PyProof.noPylong_of_log2 a.2))
abbrev UP:=Ij CMulW (· * ·)
abbrev QJ:=Ij V6 jB
theorem Wi(c:VE X a fa)(d:VE X b fb):VE X (.BinOp a .Mult b pos) (Zi UP fa fb):=Wy Di (Rf _ _) c d
theorem Vc(c:VE X a fa)(d:VE X b fb):VE X (.BinOp a .FloorDiv b pos) (Zi QJ fa fb):=Wy GP (Rf _ _) c d
end
theorem QK:∀{ns:List Int}{n:Int},n∈ns->n.natAbs.log2<=iJ (ns.map .int)
 | m::r,n,h=>by
  rw[dj];simp only[iJ,PySem.W.WData.weight];rcases a9.mp h with rfl | h
  ·by_cases a:n=0
   ·subst a;have:Nat.log2 (Int.natAbs 0)=0:=by decide +kernel
    omega
   ·rw[ku (by simpa using a)];omega
  ·have:=QK h;omega
open PySem.W PySem.Calls in
theorem law_walkB{l:PySem.W.OpenLaw}{q:bW}{j:List ak}{X:(ak->Option aH)->b9->Prop}{T:cN->b9->Prop}{d:DefRec}{KK:Params->aD}{x:ak}{D:List PV->Option PV}(k:Nat)(Y:l.most=aA 63)(O:d.params.defaults=[])
  (hr:Room k ji) (C:∀(w:cN)(q:ak)(c:aL),J0 q=aC->cZ (KK w.params) (.ref c) q=aC->False) (hD:∀b:List Int,b.length<=63->(∀n∈b,n.natAbs.log2<=1048576)->D [.cst (iL b)]=aA (.bl aC))
  (hY:∀(w:cN)(h:b9),T w h->(KK w.params).In h)
  (F:∀(w:cN)(m:ak->Option aH)(G:aL)(h:b9),(KK w.params).In h->h.Ns cV m->m d.name=aA (.ref G)->
   ∃I:du,(∀(s:aN)(u:aH),jd s I ⟨[u],[]⟩ [(x,u)])/\∀base:b9,(KK w.params).In base->base.Ns cV m->Ru l.prog w (KK w.params) m base Lw k G I [x] (Y5 (KK w.params) D 1)) (B:PyProof.Rows.importsNone q=aC:=by decide +kernel) :
  PySem.W.WalkO q j X T l.row.toRowW d [] (λf vs=>PySem.call f vs):=by
 intro w Q W m mb p yy G o pm cd doc dv kv ho hd hcd v N E U P as t A hrd M hlo;obtain rfl:dv = .none:=Dflts.none v O;obtain rfl:kv = .none:=Dflts.noKw v;obtain⟨a,vs,b,rfl,rfl,y,i,g⟩:=Att.script_of Y t M
 have hw:∀n∈b,n.natAbs.log2<=1048576:=λn h=>by
  have R:(WData.list (b.map jz)).layable=aC:=ao.mp A _ (ag.mpr rfl);unfold WData.layable at R;have J:=of_decide_eq_true (Bool.and_eq_true_iff.mp R).2;have L:WData.weightAll (b.map jz)<=1048576:=by simpa [WData.weight] using J
  exact aQ (QK h) L
 have S:=hY w _ yy;obtain⟨I,hb,hF⟩:=F w m G _ S p.T.g N;refine enter_call (je (L2.law_call (C w) S p.T.g p.T.b p.T.builtins p.T.nolimit (p.T.seer B) E y i (aQ g (by decide)) hr hF hb (λH hO hS=>BR (hD b g hw) hO hS) λH e s' z=>z) λr s' hq=>?_);obtain⟨rfl,J,L,Z⟩:=hq;exact⟨.inl ⟨.bool aC,.bool aC,[],rfl,λ_=>rfl,.bool aC,Att.post_true l _,λ_=>⟨List.Pairwise.nil,λ_ hm=>(nomatch hm)⟩⟩,J,L,Z⟩
end VL
namespace VL
open PySem PySem.Spec PyProof.Rows L2
noncomputable def GQ(i:Nat)(f0:XE):XS:=λs=>(f0 s).bind λl0=>match s[i]? with
 | some (aA l)=>if Yb l0=aC then aA (.rt (.tup [l0,l])) else none
 | _=>none
theorem GR{X:Cx}{O:List Nat}{e:av}{i:Nat}{c:XE}{pos:el}(h:PE X e (AW (Qc (tF X.K c) (Qc (Pq i) Er))))(d:i∈O:=by decide):VS X O [] (.Return (aA e) pos) (GQ i c):=PS.imp (Lk h) λD B H ⟨A,fps,s,n,r,e,k⟩=>by
 obtain⟨l0,u,e⟩:=Ze e;split at e
 case h_2=>cases e
 rename_i l t;split at e
 case isFalse=>cases e
 rename_i o;cases e;obtain⟨v,m,y⟩:=r.is i _ t;refine⟨λ_=>False,s,l0,λ_ z=>z.elim,r.env,u,λx g f1 s1 b _=>?_⟩;have:=Is.pure _ _ _ o b;subst this;refine⟨v,m,(by show 2<=sizeLine;decide),λq w=>?_⟩;have a:Same g (upd g q (.tup [x,v])):=Same.new w _;have f:=r.grow s1;refine k _ (fps i) _ (f.same.trans a) (Is.tup Zt ?_) (r.nd i d) λz j=>?_
 ·have p:=Iss.cons (b.mono a) (Iss.one ((y.mono s1).mono a));simpa using p
 ·have:=f.own i d z j;exact⟨this.1,Same.mut a this.2⟩
end VL
namespace PW
open PySem L2 VL
noncomputable def TC:XS:=(Zp (Rh (xB (Zi Hv (Za 1) (Zc YF [Za 0]))) (ZO (eP (Zi ZM (Za 0) (Za 1)))) YG)
  (ZO (eP (Zi Xt (Zi UH (Zi Yj (Zi Yj (Zi UH (Za 1) (Za 1)) (Zi UH (eC (.int 3)) (Za 1))) (eC (.int 1))) (eC (.int 5003))) (eC (.int 1999))))))
noncomputable def ZY:List PV->Option PV:=Yz 2 TC
noncomputable def QL:XS:=(Zp (Zq 3 (eP (Zi LA (Za 0) (eC (.int 2)))))
  (Zp (Rh (Qm (xB (Zi (Wg aB) (Zi Xt (Za 0) (eC (.int 2))) (eC (.int 1)))) (xB (Zi Li (Za 0) (Zi Py (eC (.int 10)) (eC (.int 9)))))) (Zp (Xn [] (ZT [Za 1]) (.one 4) (Zq 3 (eP (Zi LA (Za 3) (eC (.int 1000))))))
  (ZO (eP (Zi Xt (Za 3) (Za 2))))) YG)
  (Zp (Zq 3 (eP (Zi Yj (Zi Xt (Za 3) (eC (.int 999979))) (Zi UH (eC (.int 1009)) (Za 1)))))
  (Zp (Zq 3 (eP (Zi Xt (Zi Yj (Zi UH (Za 3) (Za 3)) (Zi UH (eC (.int 40503)) (Za 3))) (eC (.int 999983)))))
  (ZO (eP (Zi Xt (Zi LA (Zi Xt (Zi Yj (Zi UH (Za 3) (Za 3)) (Zi UH (eC (.int 7)) (Za 1))) (eC (.int 999961))) (eC (.int 11))) (Za 2))))))))
noncomputable def Zz:List PV->Option PV:=Yz 5 QL
noncomputable def RP:XS:=(Zp (Zq 4 (eP (Zc Mq [eC (.int 9),Zi Yj (Zi ZM (Zi ZM (Za 0) (Za 1)) (Za 2)) (Za 3)])))
  (Zp (Vt 0 (Za 1) (Za 2) (Za 4))
  (Vt 0 (Za 2) (Za 1) (Za 4))))
noncomputable def Vv:List PV->Option PV:=Av 5 RP
noncomputable def Nf:XS:=(Zp (Zq 2 (Zc ZY [Za 0,eC (.int 0)]))
  (Zp (Zq 3 (eP (Zi Yj (eC (.int 1)) (Zc Zz [Za 2,eC (.int 0),Za 1]))))
  (Zp (Zq 4 (Zr 1 [3] (ZT [Za 3]) (.one 0) Zy (Zi Mv (T8 [eC (.int 0)]) (Za 1))))
  (Zp (Zq 5 (T8 []))
  (Zp (Xn [4,5] (ZT [Za 3]) (.one 6) (Vs 5 (Zc Zz [Zc ZY [Za 0,Zi Yj (eC (.int 6)) (Za 6)],eC (.int 10),Zi Yj (Za 6) (eC (.int 1))]) (Za 6)))
  (Zp (Xn [4,5] (V0 [eC (.int 1),Za 3]) (.one 6) (Zp (Zq 7 (Zc ZY [Za 0,Za 6]))
  (MA 4 Vv [Zi ZM (Za 5) (Za 6),Zi ZM (Za 5) (Zc Zz [Za 7,eC (.int 1),Za 6]),Zi Yj (eC (.int 1)) (Zc Zz [Za 7,eC (.int 2),eC (.int 3)])])))
  (Zp (Rh (xB (Zi Li (Za 3) (eC (.int 1)))) (Xn [4,5] (ZT [Zc Zz [Za 2,eC (.int 3),eC (.int 6)]]) (.one 6) (Zp (Zq 7 (Zc ZY [Za 0,Zi Yj (eC (.int 7)) (Za 6)]))
  (Zp (Zq 8 (Zc Zz [Za 7,eC (.int 4),Za 3]))
  (Zp (Zq 9 (eP (Zi Xt (Zi Yj (Zi Yj (Za 8) (eC (.int 1))) (Zc Zz [Za 7,eC (.int 5),Zi XN (Za 3) (eC (.int 1))])) (Za 3))))
  (MA 4 Vv [Za 8,Za 9,Zi Yj (eC (.int 1)) (Zc Zz [Za 7,eC (.int 6),eC (.int 2)])]))))) YG)
  (ZO (eP (Zc ZP [Zr 1 [] (Vb (Za 4)) (.one 0) Zy (Zc ZP [Za 0])]))))))))))
noncomputable def Ng:List PV->Option PV:=Yz 10 Nf
noncomputable def Sh:XS:=(Zp (Rh (xB (Zi (Wg aB) (Zi Xt (Za 0) (eC (.int 5))) (eC (.int 4)))) (ZO (eP (Zi XN (Zi Xt (Zi UP (Za 0) (Za 0)) (Zi UP (eC (.int 2)) (Zi Py (eC (.int 10)) (eC (.int 29))))) (Zi Py (eC (.int 10)) (eC (.int 29)))))) YG)
  (Zp (Rh (xB (Zi (Wg aB) (Zi Xt (Za 0) (eC (.int 5))) (eC (.int 3)))) (ZO (eP (Zi XN (Zi Xt (Zi QJ (Za 0) (eC (.int 5))) (eC (.int 2001))) (eC (.int 1000))))) YG)
  (ZO (eP (Zi XN (Zi Xt (Zi QJ (Za 0) (eC (.int 5))) (eC (.int 13))) (eC (.int 6)))))))
noncomputable def Uw:List PV->Option PV:=Yz 1 Sh
noncomputable def Oy:XS:=(ZO (eP (Zc ZP [Zr 1 [0,1] (ZT [Za 2]) (.one 0) Zy (Zc Uw [Zc ZY [Za 1,Zi Yj (Za 2) (Za 0)]])])))
noncomputable def Vd:List PV->Option PV:=Yz 3 Oy
noncomputable def Iz:XS:=(ZO (eP (Zc VZ [Zr 1 [0,1] (B2 (Za 2)) (.one 0) Zy (Zi ZM (Zi ZM (Za 1) (Za 2)) (Za 0))])))
noncomputable def Ve:List PV->Option PV:=Yz 3 Iz
noncomputable def Rz:XS:=(Zp (Xn [] (Xu aB [Za 1]) (.many [3,4]) (Rh (Qm (xB (Zi (Im aC) (Za 3) (Za 2))) (xB (Zi Hv (Za 4) (Zc Ve [Za 0,Za 3,Za 2])))) (ZO (eP (Za 3))) YG))
  (ZO (eP (eC .non))))
noncomputable def Z7:List PV->Option PV:=Yz 5 Rz
noncomputable def Dj:XS:=(Zp (Zq 3 (T8 [eP (Za 2)]))
  (Zp (Zq 4 (Zc Z7 [Za 0,Za 1,Za 3]))
  (Zp (Xz (xB (Rx aC (Za 4))) (Zp (WE 3 (eP (Za 4)))
  (Zq 4 (Zc Z7 [Za 0,Za 1,Za 3]))))
  (ZO (Za 3)))))
noncomputable def RQ:List PV->Option PV:=Yz 5 Dj
noncomputable def IA:XS:=(ZO (Zr 2 [1] (Xu aB [Za 0]) (.many [0,1]) (Qm (xB (Zi (Wg aC) (Za 0) (Za 2))) (xB (Zi Hv (Za 1) (eC (.int 0))))) (eP (Za 0))))
noncomputable def YV:List PV->Option PV:=Yz 2 IA
noncomputable def IB:XS:=(ZO (eP (Zc ZP [Zr 2 [3,1,2,0] (U0 aB aB [Za 0,Za 1]) (.many [0,1]) Zy (Zi QJ (Zi XN (Zi UP (Zi ZM (Za 3) (Za 4)) (Za 0)) (Zi UP (Zi ZM (Za 5) (Za 4)) (Za 1))) (Za 2))])))
noncomputable def Si:List PV->Option PV:=Yz 4 IB
noncomputable def MB:XS:=(Zp (Zq 1 (Zc WR [Za 0]))
  (Zp (Zq 2 (eP (eC (.int 1))))
  (Zp (Xn [1] (ZT [Zc YF [Za 0]]) (.one 3) (Zp (Zq 4 (eP (Zi ZM (Za 1) (Za 3))))
  (Zp (Zq 1 (Zr 2 [3,4,2] (Xu aC [Za 1]) (.many [0,1]) Zy (eP (Ge (xB (Zi (Wg aB) (Za 0) (Za 2))) (Za 1) (Zc Si [Za 1,Za 3,Za 2,Za 4])))))
  (Zq 2 (eP (Zi ZM (Za 4) (Za 3)))))))
  (GQ 1 (Za 2)))))
noncomputable def QM:List PV->Option PV:=Yz 5 MB
noncomputable def QN:XS:=(Zp (Zq 2 (Zc QM [Zr 2 [] (U0 aB aB [Za 0,Za 1]) (.many [0,1]) Zy (Zi Oo (Za 0) (OV [Za 1]))]))
  (ZO (Zr 1 [2] (Vb (Zi ZM (Za 2) (eC (.int 1)))) (.one 0) Zy (eP (Zi QJ (Zi ZM (Za 0) (Gj Mo (eC (.int 1)))) (Zi ZM (Za 1) (eC (.int 0))))))))
noncomputable def Wo:List PV->Option PV:=Yz 3 QN
noncomputable def GS:XS:=(ZO (eP (Zc ZP [Zr 1 [1,0] (Vb (Za 2)) (.one 0) Zy (Ge (xB (Zi (Wg aB) (Za 0) (Za 1))) (Zc Uu [Za 2,Za 1]) (Gj Mo (Zi ZM (Zi ZM (Za 2) (Za 1)) (Za 0))))])))
noncomputable def QO:List PV->Option PV:=Yz 3 GS
noncomputable def Sj:XS:=(Zp (Zq 2 (Zr 1 [1] (ZT [Zc YF [Za 0]]) (.one 0) (xB (Zi (Wg aC) (Za 0) (Za 1))) (eP (Za 0))))
  (ZO (eP (Zc ZP [Zr 1 [0,2] (Vb (Za 2)) (.one 0) Zy (Zc QO [Za 1,Za 0,Za 2])]))))
noncomputable def YW:List PV->Option PV:=Yz 3 Sj
noncomputable def IC:XS:=(Zp (Zq 3 (eP (Zi Oo (RI Ry (Za 1) Lj (UJ (Za 2))) (RI Ry (Za 1) (UJ (Zi Yj (Za 2) (eC (.int 1)))) Lj))))
  (Zp (Zq 4 (Zc Wo [Zc YW [Za 0,Za 2],Za 3]))
  (Zp (Vs 4 (Za 2) (eC (.int 0)))
  (ZO (eP (Zc ZP [Za 4]))))))
noncomputable def Wk:List PV->Option PV:=Yz 5 IC
noncomputable def MC:XS:=(ZO (eP (Zc ZP [Zr 1 [1] (ZT [Zc YF [Za 0]]) (.one 0) Zy (Ge (xB (Zi (Im aB) (Za 0) (Za 1))) (Gj Mo (eC (.int 1))) (eC (.int 0)))])))
noncomputable def Xg:List PV->Option PV:=Yz 2 MC
noncomputable def Jx:XS:=(Zp (Zq 1 (eP (Zc Cu [Za 0])))
  (ZO (eP (Zc ZP [Zr 1 [1] (T9 (Za 0)) (.one 0) Zy (Zi XN (Za 0) (Za 1))]))))
noncomputable def Vw:List PV->Option PV:=Yz 2 Jx
noncomputable def GU:XS:=(Zp (Zq 3 (Zc Wk [Za 0,Za 1,Za 2]))
  (Zp (Zq 4 (Zc UO [Za 0,Za 1,Za 3]))
  (Zp (Zq 5 (Zc YV [Za 4,Za 2]))
  (Zp (Xz (xB (Zi Li (Zc YF [Za 5]) (eC (.int 0)))) (Zp (Zq 6 (Zc Xg [Za 0,Za 5]))
  (Zp (Zq 3 (Zc U1 [Za 3,Za 6]))
  (Zp (Zq 4 (Zc UO [Za 0,Za 4,Za 6]))
  (Zq 5 (Zc YV [Za 4,Za 2]))))))
  (ZO (OV [Zc Vw [Za 3],eP (Za 4),Zc RQ [Za 0,Za 4,Za 2]]))))))
noncomputable def Yl:List PV->Option PV:=Yz 7 GU
noncomputable def Dk:XS:=(ZO (eP (OT (Zc UN [Za 0,eC (.ty "tuple")]) (OT (Zi (Wg aB) (Zc YF [Za 0]) (Za 1)) (Zc LJ [Zr 1 [] (T9 (Za 0)) (.one 0) Zy (Zc Wj [Za 0])])))))
noncomputable def RS:List PV->Option PV:=Yz 2 Dk
noncomputable def Nh:XS:=(Zp (Zq 3 (T8 []))
  (Zp (Xn [3] (ZT [Zc YF [Za 0]]) (.one 4) (Zp (Zq 5 (eP (Zc VZ [Zr 1 [0,4,2] (ZT [Zc YF [Za 0]]) (.one 0) Zy (Zi UH (Zi ZM (Zi ZM (Za 1) (Za 2)) (Za 0)) (Zi XN (Zi ZM (Za 3) (Za 2)) (Zi ZM (Za 3) (Za 0))))])))
  (WE 3 (eP (Zi XN (Zi ZM (Za 1) (Za 4)) (Za 5))))))
  (ZO (eP (Zc ZP [Za 3])))))
noncomputable def Ux:List PV->Option PV:=Yz 6 Nh
noncomputable def TF:XS:=(Zp (Zq 3 (Zc Yl [Za 0,Za 1,eC (.int 0)]))
  (Zp (Zq 4 (Zc Yl [Za 0,Za 2,eC (.int 0)]))
  (Zp (Rh (xB (Zi (Wg aC) (Zi ZM (Za 3) (eC (.int 1))) (Zi ZM (Za 4) (eC (.int 1))))) (ZO (eP (eC .non))) YG)
  (ZO (Zc Vw [Zc Uv [Zi ZM (Za 3) (eC (.int 0)),Zi ZM (Za 4) (eC (.int 0))]])))))
noncomputable def Uy:List PV->Option PV:=Yz 5 TF
noncomputable def Sk:XS:=(Zp (Rh (xB (Zi (Wg aB) (Zi Xt (Za 0) (eC (.int 4))) (eC (.int 3)))) (ZO (eP (Zi XN (Zi Xt (Zi UP (Za 0) (Za 0)) (Zi UP (eC (.int 2)) (Zi Py (eC (.int 10)) (eC (.int 26))))) (Zi Py (eC (.int 10)) (eC (.int 26)))))) YG)
  (ZO (eP (Zi XN (Zi Xt (Zi QJ (Za 0) (eC (.int 4))) (eC (.int 9))) (eC (.int 4))))))
noncomputable def Uz:List PV->Option PV:=Yz 1 Sk
noncomputable def QP:XS:=(ZO (eP (Zc ZP [Zr 1 [0,1] (ZT [Za 2]) (.one 0) Zy (Zc Uz [Zc ZY [Za 1,Zi Yj (Za 2) (Za 0)]])])))
noncomputable def Wq:List PV->Option PV:=Yz 3 QP
end PW
namespace L2
open PySem PySem.Spec PyProof.Rows
abbrev WJ:=aL->dN->List (List Pp×V)->It
end L2
namespace VL
open PySem PySem.Spec PyProof.Rows L2
variable {K:aD}
instance (x:ak) (n:Int):Decidable (MulOk x n):=by unfold MulOk;infer_instance
end VL
set_option maxHeartbeats 3200000
namespace VX
open PySem PySem.Spec PyProof.Rows L2 VL
abbrev XR:=ZH->Option ak
noncomputable def tFX(K:aD)(O:List Nat)(fx:XR)(E:XK):TS:=λ_ σ H=>∃H0 fps s n,Rel K O H0 fps s σ H/\fx s=aA n/\∀C H',iT K cV n=aA (aA (.ref C))->Same H0 H'->E (.ref C) none H'
noncomputable def VX(X:Cx)(O:List Nat)(E:XK)(st:bb)(fx:XR):Prop:=PS X st (tFX X.K O fx E)
abbrev XF:=ZH->Option (ak×PV)
end VX
namespace VL
open PySem PySem.Spec PyProof.Rows L2
theorem Zak{X:Cx}{g e:av}{f:XE}(h:VE X e f):VI X g e (B2 f):=by
 intro c s d H R I ⟨a,st,ls,b,env,e,k⟩;unfold B2 at e
 cases q:Vb f st with
 | some m=>
  rw[q] at e;cases e;exact Y8 h c s d H R I ⟨a,st,_,b,env,q,k⟩
 | none=>
  rw[q] at e;exact Qs h c s d H R I ⟨a,st,ls,b,env,e,k⟩
theorem Inv.freezeL{X:Cx}{i:List (aL×dN)}{j:Rc}{H:Hp}{s:aN}{d:aL}{f:List V}{o:dN}(I:L2.Inv X i j H s)(g:H d=aA (.lst f))(p:s.heap.get? d=aA o) :
  L2.Inv X i j (upd H d (.frz o (.lst f))) s:=by
 have ne:∀b u,H b=aA u->(∀k,u≠.lst k)->b≠d:=λb u q n z=>by rw[z,g] at q;exact n _ (ay q).symm
 have m:∀b,H b=none->b≠d:=λb q z=>by rw[z,g] at q;cases q
 have un:Un X.fs [] H (upd H d (.frz o (.lst f))) s.heap s.heap:=
  ⟨λb o q _ _ _=>q,λb o q _ _ _=>⟨o.slots,q⟩,λb o q n _=>by rw[upd_ne (m b n)];exact n,λb o q _=>⟨o,q⟩,
   λb f q=>by rw[upd_ne (ne b _ q λ_ z=>nomatch z)];exact q,λb o u q=>by rw[upd_ne (ne b _ q λ_ z=>nomatch z)];exact q,λb r q=>⟨#[],by rw[upd_ne (ne b _ q λ_ z=>nomatch z),q];simp⟩⟩
 have h:HOk X.prog X.w (upd H d (.frz o (.lst f))) s.heap:=λb u q=>by
  have e:∀c y,H c=aA (.own y)->upd H d (.frz o (.lst f)) c=aA (.own y):=λc y z=>by rw[upd_ne (ne c _ z λ_ z=>nomatch z)];exact z
  have a:∀c xs',H c=aA (.tup xs')->upd H d (.frz o (.lst f)) c=aA (.tup xs'):=λc y z=>by rw[upd_ne (ne c _ z λ_ z=>nomatch z)];exact z
  by_cases l:b=d
  ·subst l;rw[Zt] at q;cases q;exact⟨p,(I.hok b _ g).stay (λ_ _ _ z=>z) (λc z=>e c _ z) a λc u z=>by rw[upd_ne (ne c _ z λ_ z=>nomatch z)];exact z⟩
  ·rw[upd_ne l] at q;exact(I.hok b u q).stay (λ_ _ _ z=>z) (λc z=>e c _ z) a λc u z=>by rw[upd_ne (ne c _ z λ_ z=>nomatch z)];exact z
 have:=I.un (t':=s.toks) un h;exact this
noncomputable def PD(f:XE):XE:=λs=>(f s).bind λl=>match l with
 | .lst m=>(XY m).map λns=>.cst (iL ns)
 | _=>none
theorem Sl{X:Cx}{e:av}{f:XE}(h:VM X e f):VE X e (PD f):=by
 intro B s C H Q I ⟨S,st,l,O,env,A,k⟩;obtain⟨m,x,j⟩:=Ze (A)
 cases m with
 | lst ms=>
  obtain⟨i,D,J⟩:=map_some (j);subst J;have F:=XQ D;subst F;refine YS (h B s C H (λv d=>∃p,v = .ref p/\d p=aA (.lst (i.map V.int))/\Same H d/\H p=none) I ⟨st,.lst (iL i),env.free,x,λv M P c is U G=>?_⟩) λu s1 ⟨v,d,g,L,p,y,a,c,t⟩=>?_
  ·obtain⟨p,W,N,rfl,a,E,rfl⟩:=is.lst_inv;obtain⟨rfl,rfl⟩:=E.iL;exact⟨p,rfl,a,c,(G p (by simp)).1⟩
  ·subst y;obtain⟨z,R,n,r,T,e⟩:=g.lstM a;refine⟨.ref p,_,Inv.freezeL g a e,L,k _ _ [] (λb o q=>?_) ?_ (by simp)⟩
   ·rw[upd_ne (λw=>by rw[w,t] at q;cases q)];exact c b o q
   ·unfold Is;exact⟨p,_,rfl,.inl ⟨_,Zt⟩,Iss.ofInts _⟩
 | _=>cases j
end VL
namespace L2
open PySem PySem.Spec PyProof.Rows
abbrev Jy(x:ak):ak->Bool:=λy=>y==x
structure CellF(N:List ak)(around scope:dP)(x:ak)(fr:List ak)(ix:List Nat):Prop where
 kind:scope.kind = .function
 cf:∀n acc,g8 n scope.names acc=(x,n)::acc
 pc:∀h,kA h scope.names=h.push { cls:=.type "cell",data:=.cell none }
 cells:∀y∈scope.names,y.2 = .cell->y.1=x
 names:∀y∈scope.names,y.2 = .local->scope.names.lookup y.1=aA .local
 frees:∀y∈scope.names,y.2 = .free->(around.names.lookup y.1=aA .cell\/around.names.lookup y.1=aA .free)
 slots:fr.map aA=ix.map (λi=>N[i]?)
 outs:∀z∈fr,(z,bQ)∈scope.names
 apart:∀z∈fr,scope.names.lookup z=aA .free
 ne:∀z∈fr,z≠x
theorem CellF.clos{X:Cx}{b:List (aL×dN)}{f:St}{H:Hp}{s:aN}{a:dP}{x:ak}{fr:List ak}{ix:List Nat}(S:CellF X.N X.env.scope a x fr ix)(I:Inv X b f H s):∀y∈a.names,y.2 = .free->(X.env.cells.lookup y.1).isSome=aC:=λy g d=>by obtain⟨c,e⟩:=I.ok.has y.1 (S.frees y g d);rw[e];rfl
theorem ID{M:Model}{A:cH}{E:aH->aN->Prop}{s:aN}{N:List ak}{d b:dP}{a:aL}{f:ak}{c:ju}{x:ak}{fr:List ak}{ix:List Nat}{cl:List (ak×aL)}{Q:ju->aN->Prop}(S:CellF N d b x fr ix)
  (i:Q (newEnv b s.heap.objs.size a ((x,s.heap.objs.size+1)::cl) f none .none (aA c) jU) { s with heap:=(s.heap.push { cls:=.type "dict",data:=.dict #[] }).push { cls:=.type "cell",data:=.cell none } }) :
  bH M A (gi b a cl [] f none .none (aA c)) Q E s:=by
 simp only[gi,Option.isSome_some,if_true];refine aM (wpAny_alloc ?_);refine aM (wpAny_layCells _ (λh g cells=>by cases hkc:g==br<;>simp[hkc]) _ _ _ _ ?_);refine aM (aj (aj ?_));have e:(s.heap.push { cls:=.type "dict",data:=.dict #[] }).objs.size=s.heap.objs.size+1:=cA ..;rw[S.pc];simp only[S.cf,e];exact i
theorem YQ{x y:ak}{a c:aL}{cl:List (ak×aL)}(h:((x,a)::cl).lookup y=aA c):(y=x/\c=a)\/(y≠x/\cl.lookup y=aA c):=by
 rw[bU] at h
 cases q:y==x with
 | true=>rw[q] at h;exact .inl ⟨by simpa using q,by simpa using h.symm⟩
 | false=>rw[q] at h;exact .inr ⟨by simpa using q,h⟩
section
variable {X:Cx} {tg ko iter:av} {kj:List av} {scope:dP} {pos:el} {x:ak} {fr:List ak} {ix:List Nat} {wi:TI} {g:TG} {tt:TT} {te:TE}
abbrev clF(X:Cx)(scope:dP)(x:ak)(C:aL):List (ak×aL):=(x,C+1)::XM X.env.cells scope.names []
theorem LW{kf:List (aL×dN)}{E:St}{H:Hp}{s2:aN}{L:List aL}{h₁:b9}{tk:Nat}{C:aL}(S:CellF X.N X.env.scope scope x fr ix)(a:Inv X kf E H s2)(f2:∀b∈L,Vh X kf H b)(I:∀b∈L,b<s2.heap.objs.size)
  (D:s2.heap.objs.size<=C) (R:h₁.Ns C λ_=>none) (U:h₁.IsCell (C+1) none) (t:∀b o,s2.heap.get? b=aA o->h₁.get? b=aA o) :
  Inv (N4 (Jy x) X (x::fr) scope (clF X scope x C) C s2 H L) [] (Z1 1 ix E) H { s2 with heap:=h₁,toks:=tk }:=by
 have T:=a.stkSub;have cs:=S.clos a;have sub:∀y c,(XM X.env.cells scope.names []).lookup y=aA c->X.env.cells.lookup y=aA c:=λy c e=>W8 scope.names [] cs (λh=>by simp at h) e;have lt:∀y c,(XM X.env.cells scope.names []).lookup y=aA c->c<s2.heap.objs.size:=λy c e=>by obtain⟨v,q⟩:=a.cell y c (sub y c e);exact q.lt
 have O:(N4 (Jy x) X (x::fr) scope (clF X scope x C) C s2 H L).Ok:=by
  refine⟨a.ok.mod,S.kind,a.ok.glob,a.ok.blt,D,λy z c w f=>?_,λy Q=>?_,λy c Z e=>?_,a.ok.hd,a.ok.frames,.inl rfl,λb A=>⟨?_,λy c e=>?_⟩,a.bs,?_,λb o e A=>?_,λb A z=>?_,a.stack,a.stkFree,a.ok.tab.un a.base,λ_ z=>absurd rfl z⟩
  ·rcases YQ w with⟨g,d⟩ | ⟨g,d⟩<;>rcases YQ f with⟨b1,M⟩ | ⟨b1,M⟩
   ·rw[g,b1]
   ·have h:=lt z c M;rw[d] at h;exact absurd (aa h D) (gG.mpr (ir C))
   ·have h:=lt y c d;rw[M] at h;exact absurd (aa h D) (gG.mpr (ir C))
   ·exact a.ok.inj y z c (sub y c d) (sub z c M)
  ·have Q:=Q
   have:∃k',(relabel scope X.env).names.lookup y=aA k'/\(k' = .cell\/k' = .free):=by
    rcases Q with h | h
    ·exact⟨_,h,.inl rfl⟩
    ·exact⟨_,h,.inr rfl⟩
   obtain⟨k',e,hk'⟩:=this;obtain⟨k,e0⟩:=We e;have N:=YT (env:=X.env) e0;have e:(scope.names.map λ(n,k)=>if(k==bQ&&X.env.scope.kind==.function&&X.env.kindOf n==aA .cell) then(n,br) else(n,k)).lookup y=aA k':=e;rw[N] at e;have m:=cu e0;by_cases F:y=x
   ·subst F;exact⟨C+1,by show((y,C+1)::_:List (ak×aL)).lookup y=_;simp[bU]⟩
   cases k with
   | free=>
    obtain⟨c,Y⟩:=bq.mp (W9 (cells:=X.env.cells) _ [] m);refine⟨c,?_⟩;show((x,C+1)::_:List (ak×aL)).lookup y=_;rw[bU,show(y==x)=aB by simpa using F];exact Y
   | cell=>exact absurd (S.cells _ m rfl) F
   | _=>simp at e;subst e;rcases hk' with z | z<;>cases z
  ·show s2.heap.objs.size<=c;have Z:(y==x)=aC:=Z;rcases YQ e with⟨g,d⟩ | ⟨g,d⟩
   ·rw[d];exact fZ D
   ·exact absurd (by simpa using Z) g
  ·exact bA (aa (I b A) D)
  ·rcases YQ e with⟨g,d⟩ | ⟨g,d⟩
   ·rw[d];exact fD (aa (I b A) (fZ D))
   ·exact(f2 b A).2.2.2.2.1 y c (sub y c d)
  ·exact aQ a.ok.bsz a.sz
  ·rcases(f2 b A).2.2.2.1 with z | z
   ·exact a.ok.noex b o e z
   ·exact absurd (aa (aS (a.ok.bs b o e).1) z) (cD _)
  ·rcases a9.mp (T b z) with e | e
   ·exact(f2 b A).2.1 e
   ·exact(f2 b A).2.2.1 e
 have sl:fr.length=ix.length:=by simpa using congrArg gL S.slots
 refine⟨O,rfl,a.bare,Un.kept t,⟨_,R,λi y v w f s=>?_⟩,λy c e=>?_,a.hok.fresh D,λy c e=>?_,λp hp=>absurd (show p∈([]:List (aL×dN)) from hp) (by simp),a.hok.kept t,?_⟩
 ·have w:(x::fr)[i]?=aA y:=w;unfold Z1 at f
  cases i with
  | zero=>simp at f
  | succ i=>
   have w:fr[i]?=aA y:=by simpa using w
   have f:(ix.map λi=>(E[i]?).join)[i]?=aA (aA v):=by simpa using f
   rw[aW] at f
   cases ej:ix[i]? with
   | none=>rw[ej] at f;cases f
   | some j=>
    rw[ej] at f;have f:(E[j]?).join=aA v:=by simpa using f
    have f:E[j]?=aA (aA v):=by
     cases q:E[j]? with
     | none=>rw[q] at f;cases f
     | some z=>rw[q] at f;exact congrArg aA f
    have hN:X.N[j]?=aA y:=by have q:=congrArg (λl=>l[i]?) S.slots;simp only[aW,w,ej] at q;exact(ay q).symm
    have G:=cI w;have hm:=S.outs y G;have hk:=S.frees _ hm rfl;obtain⟨m,hn,hl⟩:=a.loc;obtain⟨u,r,l⟩:=hl j y v hN f (by rcases hk with k | k;exact .inr (.inl k);exact .inr (.inr k));refine⟨u,r,?_⟩;rcases l with⟨k,_⟩ | ⟨_,c,Y,B⟩
    ·have k:X.env.scope.names.lookup y=aA .local:=k;rcases hk with q | q<;>rw[k] at q<;>cases q
    ·obtain⟨c',J⟩:=bq.mp (W9 _ [] hm);have ec:=sub y c' J;rw[Y] at ec;cases ec;refine .inr ⟨?_,c,?_,?_⟩
     ·have s:=s;rcases s with s | s
      ·have N:=YT (env:=X.env) (S.apart y G);have s:(scope.names.map λ(n,k)=>if(k==bQ&&X.env.scope.kind==.function&&X.env.kindOf n==aA .cell) then(n,br) else(n,k)).lookup y=aA .local:=s;rw[N] at s;exfalso;split at s<;>cases s
      ·exact s
     ·show((x,C+1)::_:List (ak×aL)).lookup y=_;rw[bU,show(y==x)=aB by simpa using S.ne y G];exact J
     ·obtain⟨o,W,P⟩:=B;exact⟨o,t _ _ W,P⟩
 ·rcases YQ e with⟨g,d⟩ | ⟨g,d⟩
  ·rw[d];exact⟨_,U⟩
  ·obtain⟨v,o,W,P⟩:=a.cell y c (sub y c d);exact⟨v,o,t _ _ W,P⟩
 ·rcases YQ e with⟨g,d⟩ | ⟨g,d⟩
  ·rw[d];exact a.hok.fresh (by omega)
  ·exact a.freeC y c (sub y c d)
 ·show(Z1 1 ix E).length=(x::fr).length;unfold Z1;rw[az,cy,aO,bh,sl];omega
theorem Ni{L:List (aL×dN)}{M:St}{t:Hp}{s2:aN}{U:List aL}{it:aL}{tn:Nat->b9->Prop}{J:It}{Fin:List V->Hp->Prop}{Z:aH->aL->k8->aN->Prop}{E:aH->aN->Prop}
  (k:X.calm=aC) (S:CellF X.N X.env.scope scope x fr ix)
  (hg:∀cl C s H ex,PG (N4 (Jy x) X (x::fr) scope cl C s H ex) tg g) (ht:∀cl C s H ex,Lx (N4 (Jy x) X (x::fr) scope cl C s H ex) kj tt) (he:∀cl C s H ex,PE (N4 (Jy x) X (x::fr) scope cl C s H ex) ko te)
  (O:Inv X L M t s2) (T:OG X.prog X.w X.K tg J U it tn) (A:tn 0 s2.heap) (f2:∀b∈U,Vh X L t b)
  {W:Nat->Nat->List V->Hp->Prop} {m0:Nat} (w0:W 0 m0 [] t)
  (turn:∀i m ys H,W i m ys H->ys.length<=sizeLine/\
   ((J.stop i H/\Fin ys H)\/
    (J.go i H/\∃N:List V->Hp->Prop,(∀ys' H',N ys' H'->∃m',m'<m/\W (i+1) m' ys' H')/\
     ∀x H',J.yld i H x H'->g x (Z1 1 ix M) H' λl t=>l.drop 1=(Z1 1 ix M).drop 1/\tt l t λb H3=>if b=aC then te l H3 λy H4=>N (ys++[y]) H4 else N ys H3)))
  (Q:∀(D C:aL)(oC:dN)(m:ak->Option aH)(s':aN)(H':Hp)(ys:List V),Inv X (L++[(C,oC)]) M (upd H' D (.lst ys)) s'->s'.heap.get? C=aA oC->s'.heap.Ns C m->Vh X L (upd H' D (.lst ys)) C->H' D=none->Fin ys H'->Z (.ref D) C (.ok .next) s') :
  bH (model X.prog X.w) X.A (newList []) (λF w=>bH (model X.prog X.w) X.A (gi scope X.env.globals (XM X.env.cells scope.names []) [] X.env.qual none .none (aA X.env)) (λf G=>
   iO (model X.prog X.w) X.A (.compStart (.ListComp ko [⟨tg,iter,kj,0⟩] scope pos) 0 (.ref it) F { f with scope:=relabel scope X.env }) (Z F f.locals) G) E w) E s2:=by
 have I:∀b∈U,b<s2.heap.objs.size:=λb P=>by obtain⟨o,e,_⟩:=T.obj 0 s2.heap A b P;exact aS e
 refine dH (ID S ?_)
 dsimp only
 generalize j:s2.heap.push { cls:=.type "list",dict:=none,data:=.seq ([]:List aH).toArray }=G2;have R:G2.objs.size=s2.heap.objs.size+1:=by rw[<-j,cA]
 have a:=(b9.Ns.new G2 (.type "dict")).push { cls:=.type "cell",data:=.cell none };generalize d:(G2.push { cls:=.type "dict",data:=.dict #[] }).push { cls:=.type "cell",data:=.cell none }=h₁ at a ⊢;have ext:∀b o,G2.get? b=aA o->h₁.get? b=aA o:=λb o e=>d▸aF _ (aF _ e);have B:h₁.IsCell (G2.objs.size+1) none:=by refine⟨{ cls:=.type "cell",data:=.cell none },?_,rfl⟩;rw[<-d,show G2.objs.size+1=(G2.push { cls:=.type "dict",data:=.dict #[] }).objs.size from(cA ..).symm];exact a0 _ rfl
 generalize hCC:G2.objs.size=C at a R B ⊢;generalize p:s2.heap.objs.size=D at R ⊢;have hDC:D≠C:=by omega
 have n:∀b,b<s2.heap.objs.size->b≠C/\b≠D:=λb P=>by rw[p] at P;exact⟨bA (by omega),bA P⟩
 have r:∀b o,s2.heap.get? b=aA o->h₁.get? b=aA o:=λb o e=>ext b o (j▸aF _ e)
 have u:h₁.get? D=aA { cls:=.type "list",data:=.seq ([]:List aH).toArray 0 }:=by
  have e0:G2.get? D=aA { cls:=.type "list",data:=.seq ([]:List aH).toArray 0 }:=by rw[<-j,<-p];exact a0 _ rfl
  exact ext _ _ e0
 have I0:=λtk=>LW (tk:=tk) S O f2 I (C:=C) (by omega) a B r;refine P6 (s2:=s2) (h₁:=h₁) (fv:=Jy x) (N:=x::fr) (C:=C) (D:=D) (cl:=clF X scope x C) (kk:=1) (ix:=ix) k (hg _ _ _ _ _) (ht _ _ _ _ _) (he _ _ _ _ _) O T A f2 w0 turn Q I R p r u I0 λy c e z=>?_;rcases YQ e with⟨a1,Y⟩ | ⟨a1,Y⟩
 ·have q:C+1=D:=Y.symm.trans z;omega
 ·obtain⟨v,q⟩:=O.cell y c (W8 scope.names [] (S.clos O) (λh=>by simp at h) Y);exact(n c q.lt).2 z
theorem IE(c:X.calm=aC)(B:PI X tg iter wi)(S:CellF X.N X.env.scope scope x fr ix)
  (k:∀cl C s H ex,PG (N4 (Jy x) X (x::fr) scope cl C s H ex) tg g) (l:∀cl C s H ex,Lx (N4 (Jy x) X (x::fr) scope cl C s H ex) kj tt) (p:∀cl C s H ex,PE (N4 (Jy x) X (x::fr) scope cl C s H ex) ko te)
  (r:∀x,b7 iter X.env x=pure x:=by intro _;rfl):PE X (.ListComp ko [⟨tg,iter,kj,0⟩] scope pos) (Qg 1 ix wi g tt te):=by
 intro t s u H Q I h;refine fL rfl r (WO (S.clos I)) S.kind S.names (YS (B t s u H _ I h) λv s1 z=>YS z λE s2 M=>?_);obtain⟨it,R,Z,J,O,e,y,T,d,f2,W,⟨N,w⟩,turn⟩:=M;subst e;refine Ni c S k l p y T d f2 w turn ?_;intro D C Y m P j G F q n a A i;refine⟨m,n,λU f=>⟨.ref D,upd j D (.lst G),?_,rfl,i D A⟩⟩;exact(F.unpinned).turned (λb o L e=>f.extBut b o L e) a.1 a.2.1 a.2.2.2.1 a.2.2.2.2.1 a.2.2.2.2.2
noncomputable def LX(N:List ak)(around scope:dP)(x:ak)(fr:List ak)(ix:List Nat):Bool:=
 (match scope.kind with | .function=>aC | _=>aB)&&(scope.names.filter (λy=>y.2==.cell)==[(x,.cell)])&&scope.names.all (λy=>y.2 != .local || scope.names.lookup y.1==aA .local)&&
 scope.names.all (λy=>y.2 != .free || (around.names.lookup y.1==aA .cell || around.names.lookup y.1==aA .free))&&(fr.map aA==ix.map (λi=>N[i]?))&&
 fr.all (λz=>scope.names.contains (z,bQ))&&fr.all (λz=>scope.names.lookup z==aA .free)&&fr.all (λz=>z != x)
theorem Cv{x:ak}:∀(names:List (ak×dR))(n:Nat)(a:List (ak×aL)),(names.filter (λy=>y.2==.cell)=[(x,.cell)]->g8 n names a=(x,n)::a)/\(names.filter (λy=>y.2==.cell)=[]->g8 n names a=a)
 | [],n,a=>⟨λh=>by simp at h,λ_=>rfl⟩
 | (y,k)::r,n,a=>by
  have b:=λn a=>Cv (x:=x) r n a;unfold g8
  cases q:k==br with
  | true=>
   rw[kr rfl,gH,show((y,k).2==br)=aC from q,kr rfl];refine⟨λh=>?_,λh=>by simp at h⟩;injection h with h1 h2;cases h1;exact(b _ _).2 h2
  | false=>
   rw[ku bT,gH,show((y,k).2==br)=aB from q,ku bT];exact b n a
theorem Cw{x:ak}:∀(names:List (ak×dR))(h:b9),(names.filter (λy=>y.2==.cell)=[(x,.cell)]->kA h names=h.push { cls:=.type "cell",data:=.cell none })/\(names.filter (λy=>y.2==.cell)=[]->kA h names=h)
 | [],h=>⟨λh=>by simp at h,λ_=>rfl⟩
 | (y,k)::r,h=>by
  have a:=λh=>Cw (x:=x) r h;unfold kA
  cases q:k==br with
  | true=>
   rw[kr rfl,gH,show((y,k).2==br)=aC from q,kr rfl];refine⟨λh=>?_,λh=>by simp at h⟩;injection h with h1 h2;exact(a _).2 h2
  | false=>
   rw[ku bT,gH,show((y,k).2==br)=aB from q,ku bT];exact a h
theorem IF{N:List ak}{b a:dP}{x:ak}{fr:List ak}{ix:List Nat}(h:LX N b a x fr ix=aC):CellF N b a x fr ix:=by
 unfold LX at h;simp only[bX] at h;obtain⟨⟨⟨⟨⟨⟨⟨i,d⟩,o⟩,k⟩,j⟩,p⟩,l⟩,m⟩:=h;have d:a.names.filter (λy=>y.2==.cell)=[(x,.cell)]:=by simpa using d
 refine⟨?_,λn g=>(Cv _ n g).1 d,λh=>(Cw _ h).1 d,λy f e=>?_,λy f e=>?_,λy f e=>?_,by simpa using j,λz c=>?_,λz c=>?_,λz c=>?_⟩
 ·split at i
  ·assumption
  ·cases i
 ·have:y∈a.names.filter (λy=>y.2==.cell):=gQ.mpr ⟨f,by rw[e];rfl⟩;rw[d] at this;rw[ag.mp this]
 ·have:=ao.mp o y f;rw[e] at this;simpa using this
 ·have:=ao.mp k y f;rw[e] at this;simpa using this
 ·simpa using ao.mp p z c
 ·simpa using ao.mp l z c
 ·simpa using ao.mp m z c
end
end L2
namespace VL
open PySem PySem.Spec PyProof.Rows L2
section
variable {X:Cx} {tg ko iter:av} {kj:List av} {scope:dP} {pos:el} {fi:XL} {T:Tgt} {ft:XT} {fe:XE}
theorem IG(x:ak)(fr:List ak)(ix:List Nat)(b:X.calm=aC)(g:VI X tg iter fi)(S:LX X.N X.env.scope scope x fr ix=aC)
  (c:∀cl C s H a,PG (N4 (Jy x) X (x::fr) scope cl C s H a) tg (gT X.K T)) (e:∀cl C s H a,Ar (N4 (Jy x) X (x::fr) scope cl C s H a) kj ft) (f:∀cl C s H a,VM (N4 (Jy x) X (x::fr) scope cl C s H a) ko fe)
  (h:∀i∈T.slots,i<1:=by decide) (d:∀x,b7 iter X.env x=pure x:=by intro _;rfl):VM X (.ListComp ko [⟨tg,iter,kj,0⟩] scope pos) (Zr 1 ix fi T ft fe):=
 PE.imp (IE b g (IF S) c (λcl C s H a=>(show Lx (N4 (Jy x) X (x::fr) scope cl C s H a) kj (Ml X.K ft) from e cl C s H a)) (λcl C s H a=>(show PE (N4 (Jy x) X (x::fr) scope cl C s H a) ko (tM X.K fe) from f cl C s H a)) d) (O1 h)
end
end VL
namespace L2
open PySem PySem.Spec PyProof.Rows
theorem IH{X:Cx}(J:X.calm=aC):XJ X (.builtin "any") (λm H Q=>∃(b:Bool) (p:aL) (ns:List Int),m=[.ref p]/\Ra b X.K H p (ns.map V.int)/\Q (.bl (ns.any λz=>z != 0)) H):=by
 intro O s P H m S Q I r h;obtain⟨b,p,bs,rfl,E,q⟩:=h;obtain⟨u,rfl,y⟩:=Ti r;cases y;obtain⟨j,l,a,M⟩:=I.seqB E;have w:p<s.heap.objs.size:=let⟨_,e⟩:=a.has;aS e;have k:=l.length;rw[aO] at k;refine call_any_walk (Yh a ?_);refine⟨_,_,_,_,_,_,λi=>bs.getD i 0 != 0,rfl,Walks.seqB (A:=X.A.in1) b (I.ok.hd J) s.heap.objs.size p (bA w) j.toArray,⟨IterB.new (a0 _ rfl),a.at λo e=>aF _ e⟩,λi v N T L g C=>?_,λR tk G=>?_⟩
 ·have g:j.toArray[i]?=aA v:=g;have g:j[i]?=aA v:=by simpa using g
  have d:i<bs.length:=by rw[k];exact(aU.mp g).1
  obtain⟨u,n,F⟩:=l.get (i:=i) (x:=.int bs[i]) (by rw[aW,aI d];rfl);rw[g] at n;cases n;obtain⟨t,rfl⟩:=F;refine PyProof.Rows.truthy_int ?_;have e:bs.getD i 0=bs[i]:=by rw[aG,aI d];rfl
  rw[<-e];exact C
 ·have e:(aE j.toArray.size).any (λi=>bs.getD i 0 != 0)=bs.any λz=>z != 0:=by
   rw[aP,<-k,i6,dz,dz];constructor
   ·rintro⟨i,d,h⟩;have d:=aR.mp d;rw[aG,aI d] at h;exact⟨_,dB d,h⟩
   ·rintro⟨x,B,h⟩;obtain⟨i,d,rfl⟩:=dc.mp B;refine⟨i,aR.mpr d,?_⟩;rw[aG,aI d];exact h
  rw[e];refine⟨.bl (bs.any λz=>z != 0),H,I.kept (λc o f=>G c o ?_ (aF _ f)),rfl,q⟩;intro D;rw[ag.mp D] at f;exact absurd (aS f) (cD _)
end L2
namespace VL
open PySem PySem.Spec PyProof.Rows L2
variable {K:aD}
noncomputable def QQ:List PV->Option PV
 | [l]=>(UX l).bind λm=>(XY m).map λns=>.bl (ns.any λz=>z != 0)
 | _=>none
theorem Dl:RC K (λd H Q=>∃(b:Bool) (p:aL) (a:List Int),d=[.ref p]/\Ra b K H p (a.map V.int)/\Q (.bl (a.any λz=>z != 0)) H) QQ:=λH vs ls l t h e Q k=>by
 unfold QQ at e;split at e
 ·obtain⟨m,f,o⟩:=Ze e;obtain⟨a,g,rfl⟩:=map_some o;obtain⟨v,rfl,i⟩:=h.one_inv;obtain⟨p,d,s,rfl,c,j,r⟩:=Wf (K:=K) i f;have n:=XQ g;subst n;obtain⟨rfl,rfl⟩:=j.iL;obtain⟨b,q⟩:=Qq c;exact⟨b,p,a,rfl,q,k _ H [] (Same.refl H) (Is.bl _) λp c=>by simp at c⟩
 ·cases e
abbrev Cy:=Ij (λ_ j=>j≠0) Int.fmod
theorem Dm{X:Cx}{a b:av}{c fb:XE}{pos:el}(e:VE X a c)(d:VE X b fb):VE X (.BinOp a .Mod b pos) (Zi Cy c fb):=Wy Em (Rf _ _) e d
end VL
namespace VL
open PySem PySem.Spec PyProof.Rows L2
section
variable {X:Cx} {a b:av} {fa fb:XE} {pos:el}
theorem GV(d:X.prog.given.tree=none)(g:Room 35 X.A)(c:X.stack=X.env::X.outer)(a:X.env.scope.isGenerator=aB)(b:X.env.scope.isCoroutine=aB):Tg X (dE .FloorDiv) (rI (λ_ j=>j≠0) λi j=>.int (i.fdiv j)):=by
 intro l s m H x y v u Q I f e h;obtain⟨i,j,rfl,rfl,k,q⟩:=h;obtain⟨t,rfl⟩:=f;obtain⟨t',rfl⟩:=e;refine ja k ⟨.int (i.fdiv j),H,I.tok _,⟨_,rfl⟩,q⟩ (.inr (ke I.nolimit ?_ ?_))
 ·have:=g.dp;show X.A.depth+100<ik;omega
 ·exact PySem.SeerAt.of (I.ok.mod.seer.keeps I.bk) d (by rw[I.ok.frames,c]) a b I.ok.blt I.ok.glob
abbrev GW:=Ij (λ_ j=>j≠0) jB
theorem GX(g:X.prog.given.tree=none)(f:Room 35 X.A)(i:VE X a fa)(h:VE X b fb)(e:X.stack=X.env::X.outer:=by rfl)(c:X.env.scope.isGenerator=aB:=by rfl)(d:X.env.scope.isCoroutine=aB:=by rfl):VE X (.BinOp a .FloorDiv b pos) (Zi GW fa fb):=Wy (GV g f e c d) (Rf _ _) i h
end
end VL
namespace PW
open PySem L2 VL
noncomputable def GY:XS:=(ZO (eP (Zc VZ [Zr 2 [] (U0 aB aB [Za 0,Za 1]) (.many [0,1]) Zy (Zi UP (Za 0) (Za 1))])))
noncomputable def QR:List PV->Option PV:=Yz 2 GY
noncomputable def Dn:XS:=(Zp (Zq 2 (eP (Zi ZM (Za 0) (eC (.int 0)))))
  (ZO (eP (Zc ZP [Zr 2 [1] (U0 aB aB [Za 2,Zi ZM (Za 0) (eC (.int 4))]) (.many [0,1]) Zy (Zi Xt (Zc QR [Za 0,RI Ry (Za 2) (UJ (eC (.int 1))) Lj]) (Za 1))]))))
noncomputable def Nj:List PV->Option PV:=Yz 3 Dn
noncomputable def MD:XS:=(ZO (Zc YW [Za 0,eC (.int 0)]))
noncomputable def V7:List PV->Option PV:=Yz 1 MD
noncomputable def LY:XS:=(ZO (Zr 1 [1] (ZT [Za 0]) (.one 0) Zy (eP (Ge (xB (Zi (Wg aB) (Za 0) (Za 1))) (eC (.int 1)) (eC (.int 0))))))
noncomputable def Vx:List PV->Option PV:=Yz 2 LY
noncomputable def LZ:XS:=(Zp (Zq 1 (eP (Zc YF [Za 0])))
  (Zp (Zq 2 (Zr 2 [1] (Xu aB [Za 0]) (.many [0,1]) Zy (eP (PD (Zi Qx (Zc WR [Za 1]) (Zc Vx [Za 2,Za 0]))))))
  (Zp (Zq 3 (Zr 1 [1] (ZT [Za 1]) (.one 0) Zy (eP (PD (Zi Qx (Zc Vx [Za 1,Za 0]) (Zi Mv (T8 [eC (.int 0)]) (Za 1)))))))
  (ZO (Zi Qx (Za 2) (Za 3))))))
noncomputable def U2:List PV->Option PV:=Yz 4 LZ
noncomputable def RA:XS:=(ZO (Zr 1 [2,0] (V0 [Zi Yj (Za 2) (eC (.int 1)),Za 1]) (.one 0) (xB (Zi (Wg aC) (Zi ZM (Zi ZM (Za 2) (Za 0)) (Za 1)) (eC (.int 0)))) (eP (Za 0))))
noncomputable def Xb:List PV->Option PV:=Yz 3 RA
noncomputable def B5:XS:=(ZO (Zr 2 [2] (U0 aC aC [Za 0,Za 1]) (.many [0,1]) Zy (eP (Zi XN (Za 0) (Zi UP (Za 2) (Za 1))))))
noncomputable def Sm:List PV->Option PV:=Yz 3 B5
noncomputable def VJ:XS:=(Zp (Zq 3 (Zc WR [Za 0]))
  (Zp (Zq 4 (Zc Xb [Za 3,Za 1,Za 2]))
  (Zp (Xz (xB (Zi Li (Zc YF [Za 4]) (eC (.int 0)))) (Zp (Zq 5 (eP (Zi ZM (Za 4) (eC (.int 0)))))
  (Zp (Rh (ES (xB (Zi (Wg aB) (Zi ZM (Zi ZM (Za 3) (Za 2)) (Za 2)) (eC (.int 0)))) (xB (Zi Hv (Zc LK [Zi ZM (Zi ZM (Za 3) (Za 5)) (Za 2)]) (Zc LK [Zi ZM (Zi ZM (Za 3) (Za 2)) (Za 2)])))) (Zp (Zq 6 (eP (Zi ZM (Za 3) (Za 2))))
  (Zp (Xo 3 (Za 2) (Zi ZM (Za 3) (Za 5)))
  (Xo 3 (Za 5) (Za 6)))) YG)
  (Zp (Xn [3] (Vb (Za 4)) (.one 7) (Xo 3 (Za 7) (PD (Zc Sm [Zi ZM (Za 3) (Za 7),Zi ZM (Za 3) (Za 2),Zi GW (Zi ZM (Zi ZM (Za 3) (Za 7)) (Za 2)) (Zi ZM (Zi ZM (Za 3) (Za 2)) (Za 2))]))))
  (Zq 4 (Zc Xb [Za 3,Za 1,Za 2]))))))
  (ZO (Za 3)))))
noncomputable def ZS:List PV->Option PV:=Yz 8 VJ
noncomputable def PF:XS:=(ZO (Zr 1 [0] (ZT [Zc YF [Za 0]]) (.one 0) Zy (eP (PD (Zr 1 [0] (Vb (Za 1)) (.one 0) Zy (eP (Zi ZM (Za 0) (Za 1))))))))
noncomputable def YI:List PV->Option PV:=Yz 1 PF
noncomputable def WT:XS:=(Zp (Zq 3 (Zc ZS [Za 0,Za 1,Za 2]))
  (Zp (Xz (xB (Zc QQ [RI UK (Zi ZM (Za 3) (Za 2)) (UJ (Zi Yj (Za 2) (eC (.int 1)))) (UJ (Za 1))])) (Zp (Zq 3 (Zc YI [Zc ZS [Zc YI [Za 3],Za 1,Za 2]]))
  (Zq 3 (Zc ZS [Za 3,Za 1,Za 2]))))
  (ZO (Za 3))))
noncomputable def Y6:List PV->Option PV:=Yz 4 WT
noncomputable def ME:XS:=(Zp (Zq 3 (eP (Zi ZM (Zi ZM (Za 0) (Za 2)) (Za 2))))
  (Zp (Xn [] (V0 [Zi Yj (Za 2) (eC (.int 1)),Za 1]) (.one 4) (Rh (xB (Zc Gm [Zr 1 [3] (Vb (RI UK (Zi ZM (Za 0) (Za 4)) Lj (UJ (Za 1)))) (.one 0) Zy (Zi (Wg aC) (Zi Cy (Za 0) (Za 1)) (eC (.int 0)))])) (ZO (eP (Za 4))) YG))
  (ZO (eP (eC .non)))))
noncomputable def WH:List PV->Option PV:=Yz 5 ME
noncomputable def TH:XS:=(Zp (Zq 3 (Zc Y6 [Za 0,Za 1,Za 2]))
  (Zp (Zq 4 (Zc WH [Za 3,Za 1,Za 2]))
  (Zp (Xz (xB (Rx aC (Za 4))) (Zp (Xo 3 (Za 2) (PD (Zc Sm [Zi ZM (Za 3) (Za 2),Zi ZM (Za 3) (Za 4),eC (.int 1)])))
  (Zp (Zq 3 (Zc Y6 [Za 3,Za 1,Za 2]))
  (Zq 4 (Zc WH [Za 3,Za 1,Za 2])))))
  (Zp (Rh (xB (Zi Hv (Zi ZM (Zi ZM (Za 3) (Za 2)) (Za 2)) (eC (.int 0)))) (Xo 3 (Za 2) (PD (Zr 1 [] (Vb (Zi ZM (Za 3) (Za 2))) (.one 0) Zy (eP (Gj Mo (Za 0)))))) YG)
  (ZO (Za 3))))))
noncomputable def Xp:List PV->Option PV:=Yz 5 TH
noncomputable def II:XS:=(ZO (eP (Zc ZP [Zr 2 [] (U0 aB aB [Za 0,Za 1]) (.many [0,1]) Zy (Zi QJ (Za 0) (Za 1))])))
noncomputable def UA:List PV->Option PV:=Yz 2 II
noncomputable def RD:XS:=(ZO (eP (Zc VZ [Zr 2 [2,1] (Xu aB [Za 0]) (.many [0,1]) Zy (Zi UP (Za 1) (Zi ZM (Zi ZM (Za 3) (Za 0)) (Za 2)))])))
noncomputable def X0:List PV->Option PV:=Yz 3 RD
noncomputable def MF:XS:=(ZO (eP (Zc ZP [Zr 1 [0,1] (ZT [Zc YF [Za 0]]) (.one 0) Zy (Zc X0 [Za 1,Za 2,Za 0])])))
noncomputable def V8:List PV->Option PV:=Yz 2 MF
noncomputable def Nk:XS:=(ZO (eP (Zc ZP [Zr 1 [1] (T9 (Za 0)) (.one 0) Zy (Zc V8 [Za 0,Za 1])])))
noncomputable def YX:List PV->Option PV:=Yz 2 Nk
noncomputable def Jz:XS:=(Zp (Zq 1 (Zc V7 [Za 0]))
  (Zp (Zq 2 (eP (Zc YF [Za 1])))
  (Zp (Zq 3 (Zc U2 [Za 1]))
  (Zp (Xn [] (ZT [Za 2]) (.one 4) (Zq 3 (Zc Xp [Za 3,Za 2,Za 4])))
  (Zp (Zq 5 (eP (Zc ZP [Zr 1 [3] (ZT [Za 2]) (.one 0) Zy (Zi ZM (Zi ZM (Za 1) (Za 0)) (Za 0))])))
  (Zp (Zq 6 (eP (Zc ZP [Zr 1 [2] (Vb (RI UK (Za 3) Lj (UJ (Za 2)))) (.one 0) Zy (Zc ZP [RI UK (Za 0) (UJ (Za 1)) Lj])])))
  (Zp (Zq 7 (eP (Zc ZP [Zr 1 [2] (Vb (RI UK (Za 3) (UJ (Za 2)) Lj)) (.one 0) Zy (Zc ZP [RI UK (Za 0) Lj (UJ (Za 1))])])))
  (Zp (Zq 8 (eP (Zc ZP [Zr 1 [5] (T9 (Zc YX [Za 1,Za 7])) (.one 0) Zy (Zc UA [Za 0,Za 1])])))
  (Zp (Zq 9 (eP (Zc ZP [Zr 2 [2] (U0 aB aB [Zc YX [Za 6,Za 1],Za 5]) (.many [0,1]) Zy (Zc UA [Za 0,Zi Mz (OV [Za 1]) (Za 2)])])))
  (ZO (eP (OV [Za 6,Za 8,Za 7,Za 9,Za 5]))))))))))))
noncomputable def RU:List PV->Option PV:=Yz 10 Jz
noncomputable def L0:XS:=(ZO (eP (Zi Oo (OV [Zc RO [Za 1]]) (Zc Nj [Zc RU [Za 0],Za 1]))))
noncomputable def XA:List PV->Option PV:=Yz 2 L0
noncomputable def Cz:XS:=(Zp (Zq 1 (Zc Ng [Za 0,eC (.int 7)]))
  (Zp (Zq 2 (eP (Zc YF [Za 1])))
  (Zp (Zq 3 (Zc Vd [Za 0,eC (.int 13),Za 2]))
  (Zp (Zq 4 (Zc WR [Zc Wq [Za 0,eC (.int 20),Za 2]]))
  (Zp (Xn [4,9] (Vb (RI UK (Za 0) (UJ (eC (.int 27))) (UJ (eC (.int 62))))) (.one 5) (Zp (Zq 6 (Zc Zz [Za 5,eC (.int 8),Za 2]))
  (Xo 4 (Za 6) (Zi Yj (Zi ZM (Za 4) (Za 6)) (eC (.int 1))))))
  (Zp (Zq 7 (Zc Ux [Za 1,Za 3,Za 4]))
  (Zp (Zq 8 (Zc XA [Za 1,Za 3]))
  (Zp (Rh (ES (Ik (xB (Zc RS [Za 8,Za 2]))) (xB (Zi (Wg aC) (Zc XA [Za 1,Za 7]) (Za 8)))) (ZO (eP (eC (.bl aB)))) YG)
  (Zp (Zq 9 (Zc WR [Za 7]))
  (Zp (Zq 10 (Zc Zz [Zc ZY [Za 0,eC (.int 12)],eC (.int 8),Za 2]))
  (Zp (Zq 11 (Zc Zz [Zc ZY [Za 0,eC (.int 12)],eC (.int 9),Za 2]))
  (Zp (Xo 9 (Za 10) (Zi XN (Zi ZM (Za 9) (Za 10)) (eC (.int 1))))
  (Zp (Xo 9 (Za 11) (Zi Yj (Zi ZM (Za 9) (Za 11)) (eC (.int 1))))
  (Zp (Zq 12 (Zc Uy [Za 1,Za 3,Zc ZP [Za 9]]))
  (Zp (Rh (xB (Rx aB (Za 12))) (ZO (eP (Zi (Wg aC) (Zc XA [Za 1,Zc ZP [Za 9]]) (Za 8)))) YG)
  (Zp (Rh (ES (Ik (xB (Zc RS [Za 12,Za 2]))) (xB (Zi (Wg aC) (Zc Ux [Za 1,Za 3,Za 12]) (Zc ZP [Za 9])))) (ZO (eP (eC (.bl aB)))) YG)
  (ZO (eP (Zi (Wg aB) (Zc XA [Za 1,Zc ZP [Za 9]]) (Za 8))))))))))))))))))))
noncomputable def D_law:List PV->Option PV:=Yz 13 Cz
end PW
namespace VL
open PySem PySem.Spec PyProof.Rows L2
theorem Wb{N P:List ak}{h:dP}(a:h.kind = .function:=by rfl)(b:h.isCoroutine=aB:=by rfl)(c:h.isGenerator=aB:=by rfl)(d:N.Nodup:=by decide +kernel)(e:N.take P.length=P:=by rfl)
  (f:∀x∈P,h.names.lookup x=aA .local\/h.names.lookup x=aA .cell:=by decide +kernel) (g:∀y∈h.names,y.2≠.free:=by decide +kernel):Zm N P h:=⟨a,b,c,d,e,f,g⟩
section
variable {X:Cx} {e e1 e2 e3 e4 e5:av} {f f1 f2 f3 f4 f5:XE} {es:List av} {fs:List XE} {x:ak} {p pos pos':el} {k k' n:Nat} {O W:List Nat}
theorem vo(i:Nat)(b:X.N[i]?=aA x:=by rfl)(d:Vis X.env.scope x:=by first | exact j1 rfl | exact il (j1 rfl) | exact il (il rfl))(c:(x==("__debug__" : ak))=aB:=by decide)
  (a:(x==("__classdict__" : ak))=aB:=by decide):VE X (.Name x pos) (Za i):=A9 (pv i b d c a)
theorem YM(a:VE X e1 f1)(b:aY [e1] X.env=(aB,eval e1 X.env)::aY [] X.env:=by rfl):VA X [e1] [f1]:=To a BE b
theorem Wl(a:VE X e1 f1)(b:VE X e2 f2)(d:aY [e1,e2] X.env=(aB,eval e1 X.env)::aY [e2] X.env:=by rfl)(c:aY [e2] X.env=(aB,eval e2 X.env)::aY [] X.env:=by rfl):VA X [e1,e2] [f1,f2]:=To a (YM b c) d
theorem WU(a:VE X e1 f1)(b:VE X e2 f2)(c:VE X e3 f3)(d:aY [e1,e2,e3] X.env=(aB,eval e1 X.env)::aY [e2,e3] X.env:=by rfl)(f:aY [e2,e3] X.env=(aB,eval e2 X.env)::aY [e3] X.env:=by rfl)(e:aY [e3] X.env=(aB,eval e3 X.env)::aY [] X.env:=by rfl):VA X [e1,e2,e3] [f1,f2,f3]:=To a (Wl b c f e) d
theorem va4(a:VE X e1 f1)(b:VE X e2 f2)(c:VE X e3 f3)(d:VE X e4 f4)(e:aY [e1,e2,e3,e4] X.env=(aB,eval e1 X.env)::aY [e2,e3,e4] X.env:=by rfl)(h:aY [e2,e3,e4] X.env=(aB,eval e2 X.env)::aY [e3,e4] X.env:=by rfl)(f:aY [e3,e4] X.env=(aB,eval e3 X.env)::aY [e4] X.env:=by rfl)(g:aY [e4] X.env=(aB,eval e4 X.env)::aY [] X.env:=by rfl):VA X [e1,e2,e3,e4] [f1,f2,f3,f4]:=To a (WU b c d h f g) e
theorem WV{c:List ak}{D:List PV->Option PV}(C:Xi X.prog X.w X.K X.mg X.base x c (Y5 X.K D n) k)(d:Room k' X.A)(j:VA X (e::es) fs)(h:k<=k':=by decide)(f:Gl X x:=by rfl)(g:fs.length=n:=by rfl)
  (a:(x==("__debug__" : ak))=aB:=by decide) (i:aY (e::es) X.env=(aB,eval e X.env)::aY es X.env:=by rfl) (b:(eu pos (aY es X.env)).any (·.1)=aB:=by rfl) :
  VM X (.Call (.Name x p) (e::es) [] pos) (Zc D fs):=Jk C (d.mono h) f j g a i b
theorem WW{c:List ak}{D:List PV->Option PV}(C:Xi X.prog X.w X.K X.mg X.base x c (Y5 X.K D n) k)(d:Room k' X.A)(j:VA X (e::es) fs)(h:k<=k':=by decide)(f:Gl X x:=by rfl)(g:fs.length=n:=by rfl)
  (a:(x==("__debug__" : ak))=aB:=by decide) (i:aY (e::es) X.env=(aB,eval e X.env)::aY es X.env:=by rfl) (b:(eu pos (aY es X.env)).any (·.1)=aB:=by rfl) :
  VE X (.Call (.Name x p) (e::es) [] pos) (Zc D fs):=VM.ve (Jk C (d.mono h) f j g a i b)
theorem vb{id:String}{r:List V->Hp->VK->Prop}{g:List PV->Option PV}(i:XJ X (.builtin id) r)(c:RC X.K r g)(d:X.mg x=none)(k:VA X (e::es) fs)(f:Gl X x:=by rfl)(l:dC x=aA (.builtin id):=by decide +kernel)(h:x≠"__name__":=by decide)(b:(x==("__debug__" : ak))=aB:=by decide)
  (j:aY (e::es) X.env=(aB,eval e X.env)::aY es X.env:=by rfl) (a:(eu pos (aY es X.env)).any (·.1)=aB:=by rfl):VE X (.Call (.Name x p) (e::es) [] pos) (Zc g fs):=Mp i c f d l k h b j a
theorem JA(c:X.mg "len" = none)(g:VE X e f)(d:Gl X "len":=by rfl)(b:aY [e] X.env=(aB,eval e X.env)::aY [] X.env:=by rfl)(a:(eu pos (aY [] X.env)).any (·.1)=aB:=by rfl):VE X (.Call (.Name "len" p) [e] [] pos) (Zc YF [f]):=
 Mp HJ BG d c (by decide +kernel) (YM g b) (by decide) (by decide) b a
theorem YR{a:XE}(i:Nat)(h:X.N.Nodup)(d:VM X e a)(g:X.N[i]?=aA x:=by rfl)(c:Ee X.env.scope x:=by first | exact j1 rfl | exact il rfl)(b:g7 e (aA (.Name x pos')) pos.line X.env=pure aB:=by rfl)(f:X.fn x=aC\/X.env.scope.names.lookup x=aA .local:=by first | exact .inl rfl | exact .inr rfl | assumption) :
  VS X O [i] (.Assign [.Name x pos'] e pos) (Zq i a):=BO h g c d b f
theorem Hy(i:Nat)(d:X.N.Nodup)(c:X.N[i]?=aA x:=by rfl)(a:Ee X.env.scope x:=by first | exact j1 rfl | exact il rfl)(b:X.fn x=aC\/X.env.scope.names.lookup x=aA .local:=by first | exact .inl rfl | exact .inr rfl | assumption):PG X (.Name x pos) (Th i):=RF d c a b
theorem VN(i:Nat){N:List ak}{a:dP}{cl:List (ak×aL)}{C:aL}{s:aN}{H:Hp}{b:List aL}(c:N.Nodup:=by decide +kernel)(f:N[i]?=aA x:=by rfl)(d:Ee (ZI X N a cl C s H b).env.scope x:=by exact j1 rfl)(e:(ZI X N a cl C s H b).env.scope.names.lookup x=aA .local:=by rfl):PG (ZI X N a cl C s H b) (.Name x pos) (Th i):=RF c f d (.inr e)
end
section
variable {X:Cx} {tg iter ko e1 e2:av} {fi:XL} {T:Tgt} {ft:XT} {fe f1 f2:XE} {p pos pos':el} {O W:List Nat} {body:List bb} {fb:XS} {scope:dP}
theorem GZ(f:VI X tg iter fi)(a:PG X tg (gT X.K T))(d:Hw X O W body fb)(e:jJ (model X.prog X.w) X.A X.env X.xe:=by exact eM)(c:X.calm=aC:=by rfl)(g:∀i∈T.slots,i∉O:=by decide)
  (b:∀x,b7 iter X.env x=pure x:=by intro _;rfl):VS X O (T.slots++W) (.For tg iter body [] pos) (Xn O fi T fb):=BP e c f a d g b
theorem MG(b:X.mg "range" = none)(d:VE X e1 f1)(c:Gl X "range":=by rfl)(a:aY [e1] X.env=[(aB,eval e1 X.env)]:=by rfl):VI X tg (.Call (.Name "range" p) [e1] [] pos) (ZT [f1]):=Ip c b (YM d (by rw[a];rfl)) a
theorem vr2(c:X.mg "range" = none)(f:VE X e1 f1)(e:VE X e2 f2)(d:Gl X "range":=by rfl)(b:aY [e1,e2] X.env=[(aB,eval e1 X.env),(aB,eval e2 X.env)]:=by rfl)(a:aY [e2] X.env=[(aB,eval e2 X.env)]:=by rfl):VI X tg (.Call (.Name "range" p) [e1,e2] [] pos) (V0 [f1,f2]):=Iq d c (Wl f e (by rw[b,a]) (by rw[a];rfl)) b a
theorem MH(o:ak)(fr:List ak)(ix:List Nat)(a:VI X (.Name o pos') iter fi)(f:∀{cl C s H ex},VE (ZI X ([o]++fr) scope cl C s H ex) ko fe)(S:VV X.N X.env.scope scope [o] fr ix=aC:=by kernel_rfl)
  (c:([o]++fr).Nodup:=by decide +kernel) (g:∀cl C s H ex,Ee (ZI X ([o]++fr) scope cl C s H ex).env.scope o:=by intro _ _ _ _ _;exact j1 rfl) (e:∀cl C s H ex,(ZI X ([o]++fr) scope cl C s H ex).env.scope.names.lookup o=aA .local:=by intro _ _ _ _ _;rfl) (d:X.calm=aC:=by rfl) (b:∀x,b7 iter X.env x=pure x:=by intro _;rfl) :
  VE X (.ListComp ko [⟨.Name o pos',iter,[],0⟩] scope pos) (Zr 1 ix fi (.one 0) Zy fe):=Y9 [o] fr ix d a S (λ_ _ _ _ _=>RF (i:=0) c rfl (g _ _ _ _ _) (.inr (e _ _ _ _ _))) (λ_ _ _ _ _=>Z8) (λ_ _ _ _ _=>f) (λi a=>by cases a with | head=>exact Nat.zero_lt_one | tail _ h=>cases h) b
end
section
variable {K:aD} {P:bW} {w:cN} {mg:ak->Option aH} {base:b9} {x a b c d e:ak} {st:bb} {N:List ak} {k m:Nat} {O W:List Nat} {f:XS}
abbrev BdA(x:ak)(st:bb)(us:List aH)(r:List (ak×aH)):Prop:=∀(kV doc pm:aH)(an:Option aL)(cdv ct:aH),iG (ck x x (XH st) (Yu st) (Zf st) .none kV doc pm an cdv ct) ⟨us,[]⟩=pure r
abbrev Dp(P:bW)(w:cN)(K:aD)(mg:ak->Option aH)(base:b9)(N:List ak)(x:ak)(st:bb)(k:Nat)(O W:List Nat)(f:XS):Prop:=∀{fa:aL}{cdv:aH}{A:cH}{outer:List ju}{s:aN}{H:Hp}{E:XK},Room k (A.deeper (gE x (Zf st) s.heap.objs.size fa cdv))->Hw (Qd Lw P w K mg base N x (Zf st) fa cdv A outer s H E).nox O W (Yu st) f
theorem Eb(O:List Nat)(D:Def K mg x st)(S:Zm N [a] (Zf st))(q:Dp P w K mg base N x st k O W f)(d:∀t,BdA x st [t] [(a,t)]:=by intro _ _ _ _ _ _ _;rfl)(b:N.length=m:=by rfl)(e:∀i∈O,1<=i:=by decide):Xi P w K mg base x [a] (Y5 K (Yz m f) 1) (k+1):=
 O5 m f D S (λ_ _ _ _ _ _ h g=>match h,g with | [t],_=>d t _ _ _ _ _ _) rfl b e λ_ _ _ _ _ _ _ c=>q c
theorem MI(O:List Nat)(D:Def K mg x st)(S:Zm N [a,b] (Zf st))(q:Dp P w K mg base N x st k O W f)(e:∀t u,BdA x st [t,u] [(a,t),(b,u)]:=by intro _ _ _ _ _ _ _ _;rfl)(c:N.length=m:=by rfl)(g:∀i∈O,2<=i:=by decide):Xi P w K mg base x [a,b] (Y5 K (Yz m f) 2) (k+1):=
 O5 m f D S (λ_ _ _ _ _ _ j h=>match j,h with | [t,u],_=>e t u _ _ _ _ _ _) rfl c g λ_ _ _ _ _ _ _ d=>q d
theorem Oz(O:List Nat)(D:Def K mg x st)(S:Zm N [a,b,c] (Zf st))(q:Dp P w K mg base N x st k O W f)(g:∀t u v,BdA x st [t,u,v] [(a,t),(b,u),(c,v)]:=by intro _ _ _ _ _ _ _ _ _;rfl)(d:N.length=m:=by rfl)(h:∀i∈O,3<=i:=by decide):Xi P w K mg base x [a,b,c] (Y5 K (Yz m f) 3) (k+1):=
 O5 m f D S (λ_ _ _ _ _ _ l j=>match l,j with | [t,u,v],_=>g t u v _ _ _ _ _ _) rfl d h λ_ _ _ _ _ _ _ e=>q e
theorem dk4(O:List Nat)(D:Def K mg x st)(S:Zm N [a,b,c,d] (Zf st))(q:Dp P w K mg base N x st k O W f)(h:∀t u v y,BdA x st [t,u,v,y] [(a,t),(b,u),(c,v),(d,y)]:=by intro _ _ _ _ _ _ _ _ _ _;rfl)(e:N.length=m:=by rfl)(j:∀i∈O,4<=i:=by decide):Xi P w K mg base x [a,b,c,d] (Y5 K (Yz m f) 4) (k+1):=
 O5 m f D S (λ_ _ _ _ _ _ n l=>match n,l with | [t,u,v,y],_=>h t u v y _ _ _ _ _ _) rfl e j λ_ _ _ _ _ _ _ g=>q g
end
end VL
namespace PW
open PySem L2 VL
noncomputable def Wc(i:Nat):bb:=gW.main.body.getD i (.Pass ⟨0,0,0,0⟩)
section
variable (P:bW) (w:cN) (K:aD) (mg:ak->Option aH) (base:b9)
abbrev Vf:Prop:=Xi P w K mg base "_law_cell" ["_law_script_here","_law_k"] (Y5 K ZY 2) 1
abbrev TJ:Prop:=Xi P w K mg base "_law_part" ["_law_cell_here","_law_turn","_law_many"] (Y5 K Zz 3) 1
abbrev Nl:Prop:=Xi P w K mg base "_law_web" ["_law_script_here","_law_most"] (Y5 K Ng 2) 2
abbrev Sn:Prop:=Xi P w K mg base "_law_coins" ["_law_cell_here"] (Y5 K Uw 1) 1
abbrev So:Prop:=Xi P w K mg base "_law_purse" ["_law_script_here","_law_at","_law_houses"] (Y5 K Vd 3) 2
abbrev Nm:Prop:=Xi P w K mg base "_law_run" ["_law_web_here","_law_purse_here","_law_often_here"] (Y5 K Ux 3) 1
abbrev QS:Prop:=Xi P w K mg base "by_row" ["line","coins"] (Y5 K QR 2) 1
abbrev Nn:Prop:=Xi P w K mg base "rests" ["told","purse"] (Y5 K Nj 2) 2
abbrev Np:Prop:=Xi P w K mg base "total" ["purse"] (Y5 K RO 1) 1
abbrev Sq:Prop:=Xi P w K mg base "ties_at" ["web","house"] (Y5 K Uu 2) 1
abbrev QT:Prop:=Xi P w K mg base "row_of" ["web","house","others"] (Y5 K QO 3) 2
abbrev YY:Prop:=Xi P w K mg base "square_without" ["web","base"] (Y5 K YW 2) 3
abbrev V9:Prop:=Xi P w K mg base "square_of" ["web"] (Y5 K V7 1) 4
abbrev U3:Prop:=Xi P w K mg base "unit_row" ["many","at"] (Y5 K Vx 2) 1
abbrev U4:Prop:=Xi P w K mg base "block_of" ["square"] (Y5 K U2 1) 2
abbrev X1:Prop:=Xi P w K mg base "rows_to_clear" ["rows","many","place"] (Y5 K Xb 3) 1
abbrev Nq:Prop:=Xi P w K mg base "less" ["row","by","often"] (Y5 K Sm 3) 1
abbrev X2:Prop:=Xi P w K mg base "cleared_below" ["block","many","place"] (Y5 K ZS 3) 36
abbrev WX:Prop:=Xi P w K mg base "turned_over" ["block"] (Y5 K YI 1) 1
abbrev WY:Prop:=Xi P w K mg base "crossed_out" ["block","many","place"] (Y5 K Y6 3) 37
abbrev Ua:Prop:=Xi P w K mg base "unfit_row" ["block","many","place"] (Y5 K WH 3) 1
abbrev Vy:Prop:=Xi P w K mg base "part_found" ["block","many","place"] (Y5 K Xp 3) 38
abbrev Sr:Prop:=Xi P w K mg base "divided" ["line","row"] (Y5 K UA 2) 1
abbrev X3:Prop:=Xi P w K mg base "row_by_column" ["row","square","column"] (Y5 K X0 3) 1
abbrev Ub:Prop:=Xi P w K mg base "row_times" ["row","square"] (Y5 K V8 2) 2
abbrev Vz:Prop:=Xi P w K mg base "multiplied" ["one","other"] (Y5 K YX 2) 3
abbrev Nr:Prop:=Xi P w K mg base "parts" ["web"] (Y5 K RU 1) 39
abbrev U5:Prop:=Xi P w K mg base "place_of" ["web","purse"] (Y5 K XA 2) 40
abbrev Ss:Prop:=Xi P w K mg base "reduced" ["row","by","place","divisor"] (Y5 K Si 4) 1
abbrev QU:Prop:=Xi P w K mg base "evened" ["rows"] (Y5 K QM 1) 2
abbrev Wr:Prop:=Xi P w K mg base "solved_below" ["square","column"] (Y5 K Wo 2) 3
abbrev Su:Prop:=Xi P w K mg base "nearing" ["web","purse","base"] (Y5 K Wk 3) 4
abbrev L3:Prop:=Xi P w K mg base "gain" ["web","script","house"] (Y5 K QG 3) 1
abbrev G0:Prop:=Xi P w K mg base "run" ["web","purse","script"] (Y5 K UO 3) 2
abbrev Sv:Prop:=Xi P w K mg base "in_debt" ["purse","base"] (Y5 K YV 2) 1
abbrev Uc:Prop:=Xi P w K mg base "borrowing" ["web","houses"] (Y5 K Xg 2) 1
abbrev L4:Prop:=Xi P w K mg base "plus" ["one","other"] (Y5 K U1 2) 1
abbrev RV:Prop:=Xi P w K mg base "least" ["script"] (Y5 K Vw 1) 1
abbrev Sw:Prop:=Xi P w K mg base "ties_to" ["web","house","others"] (Y5 K Ve 3) 1
abbrev X4:Prop:=Xi P w K mg base "house_to_burn" ["web","purse","fire"] (Y5 K Z7 3) 2
abbrev Nt:Prop:=Xi P w K mg base "burnt" ["web","purse","base"] (Y5 K RQ 3) 3
abbrev QV:Prop:=Xi P w K mg base "settle" ["web","purse","base"] (Y5 K Yl 3) 5
abbrev Nu:Prop:=Xi P w K mg base "minus" ["one","other"] (Y5 K Uv 2) 1
abbrev Nv:Prop:=Xi P w K mg base "alike" ["web","one","other"] (Y5 K Uy 3) 6
abbrev Sx:Prop:=Xi P w K mg base "_law_often" ["_law_cell_here"] (Y5 K Uz 1) 1
abbrev U6:Prop:=Xi P w K mg base "_law_script" ["_law_script_here","_law_at","_law_houses"] (Y5 K Wq 3) 2
abbrev Sy:Prop:=Xi P w K mg base "_law_whole" ["_law_number"] (Y5 K Wj 1) 1
abbrev Nw:Prop:=Xi P w K mg base "_law_row" ["_law_found","_law_houses"] (Y5 K RS 2) 2
end
section
variable {P:bW} {w:cN} {K:aD} {mg:ak->Option aH} {base:b9}
abbrev QW:bb:=Wc 47
theorem IJ:Zm ["_law_script_here","_law_k"] ["_law_script_here","_law_k"] (Zf QW):=Wb
theorem IK(a:Def K mg "_law_cell" QW)(B:XX mg):Vf P w K mg base:=
 MI [] a IJ λb=>
  (Zd (WD (Mm (vo 1) (JA B.len (vo 0))) (Zj (Zs (VE.pure (Zl (vo 0) (vo 1))))) YL)
  (Zj (Zs (VE.pure (YN (WQ (Yg (Yg (WQ (vo 1) (vo 1)) (WQ Zg (vo 1))) Zg) Zg) Zg)))))
abbrev QX:bb:=Wc 48
theorem sc_l_part:Zm ["_law_cell_here","_law_turn","_law_many","_law_x","_law_k"] ["_law_cell_here","_law_turn","_law_many"] (Zf QX):=Wb
theorem IL(b:Def K mg "_law_part" QX)(B:XX mg):TJ P w K mg base:=
 Oz [] b sc_l_part λa=>
  (Zd (YR 3 sc_l_part.nd (VE.pure (OQ (vo 0) Zg)))
  (Zd (WD (VW.vt (LF (Rj a.units (YN (vo 0) Zg) Zg) (OS (Jg (vo 0) (Ql Zg Zg))))) (Zd (GZ (MG B.range (vo 1)) (Hy 4 sc_l_part.nd) (Zj (YR 3 sc_l_part.nd (VE.pure (OQ (vo 3) Zg)))))
  (Zj (Zs (VE.pure (YN (vo 3) (vo 2)))))) YL)
  (Zd (YR 3 sc_l_part.nd (VE.pure (Yg (YN (vo 3) Zg) (WQ Zg (vo 1)))))
  (Zd (YR 3 sc_l_part.nd (VE.pure (YN (Yg (WQ (vo 3) (vo 3)) (WQ Zg (vo 3))) Zg)))
  (Zj (Zs (VE.pure (YN (OQ (YN (Yg (WQ (vo 3) (vo 3)) (WQ Zg (vo 1))) Zg) Zg) (vo 2)))))))))
abbrev Nx:bb:=Wc 49
theorem sc_l_tie:Zm ["_law_times","_law_one","_law_other","_law_more","_law_many"] ["_law_times","_law_one","_law_other","_law_more"] (Zf Nx):=Wb
theorem G1(c:Def K mg "_law_tie" Nx)(B:XX mg):Xi P w K mg base "_law_tie" (["_law_times","_law_one","_law_other","_law_more"]:List ak) (Au K Vv 4) 1:=
 Dh (k:=0) 5 RP c sc_l_tie (λ_ _ _ _ _ _ e d=>match e,d with | [_,_,_,_],_=>rfl) rfl rfl (λg b A a s H E f=>
  (Ox (VS.vs0 (YR 4 sc_l_tie.nd (VE.pure (vb (J7 rfl) EW B.min (Wl Zg (Yg (Zl (Zl (vo 0) (vo 1)) (vo 2)) (vo 3)))))))
  (Ox (QI (WN (vo 4) (WM (HP ix_list (pv 0) (vo 1) (λ_ _=>rfl)) (vo 2) Y4)))
  (GL (QI (WN (vo 4) (WM (HP ix_list (pv 0) (vo 2) (λ_ _=>rfl)) (vo 1) Y4)))))))
abbrev Ny:bb:=Wc 50
theorem sc_l_web:Zm ["_law_script_here","_law_most","_law_first","_law_houses","_law_times","_law_spots","_law_k","_law_cell_here","_law_one","_law_other"] ["_law_script_here","_law_most"] (Zf Ny):=Wb
theorem G3(e:Def K mg "_law_web" Ny)(B:XX mg)(b:Vf P w K mg base)(a:TJ P w K mg base)(c:Xi P w K mg base "_law_tie" (["_law_times","_law_one","_law_other","_law_more"]:List ak) (Au K Vv 4) 1):Nl P w K mg base:=
 MI [4,5] e sc_l_web λd=>
  (Zd (YR 2 sc_l_web.nd (WV b d (Wl (vo 0) Zg)))
  (Zd (YR 3 sc_l_web.nd (VE.pure (Yg Zg (WW a d (WU (vo 2) Zg (vo 1))))))
  (Zd (RL (["_law_k"]:List ak) (["_law_houses"]:List ak) [3] (i:=4) sc_l_web.nd rfl rfl rfl (MG B.range (vo 3)) (by kernel_rfl) (λ_ _ _ _ _=>(VN 0)) (λ_ _ _ _ _=>Z8) (λ_ _ _ _ _=>(Gz (Gk (YM Zg)) (vo 1))))
  (Zd (YR 5 sc_l_web.nd (LI RG))
  (Zd (GZ (MG B.range (vo 3)) (Hy 6 sc_l_web.nd) (Zj (Oi (Uq (Ja eA hW iA P8 (pv 5) (Y7 (WW a d (WU (WW b d (Wl (vo 0) (Yg Zg (vo 6)))) Zg (Yg (vo 6) Zg))) (Y7 (vo 6) UW)))))))
  (Zd (GZ (vr2 B.range Zg (vo 3)) (Hy 6 sc_l_web.nd) (Zd (YR 7 sc_l_web.nd (WV b d (Wl (vo 0) (vo 6))))
  (Zj (GO (Uq (Ly c (d.mono (by decide)) rfl (Y7 (pv 4) (WU (Zl (vo 5) (vo 6)) (Zl (vo 5) (WW a d (WU (vo 7) Zg (vo 6)))) (Yg Zg (WW a d (WU (vo 7) Zg Zg)))))))))))
  (Zd (WD (Jg (vo 3) Zg) (Zj (GZ (MG B.range (WW a d (WU (vo 2) Zg Zg))) (Hy 6 sc_l_web.nd) (Zd (YR 7 sc_l_web.nd (WV b d (Wl (vo 0) (Yg Zg (vo 6)))))
  (Zd (YR 8 sc_l_web.nd (WV a d (WU (vo 7) Zg (vo 3))))
  (Zd (YR 9 sc_l_web.nd (VE.pure (YN (Yg (Yg (vo 8) Zg) (WW a d (WU (vo 7) Zg (Xl (vo 3) Zg)))) (vo 3))))
  (Zj (GO (Uq (Ly c (d.mono (by decide)) rfl (Y7 (pv 4) (WU (vo 8) (vo 9) (Yg Zg (WW a d (WU (vo 7) Zg Zg)))))))))))))) YL)
  (Zj (Zs (VE.pure (Zv Zk ZC rfl B.tuple (by decide +kernel) (YM (MH "_law_row_here" [] [] (Y8 (vo 4)) (Zv Zk ZC rfl B.tuple (by decide +kernel) (YM (vo 0))))))))))))))))
abbrev Sz:bb:=Wc 51
theorem L5:Zm ["_law_cell_here"] ["_law_cell_here"] (Zf Sz):=Wb
theorem L6(b:Def K mg "_law_coins" Sz)(B:XX mg):Sn P w K mg base:=
 Eb [] b L5 λa=>
  (Zd (WD (Rj a.units (YN (vo 0) Zg) Zg) (Zj (Zs (VE.pure (Xl (YN (Wi (vo 0) (vo 0)) (Wi Zg (Ql Zg Zg))) (Ql Zg Zg))))) YL)
  (Zd (WD (Rj a.units (YN (vo 0) Zg) Zg) (Zj (Zs (VE.pure (Xl (YN (Vc (vo 0) Zg) Zg) Zg)))) YL)
  (Zj (Zs (VE.pure (Xl (YN (Vc (vo 0) Zg) Zg) Zg))))))
abbrev SA:bb:=Wc 52
theorem L7:Zm ["_law_script_here","_law_at","_law_houses"] ["_law_script_here","_law_at","_law_houses"] (Zf SA):=Wb
theorem L8(d:Def K mg "_law_purse" SA)(B:XX mg)(a:Sn P w K mg base)(b:Vf P w K mg base):So P w K mg base:=
 Oz [] d L7 λc=>
  (Zj (Zs (VE.pure (Zv Zk ZC rfl B.tuple (by decide +kernel) (YM (MH "_law_k" ["_law_script_here","_law_at"] [0,1] (MG B.range (vo 2)) (WW a c (YM (WW b c (Wl (vo 1) (Yg (vo 2) (vo 0))))))))))))
abbrev Nz:bb:=Wc 55
theorem sc_l_run:Zm ["_law_web_here","_law_purse_here","_law_often_here","_law_coins_here","_law_k","_law_out"] ["_law_web_here","_law_purse_here","_law_often_here"] (Zf Nz):=Wb
theorem G4(a:Def K mg "_law_run" Nz)(B:XX mg):Nm P w K mg base:=
 Oz [3] a sc_l_run λb=>
  (Zd (YR 3 sc_l_run.nd (LI RG))
  (Zd (GZ (MG B.range (JA B.len (vo 0))) (Hy 4 sc_l_run.nd) (Zd (YR 5 sc_l_run.nd (VE.pure (vb (Xw rfl) UY B.sum (YM (MH "_law_j" ["_law_web_here","_law_k","_law_often_here"] [0,4,2] (MG B.range (JA B.len (vo 0))) (WQ (Zl (Zl (vo 1) (vo 2)) (vo 0)) (Xl (Zl (vo 3) (vo 2)) (Zl (vo 3) (vo 0)))))))))
  (Zj (Oh (Uq (Ja eA iB iC P4 (pv 3) (Y7 (VE.pure (Xl (Zl (vo 1) (vo 4)) (vo 5))) UW)))))))
  (Zj (Zs (VE.pure (Zv Zk ZC rfl B.tuple (by decide +kernel) (YM (vo 3))))))))
abbrev QY:bb:=Wc 30
theorem IM:Zm ["line","coins"] ["line","coins"] (Zf QY):=Wb
theorem IP(a:Def K mg "by_row" QY)(B:XX mg):QS P w K mg base:=
 MI [] a IM λb=>
  (Zj (Zs (VE.pure (vb (Xw rfl) UY B.sum (YM (Y9 (["number","each"]:List ak) ([]:List ak) [] rfl (Vq aB aB rfl B.zip (Wl (vo 0) (vo 1))) (by kernel_rfl) (λ_ _ _ _ _=>(Y0 (n:=2) rfl (Zx (VN 0) (Zx (VN 1) Yt)))) (λ_ _ _ _ _=>Z8) (λ_ _ _ _ _=>(Wi (vo 0) (vo 1)))))))))
abbrev NA:bb:=Wc 29
theorem sc_rests:Zm ["told","purse","left"] ["told","purse"] (Zf NA):=Wb
theorem G5(c:Def K mg "rests" NA)(B:XX mg)(a:QS P w K mg base):Nn P w K mg base:=
 MI [] c sc_rests λb=>
  (Zd (YR 2 sc_rests.nd (VE.pure (Zl (vo 0) Zg)))
  (Zj (Zs (VE.pure (Zv Zk ZC rfl B.tuple (by decide +kernel) (YM (Y9 (["line","by"]:List ak) (["purse"]:List ak) [1] rfl (Vq aB aB rfl B.zip (Wl (vo 2) (Zl (vo 0) Zg))) (by kernel_rfl) (λ_ _ _ _ _=>(Y0 (n:=2) rfl (Zx (VN 0) (Zx (VN 1) Yt)))) (λ_ _ _ _ _=>Z8) (λ_ _ _ _ _=>(YN (WW a b (Wl (vo 0) (Sa (vo 2) (Xa Zg) WC))) (vo 1))))))))))
abbrev NB:bb:=Wc 3
theorem G6:Zm ["purse"] ["purse"] (Zf NB):=Wb
theorem G7(a:Def K mg "total" NB)(B:XX mg):Np P w K mg base:=
 Eb [] a G6 λb=>
  (Zj (Zs (VE.pure (vb (Xw rfl) UY B.sum (YM (vo 0))))))
abbrev SD:bb:=Wc 1
theorem L9:Zm ["web","house"] ["web","house"] (Zf SD):=Wb
theorem Ka(a:Def K mg "ties_at" SD)(B:XX mg):Sq P w K mg base:=
 MI [] a L9 λb=>
  (Zj (Zs (VE.pure (vb (Xw rfl) UY B.sum (YM (Zl (vo 0) (vo 1)))))))
abbrev QZ:bb:=Wc 12
theorem IQ:Zm ["web","house","others"] ["web","house","others"] (Zf QZ):=Wb
theorem IS(c:Def K mg "row_of" QZ)(B:XX mg)(a:Sq P w K mg base):QT P w K mg base:=
 Oz [] c IQ λb=>
  (Zj (Zs (VE.pure (Zv Zk ZC rfl B.tuple (by decide +kernel) (YM (MH "other" ["house","web"] [1,0] (Y8 (vo 2)) (Jh (Rj b.units (vo 0) (vo 1)) (WW a b (Wl (vo 2) (vo 1))) (OU (Zl (Zl (vo 2) (vo 1)) (vo 0))))))))))
abbrev XB:bb:=Wc 11
theorem sc_square_without:Zm ["web","base","others"] ["web","base"] (Zf XB):=Wb
theorem TL(c:Def K mg "square_without" XB)(B:XX mg)(a:QT P w K mg base):YY P w K mg base:=
 MI [] c sc_square_without λb=>
  (Zd (YR 2 sc_square_without.nd (WB (["house"]:List ak) (["base"]:List ak) [1] rfl (MG B.range (JA B.len (vo 0))) (by kernel_rfl) (λ_ _ _ _ _=>(VN 0)) (λ_ _ _ _ _=>(O2 (Oj b.units (vo 0) (vo 1)))) (λ_ _ _ _ _=>(VE.pure (vo 0)))))
  (Zj (Zs (VE.pure (Zv Zk ZC rfl B.tuple (by decide +kernel) (YM (MH "house" ["web","others"] [0,2] (Y8 (vo 2)) (WW a b (WU (vo 1) (vo 0) (vo 2))))))))))
abbrev Ud:bb:=Wc 10
theorem NC:Zm ["web"] ["web"] (Zf Ud):=Wb
theorem ND(c:Def K mg "square_of" Ud)(B:XX mg)(a:YY P w K mg base):V9 P w K mg base:=
 Eb [] c NC λb=>
  (Zj (Zs (WV a b (Wl (vo 0) Zg))))
abbrev U7:bb:=Wc 19
theorem MJ:Zm ["many","at"] ["many","at"] (Zf U7):=Wb
theorem MK(b:Def K mg "unit_row" U7)(B:XX mg):U3 P w K mg base:=
 MI [] b MJ λa=>
  (Zj (Zs (WB (["column"]:List ak) (["at"]:List ak) [1] rfl (MG B.range (vo 0)) (by kernel_rfl) (λ_ _ _ _ _=>(VN 0)) (λ_ _ _ _ _=>Z8) (λ_ _ _ _ _=>(VE.pure (Jh (Rj a.units (vo 0) (vo 1)) Zg Zg))))))
abbrev U8:bb:=Wc 18
theorem sc_block_of:Zm ["square","many","upper","lower"] ["square"] (Zf U8):=Wb
theorem ML(c:Def K mg "block_of" U8)(B:XX mg)(a:U3 P w K mg base):U4 P w K mg base:=
 Eb [] c sc_block_of λb=>
  (Zd (YR 1 sc_block_of.nd (VE.pure (JA B.len (vo 0))))
  (Zd (RL (["at","row"]:List ak) (["many"]:List ak) [1] (i:=2) sc_block_of.nd rfl rfl rfl (Vp aB rfl B.enumerate (YM (vo 0))) (by kernel_rfl) (λ_ _ _ _ _=>(Y0 (n:=2) rfl (Zx (VN 0) (Zx (VN 1) Yt)))) (λ_ _ _ _ _=>Z8) (λ_ _ _ _ _=>(VE.pure (Sl (O4 (VM.ve (Va Xj VY rfl B.list (by decide +kernel) (YM (vo 1)))) (WW a b (Wl (vo 2) (vo 0))))))))
  (Zd (RL (["at"]:List ak) (["many"]:List ak) [1] (i:=3) sc_block_of.nd rfl rfl rfl (MG B.range (vo 1)) (by kernel_rfl) (λ_ _ _ _ _=>(VN 0)) (λ_ _ _ _ _=>Z8) (λ_ _ _ _ _=>(VE.pure (Sl (O4 (WW a b (Wl (vo 1) (vo 0))) (VM.ve (Gz (Gk (YM Zg)) (vo 1))))))))
  (Zj (Zs (O4 (vo 2) (vo 3)))))))
abbrev X5:bb:=Wc 24
theorem SE:Zm ["rows","many","place"] ["rows","many","place"] (Zf X5):=Wb
theorem SF(b:Def K mg "rows_to_clear" X5)(B:XX mg):X1 P w K mg base:=
 Oz [] b SE λa=>
  (Zj (Zs (WB (["at"]:List ak) (["place","rows"]:List ak) [2,0] rfl (vr2 B.range (Yg (vo 2) Zg) (vo 1)) (by kernel_rfl) (λ_ _ _ _ _=>(VN 0)) (λ_ _ _ _ _=>(O2 (Oj a.units (Zl (Zl (vo 2) (vo 0)) (vo 1)) Zg))) (λ_ _ _ _ _=>(VE.pure (vo 0))))))
abbrev Kb:bb:=Wc 25
theorem Dq:Zm ["row","by","often"] ["row","by","often"] (Zf Kb):=Wb
theorem Dr(a:Def K mg "less" Kb)(B:XX mg):Nq P w K mg base:=
 Oz [] a Dq λb=>
  (Zj (Zs (WB (["number","other"]:List ak) (["often"]:List ak) [2] rfl (Vq aC aC rfl B.zip (Wl (vo 0) (vo 1))) (by kernel_rfl) (λ_ _ _ _ _=>(Y0 (n:=2) rfl (Zx (VN 0) (Zx (VN 1) Yt)))) (λ_ _ _ _ _=>Z8) (λ_ _ _ _ _=>(VE.pure (Xl (vo 0) (Wi (vo 2) (vo 1))))))))
abbrev X6:bb:=Wc 23
theorem sc_cleared_below:Zm ["block","many","place","rows","below","first","kept","at"] ["block","many","place"] (Zf X6):=Wb
theorem SG(d:Def K mg "cleared_below" X6)(B:XX mg)(T:P.given.tree=none)(a:X1 P w K mg base)(b:Nq P w K mg base):X2 P w K mg base:=
 Oz [3] d sc_cleared_below λc=>
  (Zd (YR 3 sc_cleared_below.nd (Va Xj VY rfl B.list (by decide +kernel) (YM (vo 0))))
  (Zd (YR 4 sc_cleared_below.nd (WV a c (WU (vo 3) (vo 1) (vo 2))))
  (Zd (V2 eM (Jg (JA B.len (vo 4)) Zg) (Zd (YR 5 sc_cleared_below.nd (VE.pure (Zl (vo 4) Zg)))
  (Zd (WD (VW.vt (Gb (Rj c.units (Zl (Zl (vo 3) (vo 2)) (vo 2)) Zg) (LD (Mm (vb N9 Gn B.abs (YM (Zl (Zl (vo 3) (vo 5)) (vo 2)))) (vb N9 Gn B.abs (YM (Zl (Zl (vo 3) (vo 2)) (vo 2)))))))) (Zd (YR 6 sc_cleared_below.nd (VE.pure (Zl (vo 3) (vo 2))))
  (Zd (XU (WN (Zl (vo 3) (vo 5)) (WM (pv 3) (vo 2) Y4)))
  (Zj (XU (WN (vo 6) (WM (pv 3) (vo 5) Y4)))))) YL)
  (Zd (GZ (Y8 (vo 4)) (Hy 7 sc_cleared_below.nd) (Zj (XU (WN (Sl (WV b c (WU (Zl (vo 3) (vo 7)) (Zl (vo 3) (vo 2)) (GX T (c.mono (by decide)) (Zl (Zl (vo 3) (vo 7)) (vo 2)) (Zl (Zl (vo 3) (vo 2)) (vo 2)))))) (WM (pv 3) (vo 7) Y4)))))
  (Zj (YR 4 sc_cleared_below.nd (WV a c (WU (vo 3) (vo 1) (vo 2)))))))))
  (Zj (RJ (pv 3))))))
abbrev WZ:bb:=Wc 26
theorem Q0:Zm ["block"] ["block"] (Zf WZ):=Wb
theorem Q1(a:Def K mg "turned_over" WZ)(B:XX mg):WX P w K mg base:=
 Eb [] a Q0 λb=>
  (Zj (Zs (IG "at" (["block"]:List ak) [0] rfl (MG B.range (JA B.len (vo 0))) (by kernel_rfl) (λ_ _ _ _ _=>(RF (i:=0) (show((["at","block"]:List ak)).Nodup by decide +kernel) rfl (il rfl) (.inl (beq_self_eq_true _)))) (λ_ _ _ _ _=>Z8) (λ_ _ _ _ _=>(VE.pure (Sl (WB (["row"]:List ak) (["at"]:List ak) [0] rfl (Y8 (vo 1)) (by kernel_rfl) (λ_ _ _ _ _=>(VN 0)) (λ_ _ _ _ _=>Z8) (λ_ _ _ _ _=>(VE.pure (Zl (vo 0) (vo 1)))))))))))
abbrev W0:bb:=Wc 22
theorem sc_crossed_out:Zm ["block","many","place","crossed"] ["block","many","place"] (Zf W0):=Wb
theorem Q2(d:Def K mg "crossed_out" W0)(B:XX mg)(a:X2 P w K mg base)(b:WX P w K mg base):WY P w K mg base:=
 Oz [3] d sc_crossed_out λc=>
  (Zd (YR 3 sc_crossed_out.nd (WV a c (WU (vo 0) (vo 1) (vo 2))))
  (Zd (V2 eM (OR (vb (IH rfl) Dl B.any (YM (Xy (Zl (vo 3) (vo 2)) (Xa (Yg (vo 2) Zg)) (Xa (vo 1)))))) (Zd (YR 3 sc_crossed_out.nd (WV b c (YM (WW a c (WU (WW b c (YM (vo 3))) (vo 1) (vo 2))))))
  (Zj (YR 3 sc_crossed_out.nd (WV a c (WU (vo 3) (vo 1) (vo 2)))))))
  (Zj (RJ (pv 3)))))
abbrev Ue:bb:=Wc 21
theorem sc_unfit_row:Zm ["block","many","place","part","at"] ["block","many","place"] (Zf Ue):=Wb
theorem NF(b:Def K mg "unfit_row" Ue)(B:XX mg):Ua P w K mg base:=
 Oz [] b sc_unfit_row λa=>
  (Zd (YR 3 sc_unfit_row.nd (VE.pure (Zl (Zl (vo 0) (vo 2)) (vo 2))))
  (Zd (GZ (vr2 B.range (Yg (vo 2) Zg) (vo 1)) (Hy 4 sc_unfit_row.nd) (Zj (WD (OR (vb (Ih rfl) BI B.any (YM (MH "number" ["part"] [3] (Y8 (Xy (Zl (vo 0) (vo 4)) WC (Xa (vo 1)))) (Cp a.units (Dm (vo 0) (vo 1)) Zg))))) (Zj (Zs (VE.pure (vo 4)))) YL)))
  (Zj (Zs (VE.pure Lz)))))
abbrev VB:bb:=Wc 20
theorem sc_part_found:Zm ["block","many","place","found","unfit"] ["block","many","place"] (Zf VB):=Wb
theorem PH(e:Def K mg "part_found" VB)(B:XX mg)(a:WY P w K mg base)(b:Ua P w K mg base)(c:Nq P w K mg base):Vy P w K mg base:=
 Oz [3] e sc_part_found λd=>
  (Zd (YR 3 sc_part_found.nd (WV a d (WU (vo 0) (vo 1) (vo 2))))
  (Zd (YR 4 sc_part_found.nd (WV b d (WU (vo 3) (vo 1) (vo 2))))
  (Zd (V2 eM (Jj (vo 4)) (Zd (XU (WN (Sl (WV c d (WU (Zl (vo 3) (vo 2)) (Zl (vo 3) (vo 4)) Zg))) (WM (pv 3) (vo 2) Y4)))
  (Zd (YR 3 sc_part_found.nd (WV a d (WU (vo 3) (vo 1) (vo 2))))
  (Zj (YR 4 sc_part_found.nd (WV b d (WU (vo 3) (vo 1) (vo 2))))))))
  (Zd (WD (Mm (Zl (Zl (vo 3) (vo 2)) (vo 2)) Zg) (Zj (XU (WN (Sl (WB (["number"]:List ak) ([]:List ak) [] rfl (Y8 (Zl (vo 3) (vo 2))) (by kernel_rfl) (λ_ _ _ _ _=>(VN 0)) (λ_ _ _ _ _=>Z8) (λ_ _ _ _ _=>(VE.pure (OU (vo 0)))))) (WM (pv 3) (vo 2) Y4)))) YL)
  (Zj (RJ (pv 3)))))))
abbrev SH:bb:=Wc 27
theorem Kc:Zm ["line","row"] ["line","row"] (Zf SH):=Wb
theorem Kd(a:Def K mg "divided" SH)(B:XX mg):Sr P w K mg base:=
 MI [] a Kc λb=>
  (Zj (Zs (VE.pure (Zv Zk ZC rfl B.tuple (by decide +kernel) (YM (Y9 (["number","by"]:List ak) ([]:List ak) [] rfl (Vq aB aB rfl B.zip (Wl (vo 0) (vo 1))) (by kernel_rfl) (λ_ _ _ _ _=>(Y0 (n:=2) rfl (Zx (VN 0) (Zx (VN 1) Yt)))) (λ_ _ _ _ _=>Z8) (λ_ _ _ _ _=>(Vc (vo 0) (vo 1)))))))))
abbrev X7:bb:=Wc 15
theorem SI:Zm ["row","square","column"] ["row","square","column"] (Zf X7):=Wb
theorem SJ(a:Def K mg "row_by_column" X7)(B:XX mg):X3 P w K mg base:=
 Oz [] a SI λb=>
  (Zj (Zs (VE.pure (vb (Xw rfl) UY B.sum (YM (Y9 (["at","number"]:List ak) (["column","square"]:List ak) [2,1] rfl (Vp aB rfl B.enumerate (YM (vo 0))) (by kernel_rfl) (λ_ _ _ _ _=>(Y0 (n:=2) rfl (Zx (VN 0) (Zx (VN 1) Yt)))) (λ_ _ _ _ _=>Z8) (λ_ _ _ _ _=>(Wi (vo 1) (Zl (Zl (vo 3) (vo 0)) (vo 2))))))))))
abbrev Ug:bb:=Wc 14
theorem NG:Zm ["row","square"] ["row","square"] (Zf Ug):=Wb
theorem NH(c:Def K mg "row_times" Ug)(B:XX mg)(a:X3 P w K mg base):Ub P w K mg base:=
 MI [] c NG λb=>
  (Zj (Zs (VE.pure (Zv Zk ZC rfl B.tuple (by decide +kernel) (YM (MH "column" ["row","square"] [0,1] (MG B.range (JA B.len (vo 0))) (WW a b (WU (vo 1) (vo 2) (vo 0)))))))))
abbrev VC:bb:=Wc 13
theorem PJ:Zm ["one","other"] ["one","other"] (Zf VC):=Wb
theorem PK(c:Def K mg "multiplied" VC)(B:XX mg)(a:Ub P w K mg base):Vz P w K mg base:=
 MI [] c PJ λb=>
  (Zj (Zs (VE.pure (Zv Zk ZC rfl B.tuple (by decide +kernel) (YM (MH "row" ["other"] [1] (Qs (vo 0)) (WW a b (Wl (vo 0) (vo 1)))))))))
abbrev NI:bb:=Wc 17
theorem sc_parts:Zm ["web","square","many","block","place","row","left","right","back","forth"] ["web"] (Zf NI):=Wb
theorem G8(g:Def K mg "parts" NI)(B:XX mg)(d:V9 P w K mg base)(e:U4 P w K mg base)(c:Vy P w K mg base)(b:Sr P w K mg base)(a:Vz P w K mg base):Nr P w K mg base:=
 Eb [] g sc_parts λf=>
  (Zd (YR 1 sc_parts.nd (WV d f (YM (vo 0))))
  (Zd (YR 2 sc_parts.nd (VE.pure (JA B.len (vo 1))))
  (Zd (YR 3 sc_parts.nd (WV e f (YM (vo 1))))
  (Zd (GZ (MG B.range (vo 2)) (Hy 4 sc_parts.nd) (Zj (YR 3 sc_parts.nd (WV c f (WU (vo 3) (vo 2) (vo 4))))))
  (Zd (YR 5 sc_parts.nd (VE.pure (Zv Zk ZC rfl B.tuple (by decide +kernel) (YM (MH "at" ["block"] [3] (MG B.range (vo 2)) (Zl (Zl (vo 1) (vo 0)) (vo 0)))))))
  (Zd (YR 6 sc_parts.nd (VE.pure (Zv Zk ZC rfl B.tuple (by decide +kernel) (YM (MH "line" ["many"] [2] (Y8 (Xy (vo 3) WC (Xa (vo 2)))) (Zv Zk ZC rfl B.tuple (by decide +kernel) (YM (Xy (vo 0) (Xa (vo 1)) WC))))))))
  (Zd (YR 7 sc_parts.nd (VE.pure (Zv Zk ZC rfl B.tuple (by decide +kernel) (YM (MH "line" ["many"] [2] (Y8 (Xy (vo 3) (Xa (vo 2)) WC)) (Zv Zk ZC rfl B.tuple (by decide +kernel) (YM (Xy (vo 0) WC (Xa (vo 1))))))))))
  (Zd (YR 8 sc_parts.nd (VE.pure (Zv Zk ZC rfl B.tuple (by decide +kernel) (YM (MH "line" ["row"] [5] (Qs (WW a f (Wl (vo 1) (vo 7)))) (WW b f (Wl (vo 0) (vo 1))))))))
  (Zd (YR 9 sc_parts.nd (VE.pure (Zv Zk ZC rfl B.tuple (by decide +kernel) (YM (Y9 (["line","by"]:List ak) (["many"]:List ak) [2] rfl (Vq aB aB rfl B.zip (Wl (WW a f (Wl (vo 6) (vo 1))) (vo 5))) (by kernel_rfl) (λ_ _ _ _ _=>(Y0 (n:=2) rfl (Zx (VN 0) (Zx (VN 1) Yt)))) (λ_ _ _ _ _=>Z8) (λ_ _ _ _ _=>(WW b f (Wl (vo 0) (Wy E8 E9 (OW (YM (vo 1))) (vo 2))))))))))
  (Zj (Zs (VE.pure (OW (To (vo 6) (va4 (vo 8) (vo 7) (vo 9) (vo 5))))))))))))))))
abbrev U9:bb:=Wc 28
theorem MM:Zm ["web","purse"] ["web","purse"] (Zf U9):=Wb
theorem MN(e:Def K mg "place_of" U9)(B:XX mg)(c:Np P w K mg base)(b:Nn P w K mg base)(a:Nr P w K mg base):U5 P w K mg base:=
 MI [] e MM λd=>
  (Zj (Zs (VE.pure (Wy Na Nc (OW (YM (WW c d (YM (vo 1))))) (WW b d (Wl (WW a d (YM (vo 0))) (vo 1)))))))
abbrev SK:bb:=Wc 39
theorem Ke:Zm ["row","by","place","divisor"] ["row","by","place","divisor"] (Zf SK):=Wb
theorem Kf(a:Def K mg "reduced" SK)(B:XX mg):Ss P w K mg base:=
 dk4 [] a Ke λb=>
  (Zj (Zs (VE.pure (Zv Zk ZC rfl B.tuple (by decide +kernel) (YM (Y9 (["number","other"]:List ak) (["divisor","by","place","row"]:List ak) [3,1,2,0] rfl (Vq aB aB rfl B.zip (Wl (vo 0) (vo 1))) (by kernel_rfl) (λ_ _ _ _ _=>(Y0 (n:=2) rfl (Zx (VN 0) (Zx (VN 1) Yt)))) (λ_ _ _ _ _=>Z8) (λ_ _ _ _ _=>(Vc (Xl (Wi (Zl (vo 3) (vo 4)) (vo 0)) (Wi (Zl (vo 5) (vo 4)) (vo 1))) (vo 2)))))))))
abbrev Q3:bb:=Wc 38
theorem sc_evened:Zm ["rows","left","divisor","place","by"] ["rows"] (Zf Q3):=Wb
theorem IT(c:Def K mg "evened" Q3)(B:XX mg)(a:Ss P w K mg base):QU P w K mg base:=
 Eb [1] c sc_evened λb=>
  (Zd (YR 1 sc_evened.nd (Va Xj VY rfl B.list (by decide +kernel) (YM (vo 0))))
  (Zd (YR 2 sc_evened.nd (VE.pure Zg))
  (Zd (GZ (MG B.range (JA B.len (vo 0))) (Hy 3 sc_evened.nd) (Zd (YR 4 sc_evened.nd (VE.pure (Zl (vo 1) (vo 3))))
  (Zd (RL (["at","row"]:List ak) (["place","by","divisor"]:List ak) [3,4,2] (i:=1) sc_evened.nd rfl rfl rfl (Vp aC rfl B.enumerate (YM (vo 1))) (by kernel_rfl) (λ_ _ _ _ _=>(Y0 (n:=2) rfl (Zx (VN 0) (Zx (VN 1) Yt)))) (λ_ _ _ _ _=>Z8) (λ_ _ _ _ _=>(VE.pure (Jh (Rj b.units (vo 0) (vo 2)) (vo 1) (WW a b (va4 (vo 1) (vo 3) (vo 2) (vo 4)))))))
  (Zj (YR 2 sc_evened.nd (VE.pure (Zl (vo 4) (vo 3))))))))
  (Zj (GR (Lq (Y7 (vo 2) (Y7 (pv 1) UW))))))))
abbrev Ws:bb:=Wc 37
theorem sc_solved_below:Zm ["square","column","told"] ["square","column"] (Zf Ws):=Wb
theorem RE(c:Def K mg "solved_below" Ws)(B:XX mg)(a:QU P w K mg base):Wr P w K mg base:=
 MI [] c sc_solved_below λb=>
  (Zd (YR 2 sc_solved_below.nd (WV a b (YM (Y9 (["row","number"]:List ak) ([]:List ak) [] rfl (Vq aB aB rfl B.zip (Wl (vo 0) (vo 1))) (by kernel_rfl) (λ_ _ _ _ _=>(Y0 (n:=2) rfl (Zx (VN 0) (Zx (VN 1) Yt)))) (λ_ _ _ _ _=>Z8) (λ_ _ _ _ _=>(Wy Na Nc (vo 0) (OW (YM (vo 1)))))))))
  (Zj (Zs (WB (["row"]:List ak) (["told"]:List ak) [2] rfl (Y8 (Zl (vo 2) Zg)) (by kernel_rfl) (λ_ _ _ _ _=>(VN 0)) (λ_ _ _ _ _=>Z8) (λ_ _ _ _ _=>(VE.pure (Vc (Zl (vo 0) (OU Zg)) (Zl (vo 1) Zg))))))))
abbrev SM:bb:=Wc 42
theorem sc_nearing:Zm ["web","purse","base","column","script"] ["web","purse","base"] (Zf SM):=Wb
theorem Kg(d:Def K mg "nearing" SM)(B:XX mg)(b:Wr P w K mg base)(a:YY P w K mg base):Su P w K mg base:=
 Oz [4] d sc_nearing λc=>
  (Zd (YR 3 sc_nearing.nd (VE.pure (Wy Na Nc (Sa (vo 1) WC (Xa (vo 2))) (Sa (vo 1) (Xa (Yg (vo 2) Zg)) WC))))
  (Zd (YR 4 sc_nearing.nd (WV b c (Wl (WW a c (Wl (vo 0) (vo 2))) (vo 3))))
  (Zd (Oi (Uq (Ja eA hW iA P8 (pv 4) (Y7 (vo 2) (Y7 Zg UW)))))
  (Zj (Zs (VE.pure (Zv Zk ZC rfl B.tuple (by decide +kernel) (YM (vo 4)))))))))
abbrev Kh:bb:=Wc 5
theorem Ds:Zm ["web","script","house"] ["web","script","house"] (Zf Kh):=Wb
theorem Dt(a:Def K mg "gain" Kh)(B:XX mg):L3 P w K mg base:=
 Oz [] a Ds λb=>
  (Zj (Zs (VE.pure (vb (Xw rfl) UY B.sum (YM (Y9 (["other","times"]:List ak) (["script","house"]:List ak) [1,2] rfl (Vp aB rfl B.enumerate (YM (Zl (vo 0) (vo 2)))) (by kernel_rfl) (λ_ _ _ _ _=>(Y0 (n:=2) rfl (Zx (VN 0) (Zx (VN 1) Yt)))) (λ_ _ _ _ _=>Z8) (λ_ _ _ _ _=>(WQ (vo 1) (Xl (Zl (vo 2) (vo 0)) (Zl (vo 2) (vo 3)))))))))))
abbrev G9:bb:=Wc 4
theorem B6:Zm ["web","purse","script"] ["web","purse","script"] (Zf G9):=Wb
theorem B7(c:Def K mg "run" G9)(B:XX mg)(a:L3 P w K mg base):G0 P w K mg base:=
 Oz [] c B6 λb=>
  (Zj (Zs (VE.pure (Zv Zk ZC rfl B.tuple (by decide +kernel) (YM (Y9 (["house","coins"]:List ak) (["web","script"]:List ak) [0,2] rfl (Vp aB rfl B.enumerate (YM (vo 1))) (by kernel_rfl) (λ_ _ _ _ _=>(Y0 (n:=2) rfl (Zx (VN 0) (Zx (VN 1) Yt)))) (λ_ _ _ _ _=>Z8) (λ_ _ _ _ _=>(Yg (vo 1) (WW a b (WU (vo 2) (vo 3) (vo 0)))))))))))
abbrev SN:bb:=Wc 35
theorem Ki:Zm ["purse","base"] ["purse","base"] (Zf SN):=Wb
theorem Kj(b:Def K mg "in_debt" SN)(B:XX mg):Sv P w K mg base:=
 MI [] b Ki λa=>
  (Zj (Zs (WB (["house","coins"]:List ak) (["base"]:List ak) [1] rfl (Vp aB rfl B.enumerate (YM (vo 0))) (by kernel_rfl) (λ_ _ _ _ _=>(Y0 (n:=2) rfl (Zx (VN 0) (Zx (VN 1) Yt)))) (λ_ _ _ _ _=>(O2 (VW.vt (LF (Oj a.units (vo 0) (vo 2)) (OS (Mm (vo 1) Zg)))))) (λ_ _ _ _ _=>(VE.pure (vo 0))))))
abbrev Uh:bb:=Wc 43
theorem NJ:Zm ["web","houses"] ["web","houses"] (Zf Uh):=Wb
theorem NK(b:Def K mg "borrowing" Uh)(B:XX mg):Uc P w K mg base:=
 MI [] b NJ λa=>
  (Zj (Zs (VE.pure (Zv Zk ZC rfl B.tuple (by decide +kernel) (YM (MH "house" ["houses"] [1] (MG B.range (JA B.len (vo 0))) (Jh (Zah a.units (vo 0) (vo 1)) (OU Zg) Zg)))))))
abbrev Kk:bb:=Wc 7
theorem Du:Zm ["one","other"] ["one","other"] (Zf Kk):=Wb
theorem Dv(a:Def K mg "plus" Kk)(B:XX mg):L4 P w K mg base:=
 MI [] a Du λb=>
  (Zj (Zs (VE.pure (Zv Zk ZC rfl B.tuple (by decide +kernel) (YM (Y9 (["first","second"]:List ak) ([]:List ak) [] rfl (Vq aB aB rfl B.zip (Wl (vo 0) (vo 1))) (by kernel_rfl) (λ_ _ _ _ _=>(Y0 (n:=2) rfl (Zx (VN 0) (Zx (VN 1) Yt)))) (λ_ _ _ _ _=>Z8) (λ_ _ _ _ _=>(Yg (vo 0) (vo 1)))))))))
abbrev NL:bb:=Wc 6
theorem sc_least:Zm ["script","lowest"] ["script"] (Zf NL):=Wb
theorem Fb(a:Def K mg "least" NL)(B:XX mg):RV P w K mg base:=
 Eb [] a sc_least λb=>
  (Zd (YR 1 sc_least.nd (VE.pure (vb (Iy rfl) Dd B.min (YM (vo 0)))))
  (Zj (Zs (VE.pure (Zv Zk ZC rfl B.tuple (by decide +kernel) (YM (MH "often" ["lowest"] [1] (Qs (vo 0)) (Xl (vo 0) (vo 1)))))))))
abbrev SO:bb:=Wc 34
theorem Kl:Zm ["web","house","others"] ["web","house","others"] (Zf SO):=Wb
theorem Km(a:Def K mg "ties_to" SO)(B:XX mg):Sw P w K mg base:=
 Oz [] a Kl λb=>
  (Zj (Zs (VE.pure (vb (Xw rfl) UY B.sum (YM (MH "other" ["web","house"] [0,1] (Zak (vo 2)) (Zl (Zl (vo 1) (vo 2)) (vo 0))))))))
abbrev X8:bb:=Wc 33
theorem sc_house_to_burn:Zm ["web","purse","fire","house","coins"] ["web","purse","fire"] (Zf X8):=Wb
theorem SQ(c:Def K mg "house_to_burn" X8)(B:XX mg)(a:Sw P w K mg base):X4 P w K mg base:=
 Oz [] c sc_house_to_burn λb=>
  (Zd (GZ (Vp aB rfl B.enumerate (YM (vo 1))) (Y0 (n:=2) rfl (Zx (Hy 3 sc_house_to_burn.nd) (Zx (Hy 4 sc_house_to_burn.nd) Yt))) (Zj (WD (VW.vt (LF (Gy b.units (vo 3) (vo 2)) (OS (Mm (vo 4) (WW a b (WU (vo 0) (vo 3) (vo 2))))))) (Zj (Zs (VE.pure (vo 3)))) YL)))
  (Zj (Zs (VE.pure Lz))))
abbrev NM:bb:=Wc 32
theorem sc_burnt:Zm ["web","purse","base","fire","house"] ["web","purse","base"] (Zf NM):=Wb
theorem Fc(c:Def K mg "burnt" NM)(B:XX mg)(a:X4 P w K mg base):Nt P w K mg base:=
 Oz [3] c sc_burnt λb=>
  (Zd (YR 3 sc_burnt.nd (LI (Tp (VE.pure (vo 2)) RG)))
  (Zd (YR 4 sc_burnt.nd (WV a b (WU (vo 0) (vo 1) (vo 3))))
  (Zd (V2 eM (Jj (vo 4)) (Zd (Oh (Uq (Ja eA iB iC P4 (pv 3) (Y7 (VE.pure (vo 4)) UW))))
  (Zj (YR 4 sc_burnt.nd (WV a b (WU (vo 0) (vo 1) (vo 3)))))))
  (Zj (RJ (pv 3))))))
abbrev Q4:bb:=Wc 41
theorem sc_settle:Zm ["web","purse","base","script","near","indebted","step"] ["web","purse","base"] (Zf Q4):=Wb
theorem IU(i:Def K mg "settle" Q4)(B:XX mg)(c:Su P w K mg base)(f:G0 P w K mg base)(a:Sv P w K mg base)(b:Uc P w K mg base)(h:L4 P w K mg base)(e:Nt P w K mg base)(d:RV P w K mg base):QV P w K mg base:=
 Oz [] i sc_settle λg=>
  (Zd (YR 3 sc_settle.nd (WV c g (WU (vo 0) (vo 1) (vo 2))))
  (Zd (YR 4 sc_settle.nd (WV f g (WU (vo 0) (vo 1) (vo 3))))
  (Zd (YR 5 sc_settle.nd (WV a g (Wl (vo 4) (vo 2))))
  (Zd (V2 eM (Jg (JA B.len (vo 5)) Zg) (Zd (YR 6 sc_settle.nd (WV b g (Wl (vo 0) (vo 5))))
  (Zd (YR 3 sc_settle.nd (WV h g (Wl (vo 3) (vo 6))))
  (Zd (YR 4 sc_settle.nd (WV f g (WU (vo 0) (vo 4) (vo 6))))
  (Zj (YR 5 sc_settle.nd (WV a g (Wl (vo 4) (vo 2)))))))))
  (Zj (Zs (BF (Tp (WV d g (YM (vo 3))) (Tp (VE.pure (vo 4)) (Tp (WV e g (WU (vo 0) (vo 4) (vo 2))) RG))))))))))
abbrev NN:bb:=Wc 8
theorem Fd:Zm ["one","other"] ["one","other"] (Zf NN):=Wb
theorem Fe(a:Def K mg "minus" NN)(B:XX mg):Nu P w K mg base:=
 MI [] a Fd λb=>
  (Zj (Zs (VE.pure (Zv Zk ZC rfl B.tuple (by decide +kernel) (YM (Y9 (["first","second"]:List ak) ([]:List ak) [] rfl (Vq aB aB rfl B.zip (Wl (vo 0) (vo 1))) (by kernel_rfl) (λ_ _ _ _ _=>(Y0 (n:=2) rfl (Zx (VN 0) (Zx (VN 1) Yt)))) (λ_ _ _ _ _=>Z8) (λ_ _ _ _ _=>(Xl (vo 0) (vo 1)))))))))
abbrev NO:bb:=Wc 45
theorem sc_alike:Zm ["web","one","other","from_one","from_other"] ["web","one","other"] (Zf NO):=Wb
theorem Ff(e:Def K mg "alike" NO)(B:XX mg)(a:QV P w K mg base)(b:RV P w K mg base)(c:Nu P w K mg base):Nv P w K mg base:=
 Oz [] e sc_alike λd=>
  (Zd (YR 3 sc_alike.nd (WV a d (WU (vo 0) (vo 1) Zg)))
  (Zd (YR 4 sc_alike.nd (WV a d (WU (vo 0) (vo 2) Zg)))
  (Zd (WD (Oj d.units (Zl (vo 3) Zg) (Zl (vo 4) Zg)) (Zj (Zs (VE.pure Lz))) YL)
  (Zj (Zs (WV b d (YM (WW c d (Wl (Zl (vo 3) Zg) (Zl (vo 4) Zg))))))))))
abbrev SR:bb:=Wc 53
theorem Kn:Zm ["_law_cell_here"] ["_law_cell_here"] (Zf SR):=Wb
theorem Ko(b:Def K mg "_law_often" SR)(B:XX mg):Sx P w K mg base:=
 Eb [] b Kn λa=>
  (Zd (WD (Rj a.units (YN (vo 0) Zg) Zg) (Zj (Zs (VE.pure (Xl (YN (Wi (vo 0) (vo 0)) (Wi Zg (Ql Zg Zg))) (Ql Zg Zg))))) YL)
  (Zj (Zs (VE.pure (Xl (YN (Vc (vo 0) Zg) Zg) Zg)))))
abbrev Ta:bb:=Wc 54
theorem MO:Zm ["_law_script_here","_law_at","_law_houses"] ["_law_script_here","_law_at","_law_houses"] (Zf Ta):=Wb
theorem MP(d:Def K mg "_law_script" Ta)(B:XX mg)(a:Sx P w K mg base)(b:Vf P w K mg base):U6 P w K mg base:=
 Oz [] d MO λc=>
  (Zj (Zs (VE.pure (Zv Zk ZC rfl B.tuple (by decide +kernel) (YM (MH "_law_k" ["_law_script_here","_law_at"] [0,1] (MG B.range (vo 2)) (WW a c (YM (WW b c (Wl (vo 1) (Yg (vo 2) (vo 0))))))))))))
abbrev SS:bb:=Wc 57
theorem Kp:Zm ["_law_number"] ["_law_number"] (Zf SS):=Wb
theorem Kq(a:Def K mg "_law_whole" SS)(B:XX mg):Sy P w K mg base:=
 Eb [] a Kp λb=>
  (Zj (Zs (VE.pure (LG (vb VU OX B.isinstance (Wl (vo 0) (Gp rfl B.int (by decide +kernel)))) (Gg (BC (vb VU OX B.isinstance (Wl (vo 0) (Gp rfl B.bool (by decide +kernel))))))))))
abbrev NP:bb:=Wc 58
theorem Fg:Zm ["_law_found","_law_houses"] ["_law_found","_law_houses"] (Zf NP):=Wb
theorem Fh(c:Def K mg "_law_row" NP)(B:XX mg)(a:Sy P w K mg base):Nw P w K mg base:=
 MI [] c Fg λb=>
  (Zj (Zs (VE.pure (LG (vb VU OX B.isinstance (Wl (vo 0) (Gp rfl B.tuple (by decide +kernel)))) (LG (Co b.units (JA B.len (vo 0)) (vo 1)) (Gg (vb (Ig rfl) BH B.all (YM (MH "_law_one" [] [] (Qs (vo 0)) (WW a b (YM (vo 0))))))))))))
abbrev Fi:bb:=Wc 60
theorem sc_law:Zm ["_law_script_here","_law_web_here","_law_houses","_law_purse_here","_law_often_here","_law_cell_here","_law_house","_law_other","_law_place","_law_moved","_law_one","_law_two","_law_found"] ["_law_script_here"] (Zf Fi):=Wb
theorem B8{n:aL}{m:du}(o:Fun K "law" "law" Fi n m)(B:XX mg)(i:Nl P w K mg base)(h:So P w K mg base)(f:U6 P w K mg base)(b:TJ P w K mg base)(e:Nm P w K mg base)(a:U5 P w K mg base)(g:Nw P w K mg base)(d:Vf P w K mg base)(j:Nv P w K mg base):Ru P w K mg base Lw 41 n m (["_law_script_here"]:List ak) (Y5 K D_law 1):=
 BQ (O:=[4,9]) (k:=40) 13 Cz o sc_law rfl rfl (by decide) (λq p A l s H E c=>
  (Zd (YR 1 sc_law.nd (WV i c (Wl (vo 0) Zg)))
  (Zd (YR 2 sc_law.nd (VE.pure (JA B.len (vo 1))))
  (Zd (YR 3 sc_law.nd (WV h c (WU (vo 0) Zg (vo 2))))
  (Zd (YR 4 sc_law.nd (Va Xj VY rfl B.list (by decide +kernel) (YM (WW f c (WU (vo 0) Zg (vo 2))))))
  (Zd (GZ (Y8 (Xy (vo 0) (Xa Zg) (Xa Zg))) (Hy 5 sc_law.nd) (Zd (YR 6 sc_law.nd (WV b c (WU (vo 5) Zg (vo 2))))
  (Zj (XU (WN (Yg (Zl (vo 4) (vo 6)) Zg) (WM (pv 4) (vo 6) Y4))))))
  (Zd (YR 7 sc_law.nd (WV e c (WU (vo 1) (vo 3) (vo 4))))
  (Zd (YR 8 sc_law.nd (WV a c (Wl (vo 1) (vo 3))))
  (Zd (WD (VW.vt (Gb (Gd (OR (WW g c (Wl (vo 8) (vo 2))))) (LD (Oj c.units (WW a c (Wl (vo 1) (vo 7))) (vo 8))))) (Zj (Zs (VE.pure Ci))) YL)
  (Zd (YR 9 sc_law.nd (Va Xj VY rfl B.list (by decide +kernel) (YM (vo 7))))
  (Zd (YR 10 sc_law.nd (WV b c (WU (WW d c (Wl (vo 0) Zg)) Zg (vo 2))))
  (Zd (YR 11 sc_law.nd (WV b c (WU (WW d c (Wl (vo 0) Zg)) Zg (vo 2))))
  (Zd (XU (WN (Xl (Zl (vo 9) (vo 10)) Zg) (WM (pv 9) (vo 10) Y4)))
  (Zd (XU (WN (Yg (Zl (vo 9) (vo 11)) Zg) (WM (pv 9) (vo 11) Y4)))
  (Zd (YR 12 sc_law.nd (WV j c (WU (vo 1) (vo 3) (Zv Zk ZC rfl B.tuple (by decide +kernel) (YM (vo 9))))))
  (Zd (WD (BD (vo 12)) (Zj (Zs (VE.pure (Cp c.units (WW a c (Wl (vo 1) (Zv Zk ZC rfl B.tuple (by decide +kernel) (YM (vo 9))))) (vo 8))))) YL)
  (Zd (WD (VW.vt (Gb (Gd (OR (WW g c (Wl (vo 12) (vo 2))))) (LD (Oj c.units (WW e c (WU (vo 1) (vo 3) (vo 12))) (Zv Zk ZC rfl B.tuple (by decide +kernel) (YM (vo 9))))))) (Zj (Zs (VE.pure Ci))) YL)
  (Zj (Zs (VE.pure (Co c.units (WW a c (Wl (vo 1) (Zv Zk ZC rfl B.tuple (by decide +kernel) (YM (vo 9))))) (vo 8))))))))))))))))))))))
end
end PW
namespace PW
open L2 VL
theorem Kr{W:List (List Int)}{h:Nat}(a:h<W.length):Uu [wP W,.int (h:Int)]=aA (.int (ZK W h).sum):=by simp[Uu,Oq,Yz,ZN,Us a]
theorem Fj(l:List Int):RO [pP l]=aA (.int l.sum):=by simp[RO,Jr,Yz,ZN]
theorem Fl(i:Int):Wj [.int i]=aA (.bl aC):=by simp[Wj,Ot,Yz,ZN]
noncomputable def Ks(a b:List Int):List Int:=(aE a.length).map λi=>Zn a i+Zn b i
noncomputable def UL(a b:List Int):List Int:=(aE a.length).map λi=>Zn a i-Zn b i
theorem Dw{a b:List Int}(h:b.length=a.length)(f:a.length<=1000):U1 [pP a,pP b]=aA (pP (Ks a b)):=by
 have d:Vo (iL a) (iL b)=(aE a.length).map λi=>.tup [.int (Zn a i),.int (Zn b i)]:=by rw[YO _ _ (by simpa using h),aO];apply aq;intro i c;have c:=aR.mp c;rw[YD a i c,YD b i (by omega)]
 have e:Zr 2 [] (U0 aB aB [Za 0,Za 1]) (.many [0,1]) Zy (Zi Yj (Za 0) (Za 1)) [aA (pP a),aA (pP b)]=aA (.lst (iL (Ks a b))):=by rw[ZX (aE a.length) (λi=>.tup [.int (Zn a i),.int (Zn b i)]) (λi=>.int (Zn a i+Zn b i)) (by simp[d]) (by simp;omega) (λi _=>⟨_,rfl,rfl,by simp[setAll,ZJ]⟩)];simp[Ks]
 simp[U1,GJ,Yz,ZN,e]
theorem Fm{a b:List Int}(h:b.length=a.length)(f:a.length<=1000):Uv [pP a,pP b]=aA (pP (UL a b)):=by
 have d:Vo (iL a) (iL b)=(aE a.length).map λi=>.tup [.int (Zn a i),.int (Zn b i)]:=by rw[YO _ _ (by simpa using h),aO];apply aq;intro i c;have c:=aR.mp c;rw[YD a i c,YD b i (by omega)]
 have e:Zr 2 [] (U0 aB aB [Za 0,Za 1]) (.many [0,1]) Zy (Zi XN (Za 0) (Za 1)) [aA (pP a),aA (pP b)]=aA (.lst (iL (UL a b))):=by rw[ZX (aE a.length) (λi=>.tup [.int (Zn a i),.int (Zn b i)]) (λi=>.int (Zn a i-Zn b i)) (by simp[d]) (by simp;omega) (λi _=>⟨_,rfl,rfl,by simp[setAll,ZJ]⟩)];simp[UL]
 simp[Uv,Js,Yz,ZN,e]
theorem RW(l:List Int):Wz (iL l)=(aE l.length).map λ(i:Nat)=>.tup [.int (i:Int),.int (Zn l i)]:=by rw[WG,aO];apply aq;intro i a;rw[YD l i (aR.mp a)]
noncomputable def Wd(W:List (List Int))(S:List Int)(h:Nat):Int:=((aE W.length).map λi=>ent W h i*(Zn S i-Zn S h)).sum
theorem Dx{W:List (List Int)}{S:List Int}{h:Nat}(ok:ZQ W)(c:h<W.length)(k:S.length=W.length):QG [wP W,pP S,.int (h:Int)]=aA (.int (Wd W S h)):=by
 have d:=ok.sq h c;have m:=ok.few
 have f:Zr 2 [1,2] (Xu aB [Zi ZM (Za 0) (Za 2)]) (.many [0,1]) Zy (Zi UH (Za 1) (Zi XN (Zi ZM (Za 2) (Za 0)) (Zi ZM (Za 2) (Za 3)))) [aA (wP W),aA (pP S),aA (.int (h:Int))]=aA (.lst (iL ((aE W.length).map λi=>ent W h i*(Zn S i-Zn S h)))):=by
  rw[ZX (aE W.length) (λi=>.tup [.int (i:Int),.int (ent W h i)]) (λi=>.int (ent W h i*(Zn S i-Zn S h))) (by simp[Us c,RW,d];intro a _;rfl) (by simp;omega) (λi b=>?_)]
  ·simp
  ·have b:=aR.mp b;refine⟨_,rfl,rfl,?_⟩;have g:=ok.lo h i c b;have l:=ok.hi h i c b;have e:∀j,CMul (ent W h i) j:=λj=>LV (by omega) (by omega);simp[setAll,ZJ,Y1 (show i<S.length by omega),Y1 (show h<S.length by omega),e]
 simp[QG,GI,Yz,ZN,f,Wd,-dD]
noncomputable def ZG(W:List (List Int))(D S:List Int):List Int:=(aE D.length).map λh=>Zn D h+Wd W S h
theorem Fo{W:List (List Int)}{D S:List Int}(ok:ZQ W)(d:D.length=W.length)(b:S.length=W.length):UO [wP W,pP D,pP S]=aA (pP (ZG W D S)):=by
 have e:=ok.few
 have c:Zr 2 [0,2] (Xu aB [Za 1]) (.many [0,1]) Zy (Zi Yj (Za 1) (Zc QG [Za 2,Za 3,Za 0])) [aA (wP W),aA (pP D),aA (pP S)]=aA (.lst (iL (ZG W D S))):=by
  rw[ZX (aE D.length) (λi=>.tup [.int (i:Int),.int (Zn D i)]) (λh=>.int (Zn D h+Wd W S h)) (by simp[RW]) (by simp;omega) (λi a=>?_)]
  ·simp[ZG]
  ·have a:=aR.mp a;refine⟨_,rfl,rfl,?_⟩;simp[setAll,ZJ,Dx ok (show i<W.length by omega) b]
 simp[UO,Ct,Yz,ZN,c]
theorem Fp{l:List Int}(d:l.length<=1000):Ov [pP l,.int (l.length:Int)]=aA (.bl aC):=by
 have a:Zr 1 [] (T9 (Za 0)) (.one 0) Zy (Zc Wj [Za 0]) [aA (pP l),aA (.int (l.length:Int))]=aA (.lst (bL (l.map λ_=>aC))):=by rw[ZX l PV.int (λ_=>.bl aC) (QA (by simp)) (by omega) (λi c=>⟨_,rfl,rfl,by simp[ZJ,Fl]⟩)];simp
 have b:LJ [.lst (bL (l.map λ_=>aC))]=aA (.bl aC):=by rw[BV];simp
 simp[Ov,Ou,Yz,ZN,a,b,-dD]
noncomputable def Fq(W:List (List Int))(a b:Nat):List (List Int):=(aE (ent W a b).toNat).map λ(t:Nat)=>[(a:Int),(b:Int),(t:Int)]
noncomputable def CA(W:List (List Int))(a:Nat):List (List Int):=(aE (W.length-(a+1))).flatMap λj=>Fq W a (a+1+j)
noncomputable def UQ(W:List (List Int)):List (List Int):=(aE W.length).flatMap (CA W)
theorem IV{a:Type}(f:Nat->List a)(i:Nat):(aE (i+1)).flatMap f=(aE i).flatMap f++f i:=by rw[gU];simp
noncomputable def tk(e:Tie):List Pp:=[.inl (e.1:Int),.inl (e.2.1:Int)]
noncomputable def W3(W:List (List Int)):Prop:=∀P:Nat->Prop,(∀a b,a<W.length->b<W.length->0<ent W a b->(P a↔P b))->∀i j,i<W.length->j<W.length->(P i↔P j)
theorem Q5:∀{l m:List Int},l.Nodup->(∀x∈l,x∈m)->l.length<=m.length
 | [],m,_,_=>cP _
 | x::r,m,nd,h=>by have b:x∈m:=h x (by simp);have a:=bN.mp nd;have:=Q5 (l:=r) (m:=m.erase x) a.2 λy c=>(List.mem_erase_of_ne (show y≠x from λz=>a.1 (by rw[<-z];exact c))).mpr (h y (by simp[c]));rw[List.length_erase_of_mem b] at this;have d:=List.length_pos_of_mem b;rw[bh];omega
theorem Zcf{n:Nat}{l:List Int}(d:l.Nodup)(h:∀x∈l,∃k:Nat,k<n/\x=(k:Int))(e:l.length=n){j:Nat}(c:j<n):(j:Int)∈l:=by
 by_cases q:(j:Int)∈l
 ·exact q
 ·have:=Q5 (bN.mpr ⟨q,d⟩) (λx a=>by
   rcases a9.mp a with rfl | a
   ·exact bj.mpr ⟨j,aR.mpr c,rfl⟩
   ·obtain⟨k,b,rfl⟩:=h x a;exact bj.mpr ⟨k,aR.mpr b,rfl⟩)
  rw[bh,aO,bu] at this;omega
noncomputable def rL(M:List (List Int)):List PV:=M.map λr=>.lst (iL r)
theorem Kt{M:List (List Int)}{a:Nat}(h:a<M.length):(rL M)[a]?=aA (.lst (iL (ZK M a))):=by unfold rL;rw[aW,Mj h];rfl
theorem Fs{M:List (List Int)}{a b:Nat}{t:Int}:(rL M).set a (.lst ((iL (ZK M a)).set b (.int t)))=rL (T6 M a b t):=by unfold rL T6;rw[jo];show _=(jq (λr=>PV.lst (iL r)) M).set a (PV.lst (((ZK M a).set b t).map PV.int));rw[jo]
theorem Ft(l:List Int)(k:Nat)(x:Int):(iL l).take k++PV.int x::(iL l).drop k=iL (l.take k++x::l.drop k):=by simp
theorem CB(neg:Bool)(a:Int)(l:List Int):Im neg (.int a) (.lst (iL l))=aA (.bl (if neg then !decide (a∈l) else decide (a∈l))):=by
 have c:((iL l).all λz=>UI 8 z (.int a))=aC:=by rw[jm,ao];intro x _;rfl
 show(aA (iL l)).bind _=_;simp only[aV,kr c]
 have:decide (PV.int a∈iL l)=decide (a∈l):=decide_eq_decide.mpr (by
  rw[bj];constructor
  ·rintro⟨x,b,e⟩;cases e;exact b
  ·intro h;exact⟨a,h,rfl⟩)
 rw[this]
theorem Yr{f g:XS}{s s1:ZH}(a:f s=aA (.nx s1)):Zp f g s=g s1:=by simp only[Mx,a,aV]
theorem Fu(a b:List Int):(Ks a b).length=a.length:=by simp[Ks]
theorem Vg(a b:List Int):(UL a b).length=a.length:=by simp[UL]
theorem Yd(W:List (List Int))(D S:List Int):(ZG W D S).length=D.length:=by simp[ZG]
theorem MQ{a b:List Int}{i:Nat}(h:i<a.length):Zn (Ks a b) i=Zn a i+Zn b i:=Ya h
theorem Q6{a b:List Int}{i:Nat}(h:i<a.length):Zn (UL a b) i=Zn a i-Zn b i:=Ya h
theorem Wt{W:List (List Int)}{a b:List Int}{i:Nat}(h:i<a.length):Zn (ZG W a b) i=Zn a i+Wd W b i:=Ya h
theorem WI{a b:List Int}(c:a.length=b.length)(h:∀i,i<a.length->Zn a i=Zn b i):a=b:=by rw[<-T5 a,<-T5 b,c];apply aq;intro i d;exact h i (by rw[c];exact aR.mp d)
theorem UB{W:List (List Int)}(ok:ZQ W){i:Nat}(a:i<W.length):(ZK W i).sum=((aE W.length).map λj=>ent W i j).sum:=by rw[<-OP (ZK W i),ok.sq i a];rfl
theorem Ku{W:List (List Int)}(ok:ZQ W):((UQ W).length:Int)=((aE W.length).map λa=>((aE (W.length-(a+1))).map λj=>ent W a (a+1+j)).sum).sum:=by
 have b:∀(f:Nat->List (List Int))(n:Nat),(((aE n).flatMap f).length:Int)=((aE n).map λi=>((f i).length:Int)).sum:=by
  intro f n
  induction n with
  | zero=>rfl
  | succ n ih=>rw[IV,az,Z9];omega
 unfold UQ;rw[b];apply Yi;intro a c;unfold CA;rw[b];apply Yi;intro j d;have:=ok.lo a (a+1+j) c (by omega);unfold Fq;rw[aO,bu];omega
theorem MR{W:List (List Int)}(ok:ZQ W):((aE W.length).map λi=>(ZK W i).sum).sum=2*((UQ W).length:Int):=by rw[Ku ok,<-HY (λi j=>ent W i j) W.length (λi j a b=>ok.sym i j a b) (λi a=>ok.dia i a)];apply Yi;intro i a;exact UB ok a
theorem XC{n m:Nat}{ix:List Nat}{b:XL}{d:XT}{c:XE}{s:ZH}(g:Nat->Int)(a:b s=aA (Tr m))(f:m<=1000)(h:∀i:Nat,i<m->∃s1,Xm (.one 0) (.int (i:Int)) (ZJ n ix s)=aA s1/\d s1=aA aC/\c s1=aA (.int (g i))) :
  Zr n ix b (.one 0) d c s=aA (.lst (iL ((aE m).map g))):=by
 rw[ZX (aE m) (λi=>.int (i:Int)) (λi=>.int (g i)) a (by simp;omega) (λi e=>h i (aR.mp e))];simp
theorem Q7(f g:Nat->Int)(n:Nat):((aE n).map λi=>f i+g i).sum=((aE n).map f).sum+((aE n).map g).sum:=by
 induction n with
 | zero=>rfl
 | succ n ih=>rw[Z9,Z9,Z9,ih];omega
theorem Fv(f:Nat->Nat->Int)(n m:Nat):((aE n).map λi=>((aE m).map λj=>f i j).sum).sum=((aE m).map λj=>((aE n).map λi=>f i j).sum).sum:=by
 induction n with
 | zero=>
  have:((aE m).map λj=>((aE 0).map λi=>f i j).sum).sum=0:=by have:=Ii 0 m;simpa using this
  rw[this];rfl
 | succ n ih=>
  rw[Z9,ih,<-Q7];apply Yi;intro j _;rw[Z9]
theorem IW{W:List (List Int)}{S U T:List Int}{h:Nat}(e:∀i,i<W.length->Zn T i=Zn S i+Zn U i)(b:h<W.length):Wd W T h=Wd W S h+Wd W U h:=by unfold Wd;rw[<-Q7];apply Yi;intro i a;rw[e i a,e h b,<-fS];congr 1;omega
theorem JB{W:List (List Int)}{D S U T:List Int}(b:D.length=W.length)(e:∀i,i<W.length->Zn T i=Zn S i+Zn U i):ZG W (ZG W D S) U=ZG W D T:=WI (by simp[Yd]) λi a=>by rw[Yd,Yd] at a;rw[Wt (by rw[Yd];exact a),Wt a,Wt a,IW e (by omega)];omega
theorem IX{W:List (List Int)}{S T:List Int}{h:Nat}(c:Int)(e:∀i,i<W.length->Zn T i=Zn S i+c)(b:h<W.length):Wd W T h=Wd W S h:=by unfold Wd;apply Yi;intro i a;rw[e i a,e h b];congr 1;omega
theorem Fw{W:List (List Int)}(ok:ZQ W)(S:List Int):((aE W.length).map λh=>Wd W S h).sum=0:=by
 have a:((aE W.length).map λh=>Wd W S h).sum=((aE W.length).map λi=>((aE W.length).map λj=>ent W i j*Zn S j).sum).sum-((aE W.length).map λi=>((aE W.length).map λj=>ent W i j*Zn S i).sum).sum:=by rw[<-Je];apply Yi;intro i _;rw[<-Je];apply Yi;intro j _;rw[eD]
 have d:((aE W.length).map λi=>((aE W.length).map λj=>ent W i j*Zn S i).sum).sum=((aE W.length).map λi=>((aE W.length).map λj=>ent W i j*Zn S j).sum).sum:=by rw[Fv];apply Yi;intro i c;apply Yi;intro j b;rw[ok.sym j i b c]
 rw[a,d];omega
theorem JC{W:List (List Int)}{D S:List Int}(ok:ZQ W)(a:D.length=W.length):(ZG W D S).sum=D.sum:=by unfold ZG;rw[Q7,OP,a,Fw ok,f9]
theorem nth_set{l:List Int}{h i:Nat}{v:Int}(a:i<l.length):Zn (l.set h v) i=if i=h then v else Zn l i:=by
 unfold Zn;rw[aG,aG,au];by_cases e:h=i
 ·subst e;rw[kr rfl,kr rfl,kr a];rfl
 ·rw[ku e,ku (aw e)]
theorem JD{n i:Nat}(c:Int)(a:i<n):Zn (aX n c) i=c:=by unfold Zn;rw[aG,ba,kr a];rfl
theorem Kv(l:List Int)(k:Nat):Wm (iL l) none (aA (k:Int))=iL (l.take k):=by
 unfold Wm;rw[HT.sIx_none,HT.sIx_nat,aO,gj,iV,<-jS];congr 1;by_cases h:k<=l.length
 ·rw[dJ h]
 ·rw[iI (by omega),b0 (aJ _),b0 (by omega)]
theorem Kw(l:List Int)(k:Nat):Wm (iL l) (aA (k:Int)) none=iL (l.drop k):=by
 unfold Wm;rw[HT.sIx_none,HT.sIx_nat,aO,<-jT];congr 1;by_cases h:k<=l.length
 ·rw[dJ h,b0 (by simp)]
 ·rw[iI (by omega),fY (aJ _),fY (by omega)];simp
theorem NQ{l:List Int}{i:Nat}(h:i<l.length):Zn l i∈l:=by unfold Zn;rw[aG,aI h];exact dB h
theorem NR{l:List Int}{x:Int}(h:x∈l):∃i,i<l.length/\Zn l i=x:=by obtain⟨i,a,e⟩:=fH h;refine⟨i,a,?_⟩;unfold Zn;rw[aG,aI a,e];rfl
theorem IY{l l':List Int}(c:Int)(o:l'.length=l.length)(h:0<l.length)(e:∀i,i<l.length->Zn l' i=Zn l i+c):XZ l'=XZ l+c:=by
 obtain⟨a,b⟩:=Sg (l:=l) (dt.mp h);obtain⟨i,k,g⟩:=NR a;refine Jt ?_ λx f=>?_
 ·have:=NQ (l:=l') (i:=i) (by omega);rw[e i k,g] at this;exact this
 ·obtain⟨j,n,d⟩:=NR f;have m:=b _ (NQ (l:=l) (i:=j) (by omega));rw[e j (by omega)] at d;omega
noncomputable def ZW(l:List Int):List Int:=(aE l.length).map λi=>Zn l i-XZ l
theorem Ym(l:List Int):(ZW l).length=l.length:=by simp[ZW]
theorem Wu{l:List Int}{i:Nat}(h:i<l.length):Zn (ZW l) i=Zn l i-XZ l:=Ya h
theorem Rl{l l':List Int}(c:Int)(b:l'.length=l.length)(d:0<l.length)(e:∀i,i<l.length->Zn l' i=Zn l i+c):ZW l'=ZW l:=WI (by rw[Ym,Ym,b]) λi a=>by rw[Ym] at a;rw[Wu a,Wu (by omega),IY c b d e,e i (by omega)];omega
theorem IZ{W:List (List Int)}{D S T:List Int}(c:Int)(b:D.length=W.length)(e:∀i,i<W.length->Zn T i=Zn S i+c):ZG W D T=ZG W D S:=WI (by simp[Yd]) λi a=>by rw[Yd] at a;rw[Wt a,Wt a,IX c e (by omega)]
end PW
namespace PW
noncomputable def sN:Nat->(Nat->Int)->Int
 | 0,_=>0
 | n+1,f=>sN n f+f n
theorem Zh{f g:Nat->Int}:∀{n:Nat},(∀i,i<n->f i=g i)->sN n f=sN n g
 | 0,_=>rfl
 | n+1,h=>by show sN n f+f n=sN n g+g n;rw[Zh λi a=>h i (by omega),h n (by omega)]
theorem Xc{f:Nat->Int}{n:Nat}(h:∀i,i<n->f i=0):sN n f=0:=by
 rw[Zh h];clear h
 induction n with
 | zero=>rfl
 | succ n ih=>show sN n _+0=0;rw[ih];rfl
theorem Z3(f g:Nat->Int):∀n,sN n (λi=>f i+g i)=sN n f+sN n g
 | 0=>rfl
 | n+1=>by show sN n _+(f n+g n)=(sN n f+f n)+(sN n g+g n);rw[Z3 f g n];omega
theorem ZA(c:Int)(f:Nat->Int):∀n,sN n (λi=>c*f i)=c*sN n f
 | 0=>by show(0:Int)=c*0;simp
 | n+1=>by show sN n _+c*f n=c*(sN n f+f n);rw[ZA c f n,fS]
theorem TM(f:Nat->Nat->Int)(m:Nat):∀n,sN n (λi=>sN m (f i))=sN m (λj=>sN n λi=>f i j)
 | 0=>by show(0:Int)=sN m λ_=>0;rw[Xc (λ_ _=>rfl)]
 | n+1=>by show sN n (λi=>sN m (f i))+sN m (f n)=sN m (λj=>(sN n λi=>f i j)+f n j);rw[Z3,TM f m n]
theorem Z4{f:Nat->Int}{k:Nat}:∀{n:Nat},k<n->(∀i,i<n->i≠k->f i=0)->sN n f=f k
 | 0,h,_=>by omega
 | n+1,h,z=>by
  show sN n f+f n=f k;by_cases q:k=n
  ·subst q;rw[Xc λi a=>z i (by omega) (by omega)];omega
  ·rw[Z4 (n:=n) (by omega) λi a=>z i (by omega),z n (by omega) (by omega)];omega
theorem Fx{f:Nat->Int}{k:Nat}:∀{n:Nat},k+1<n->(∀i,i<n->i≠k->i≠k+1->f i=0)->sN n f=f k+f (k+1)
 | 0,h,_=>by omega
 | n+1,h,z=>by
  show sN n f+f n=_;by_cases q:k+1=n
  ·subst q;rw[Z4 (k:=k) (by omega) λi b a=>z i (by omega) a (by omega)]
  ·rw[Fx (n:=n) (by omega) λi b=>z i (by omega),z n (by omega) (by omega) (by omega)];omega
theorem Xd(f:Nat->Int)(n:Nat):((aE n).map f).sum=sN n f:=by
 induction n with
 | zero=>rfl
 | succ n ih=>rw[gU,eO,kG,ih];simp[sN]
abbrev Mt:=Nat->Nat->Int
noncomputable def VR(i:Nat)(A:Mt):Mt:=λr c=>A (if r<i then r else r+1) (c+1)
noncomputable def sg:Nat->Int
 | 0=>1
 | n+1=>- sg n
noncomputable def Yf:Nat->Mt->Int
 | 0,_=>1
 | n+1,A=>sN (n+1) λi=>sg i*A i 0*Yf n (VR i A)
theorem Yq(n:Nat)(A:Mt):Yf (n+1) A=sN (n+1) λi=>sg i*A i 0*Yf n (VR i A):=rfl
theorem ZU:∀{n:Nat}{A B:Mt},(∀r c,r<n->c<n->A r c=B r c)->Yf n A=Yf n B
 | 0,_,_,_=>rfl
 | n+1,A,B,h=>by rw[Yq,Yq];refine Zh λi a=>?_;rw[h i 0 a (by omega),ZU (n:=n) (A:=VR i A) (B:=VR i B) λr c b d=>?_];unfold VR;exact h _ _ (by split<;>omega) (by omega)
theorem NS:∀{n:Nat}{A B C:Mt}{k:Nat}{x y:Int},k<n->(∀r c,r<n->c<n->r≠k->A r c=C r c/\B r c=C r c)->(∀c,c<n->C k c=x*A k c+y*B k c)->Yf n C=x*Yf n A+y*Yf n B
 | 0,_,_,_,k,_,_,h,_,_=>by omega
 | n+1,A,B,C,k,x,y,hk,h1,h2=>by
  rw[Yq,Yq,Yq,<-ZA,<-ZA,<-Z3];refine Zh λi j=>?_;by_cases q:i=k
  ·subst q;have f:Yf n (VR i A)=Yf n (VR i C):=ZU λr c d a=>by unfold VR;exact(h1 _ _ (by split<;>omega) (by omega) (by split<;>omega)).1
   have m:Yf n (VR i B)=Yf n (VR i C):=ZU λr c d a=>by unfold VR;exact(h1 _ _ (by split<;>omega) (by omega) (by split<;>omega)).2
   rw[f,m,h2 0 (by omega),fS,iu];simp only[bZ,cG]
  ·obtain⟨g,l⟩:=h1 i 0 j (by omega) q
   have e:Yf n (VR i C)=x*Yf n (VR i A)+y*Yf n (VR i B):=NS (k:=if k<i then k else k-1) (by split<;>omega) (λr c d a b=>by
    unfold VR
    exact h1 _ _ (by split<;>omega) (by omega) (by split at b<;>split<;>omega)) (λc a=>by
    have e:(if(if k<i then k else k-1)<i then(if k<i then k else k-1) else(if k<i then k else k-1)+1)=k:=by split<;>(try split)<;>omega
    unfold VR;rw[e];exact h2 (c+1) (by omega))
   rw[g,l,e,fS];simp only[bZ,cG]
theorem RX:∀{n:Nat}{A:Mt}{k:Nat},k+1<n->(∀c,c<n->A k c=A (k+1) c)->Yf n A=0
 | 0,_,k,h,_=>by omega
 | n+1,A,k,hk,he=>by
  rw[Yq,Fx hk]
  ·have e:Yf n (VR k A)=Yf n (VR (k+1) A):=ZU λr c g a=>by
    unfold VR;by_cases q:r<k
    ·rw[kr q,kr (by omega)]
    ·rw[ku q];by_cases d:r=k
     ·subst d;rw[kr (by omega)];exact(he (c+1) (by omega)).symm
     ·rw[ku (by omega)]
   rw[e,he 0 (by omega)];show sg k*_*_ + - sg k*_*_=0;rw[bR,bR];omega
  ·intro i l j m;rw[RX (n:=n) (A:=VR i A) (k:=if k+1<i then k else k-1) (by split<;>omega) λc a=>?_,b5];have b:(if(if k+1<i then k else k-1)<i then(if k+1<i then k else k-1) else(if k+1<i then k else k-1)+1)=k:=by split<;>(try split)<;>omega
   have f:(if(if k+1<i then k else k-1)+1<i then(if k+1<i then k else k-1)+1 else(if k+1<i then k else k-1)+1+1)=k+1:=by split<;>(try split)<;>omega
   unfold VR;rw[b,f];exact he (c+1) (by omega)
noncomputable def YZ(k:Nat)(v:Nat->Int)(A:Mt):Mt:=λr=>if r=k then v else A r
theorem Z5(k:Nat)(v:Nat->Int)(A:Mt):YZ k v A k=v:=by unfold YZ;rw[kr rfl]
theorem Y2{k r:Nat}(v:Nat->Int)(A:Mt)(h:r≠k):YZ k v A r=A r:=by unfold YZ;rw[ku h]
theorem VD{n k:Nat}{A:Mt}{u v:Nat->Int}{x y:Int}(a:k<n):Yf n (YZ k (λc=>x*u c+y*v c) A)=x*Yf n (YZ k u A)+y*Yf n (YZ k v A):=
 NS a (λr c _ _ h=>by rw[Y2 _ _ h,Y2 _ _ h,Y2 _ _ h];exact⟨rfl,rfl⟩) (λc _=>by rw[Z5,Z5,Z5])
noncomputable def swp(k:Nat)(A:Mt):Mt:=YZ k (A (k+1)) (YZ (k+1) (A k) A)
theorem Dy{n k:Nat}{A:Mt}(d:k+1<n):Yf n (swp k A) = - Yf n A:=by
 have two:∀u v:Nat->Int,Yf n (YZ k (λc=>1*u c+1*v c) (YZ (k+1) (λc=>1*u c+1*v c) A))=0:=λu v=>RX d λc _=>by rw[Z5,Y2 _ _ (by omega),Z5]
 have same:∀u:Nat->Int,Yf n (YZ k u (YZ (k+1) u A))=0:=λu=>RX d λc _=>by rw[Z5,Y2 _ _ (by omega),Z5]
 have a:∀u v:Nat->Int,YZ k u (YZ (k+1) v A)=YZ (k+1) v (YZ k u A):=λu v=>by
  funext r;unfold YZ;by_cases q:r=k
  ·rw[kr q,ku (by omega),kr q]
  ·rw[ku q];by_cases b:r=k+1
   ·rw[kr b,kr b]
   ·rw[ku b,ku b,ku q]
 have h:=two (A k) (A (k+1));rw[VD (by omega),a,VD d,a,VD d,<-a,<-a,<-a,<-a,same,same] at h
 have e:YZ k (A k) (YZ (k+1) (A (k+1)) A)=A:=by
  funext r;unfold YZ;by_cases q:r=k
  ·rw[kr q,q]
  ·rw[ku q];by_cases b:r=k+1
   ·rw[kr b,b]
   ·rw[ku b]
 rw[e] at h;unfold swp;omega
theorem Ui:∀(d:Nat){n i:Nat}{A:Mt},i+1+d<n->(∀c,c<n->A i c=A (i+1+d) c)->Yf n A=0
 | 0,n,i,A,h,e=>RX h e
 | d+1,n,i,A,h,e=>by
  have a:Yf n (swp (i+1+d) A)=0:=Ui d (n:=n) (i:=i) (by omega) λc b=>by unfold swp;rw[Y2 _ _ (by omega),Y2 _ _ (by omega),Z5];exact e c b
  rw[Dy (by omega)] at a;omega
theorem Uj{n i j:Nat}{A:Mt}(f:i<n)(d:j<n)(a:i≠j)(e:∀c,c<n->A i c=A j c):Yf n A=0:=by
 rcases Nat.lt_or_gt_of_ne a with h | h
 ·exact Ui (j-i-1) (i:=i) (by omega) λc b=>by rw[show i+1+(j-i-1)=j by omega];exact e c b
 ·exact Ui (i-j-1) (i:=j) (by omega) λc b=>by rw[show j+1+(i-j-1)=i by omega];exact(e c b).symm
theorem MS:∀{n:Nat}{A:Mt},(∀c,c<n->A n c=0)->Yf (n+1) A=A n n*Yf n A
 | 0,A,_=>by show 0+1*A 0 0*1=A 0 0*1;omega
 | n+1,A,h=>by
  rw[Yq (n+1)];show sN (n+1) _+sg (n+1)*A (n+1) 0*_=_;rw[h 0 (by omega),b5,bp,f9,Yq n,<-ZA];refine Zh λi b=>?_;rw[MS (n:=n) (A:=VR i A) λc a=>?_]
  ·have e:VR i A n n=A (n+1) (n+1):=by unfold VR;rw[ku (by omega)]
   rw[e];simp only[bZ,cG]
  ·unfold VR;rw[ku (by omega)];exact h (c+1) (by omega)
theorem Q8{n j:Nat}{A:Mt}{a:Nat->Int}{v:Nat->Nat->Int}(b:j<n):∀m,Yf n (YZ j (λc=>sN m λk=>a k*v k c) A)=sN m λk=>a k*Yf n (YZ j (v k) A)
 | 0=>by have:Yf n (YZ j (λc=>0*(0:Int)+0*(0:Int)) A)=0*Yf n (YZ j (λ_=>0) A)+0*Yf n (YZ j (λ_=>0) A):=VD (u:=λ_=>0) (v:=λ_=>0) b;simp only[bp,f9] at this;exact this
 | m+1=>by have:=VD (n:=n) (A:=A) (u:=λc=>sN m λk=>a k*v k c) (v:=v m) (x:=1) (y:=a m) b;simp only[cw] at this;show Yf n (YZ j (λc=>(sN m λk=>a k*v k c)+a m*v m c) A)=_;rw[this,Q8 b m];rfl
theorem Dz{n j:Nat}{A:Mt}{a:Nat->Int}(d:j<n):Yf n (YZ j (λc=>sN n λk=>a k*A k c) A)=a j*Yf n A:=by
 rw[Q8 d n,Z4 d]
 ·have:YZ j (A j) A=A:=by funext r;unfold YZ;split<;>simp_all
  rw[this]
 ·intro i e b;rw[Uj e d b λc _=>by rw[Y2 _ _ b,Z5],b5]
noncomputable def NT(n:Nat)(A:Mt)(i j:Nat):Int:=Yf n (YZ j (λc=>if c=i then 1 else 0) A)
theorem JE{n:Nat}{A:Mt}{j:Nat}(d:j<n)(v:Nat->Int):sN n (λi=>v i*NT n A i j)=Yf n (YZ j v A):=by
 unfold NT;rw[<-Q8 d n];refine ZU λr c e b=>?_;unfold YZ;split
 ·show sN n (λk=>v k*if c=k then 1 else 0)=v c;rw[Z4 b]
  ·simp
  ·intro i f a;rw[ku (λz=>a z.symm),b5]
 ·rfl
theorem NU{n:Nat}{A:Mt}{k j:Nat}(b:k<n)(a:j<n):sN n (λi=>A k i*NT n A i j)=if k=j then Yf n A else 0:=by
 rw[JE a];split
 ·rename_i h;subst h;have:YZ k (A k) A=A:=by funext r;unfold YZ;split<;>simp_all
  rw[this]
 ·rename_i h;exact Uj b a h λc _=>by rw[Y2 _ _ h,Z5]
theorem MT(k:Nat)(A:Mt):YZ k (A k) A=A:=by funext r;unfold YZ;split<;>simp_all
theorem TN{n k:Nat}{A:Mt}(a:k<n)(h:∀c,c<n->A k c=0):Yf n A=0:=by
 have:=VD (n:=n) (A:=A) (u:=A k) (v:=A k) (x:=0) (y:=0) a;rw[ZU (B:=A) (n:=n) λr c d b=>?_] at this
 ·simpa using this
 ·unfold YZ;split
  ·rename_i q;subst q;rw[h c b];simp
  ·rfl
theorem Ha{n k j:Nat}{A:Mt}{u:Nat->Int}(b:k<n)(d:j<n)(a:j≠k)(h:∀c,c<n->u c=A j c):Yf n (YZ k u A)=0:=
 Uj b d (aw a) λc e=>by rw[Z5,Y2 _ _ a];exact h c e
theorem Q9{n q:Nat}{A B:Mt}{k:Nat->Int}(l:q<n)(f:∀c,c<n->B q c=A q c)(h:∀r c,r<n->c<n->r≠q->B r c=A r c+k r*A q c):Yf n B=Yf n A:=by
 have m:∀t,t<=n->Yf n (λr=>if r<t then B r else A r)=Yf n A:=by
  intro t
  induction t with
  | zero=>intro _;exact ZU λr c _ _=>by simp
  | succ t ih=>
   intro o;rw[<-ih (by omega)];by_cases e:t=q
   ·subst e;refine ZU λr c b a=>?_;by_cases z:r<t
    ·rw[kr (by omega),kr z]
    ·by_cases d:r=t
     ·subst d;rw[kr (by omega),ku (by omega)];exact f c a
     ·rw[ku (by omega),ku z]
   ·have g:Yf n (λr=>if r<t+1 then B r else A r)=Yf n (YZ t (λc=>(1:Int)*A t c+k t*A q c) (λr=>if r<t then B r else A r)):=by
     refine ZU λr c b a=>?_;unfold YZ;by_cases d:r=t
     ·subst d;rw[kr rfl];rw[kr (by omega),h r c b a e,cw]
     ·rw[ku d];show(if r<t+1 then B r else A r) c=(if r<t then B r else A r) c;by_cases z:r<t
      ·rw[kr (by omega),kr z]
      ·rw[ku (by omega),ku z]
    rw[g,VD (by omega)];have i:YZ t (A t) (λr=>if r<t then B r else A r)=λr=>if r<t then B r else A r:=by have:=MT t (λr=>if r<t then B r else A r);simp only[cD,if_false] at this;exact this
    rw[i,Ha (j:=q) (by omega) l (aw e) (λc a=>by
     split
     ·rw[f c a]
     ·rfl)]
    omega
 rw[<-m n (aJ n)];exact ZU λr c b _=>by rw[kr b]
abbrev Zcg:=Nat×Nat
noncomputable def ind(a b:Nat):Int:=if a=b then 1 else 0
noncomputable def dl(e:Zcg)(y:Nat):Int:=ind e.1 y-ind e.2 y
open L2 VL
theorem MU{f g:XS}{s:ZH}{v:PV}(a:f s=aA (.rt v)):Zp f g s=aA (.rt v):=by rw[Mx,a];rfl
noncomputable def Yn(ns:List Int)(k:Nat):Int:=if k<ns.length then Zn ns k else((k:Int)*k+3*k+1)*5003%1999
section
variable {s:ZH} {f g:XE} {a b:Int} {C:Int->Int->Prop} [∀i j,Decidable (C i j)] {op:Int->Int->Int}
theorem vC(d:f s=aA (.int a))(e:g s=aA (.int b))(c:C a b):Zi (Ij C op) f g s=aA (.int (op a b)):=by rw[Tv,d,e];simp only[aV,BU,kr c]
theorem vI(c:f s=aA (.int a))(d:g s=aA (.int b)):Zi (gI op) f g s=aA (.int (op a b)):=by rw[Tv,c,d];rfl
theorem vP(b:f s=aA (.int a)):eP f s=aA (.int a):=by rw[O6,b];rfl
theorem SU{v:PV}(a:f s=aA v):ZO f s=aA (.rt v):=by rw[GF,a];rfl
end
theorem XD{a:List Int}(h:a.length<=63){k:Nat}(c:k<=100):ZY [.cst (iL a),.int (k:Int)]=aA (.int (Yn a k)):=by
 unfold Yn;by_cases q:k<a.length
 ·simp[ZY,TC,Yz,ZN,q,Y1 q]
 ·have c1:CMul (k:Int) (k:Int):=LV (by omega) (by omega);have c2:CMul 3 (k:Int):=.inl (by omega);have c3:CMul ((k:Int)*k+3*k+1) 5003:=.inr (by omega);have b:Rh (xB (Zi Hv (Za 1) (Zc YF [Za 0]))) (ZO (eP (Zi ZM (Za 0) (Za 1)))) YG [aA (.cst (iL a)),aA (.int (k:Int))]=aA (.nx [aA (.cst (iL a)),aA (.int (k:Int))]):=by simp[q]
  show Yz 2 TC _=_;unfold TC;show(Zp _ _ [aA (.cst (iL a)),aA (.int (k:Int))]).bind V3=_;rw[Yr b,ku q,SU (vP (vC (vC (vI (vI (vC rfl rfl c1) (vC rfl rfl c2)) rfl) rfl c3) rfl (by decide)))];rfl
theorem MV{a:List Int}(b:∀n∈a,n.natAbs.log2<=1048576)(k:Nat):(Yn a k).natAbs.log2<=1048576:=by
 unfold Yn;split
 ·exact b _ (NQ (by assumption))
 ·generalize ((k:Int)*k+3*k+1)*5003=z;have c:=cx z (show(1999:Int)≠0 by decide);have d:=cJ z (show(0:Int)<1999 by decide)
  have:(z%1999).natAbs.log2<=1048576:=by
   by_cases h:(z%1999).natAbs=0
   ·rw[h];decide +kernel
   ·have:=(jC (k:=11) h).mpr (by omega);omega
  exact this
theorem Xq(c:Int){t m:Nat}(G:t<=100)(A:0<m):∃v:Nat,v<m/\Zz [.int c,.int (t:Int),.int (m:Int)]=aA (.int (v:Int)):=by
 have p:(0:Int)<(m:Int):=by omega
 have a:∀x:Int,∃v:Nat,v<m/\x%(m:Int)=(v:Int):=λx=>by have w:=cx x (show(m:Int)≠0 by omega);have b:=cJ x p;exact⟨(x%(m:Int)).toNat,by omega,by omega⟩
 have B:Zq 3 (eP (Zi LA (Za 0) (eC (.int 2)))) [aA (.int c),aA (.int (t:Int)),aA (.int (m:Int)),none,none]=aA (.nx [aA (.int c),aA (.int (t:Int)),aA (.int (m:Int)),aA (.int (c/2)),none]):=by simp[Lo]
 show ∃v:Nat,v<m/\Yz 5 QL _=_;unfold QL;show ∃v:Nat,v<m/\(Zp _ _ [aA (.int c),aA (.int (t:Int)),aA (.int (m:Int)),none,none]).bind V3=_;rw[Yr B];by_cases q:c%2=1/\1000000000<c
 ·obtain⟨H,b,x,y,e⟩:=Wn (T:=.one 4) (fb:=Zq 3 (eP (Zi LA (Za 3) (eC (.int 1000))))) (ls:=Tr t) (s:=[aA (.int c),aA (.int (t:Int)),aA (.int (m:Int)),aA (.int (c/2)),none])
   (λi st=>∃x y,st=[aA (.int c),aA (.int (t:Int)),aA (.int (m:Int)),aA (.int x),y]) ⟨_,_,rfl⟩ (by
    rintro i l st D ⟨x,y,rfl⟩;obtain⟨J,rfl⟩:=V5 D;refine⟨_,_,rfl,?_,x/1000,aA (.int (i:Int)),rfl⟩;simp[Lo])
  subst e;obtain⟨v,g,j⟩:=a x;refine⟨v,g,?_⟩;have C:ZT [Za 1] [aA (.int c),aA (.int (t:Int)),aA (.int (m:Int)),aA (.int (c/2)),none]=aA (Tr t):=Z6 (by simp) (by omega);have E:Xn [] (ZT [Za 1]) (.one 4) (Zq 3 (eP (Zi LA (Za 3) (eC (.int 1000))))) [aA (.int c),aA (.int (t:Int)),aA (.int (m:Int)),aA (.int (c/2)),none]=aA (.nx [aA (.int c),aA (.int (t:Int)),aA (.int (m:Int)),aA (.int x),y]):=by show(ZT [Za 1] [aA (.int c),aA (.int (t:Int)),aA (.int (m:Int)),aA (.int (c/2)),none]).bind _=_;rw[C];exact b
  rw[MU (v:=.int (v:Int))]
  ·rfl
  ·rw[Yv];have:(Qm (xB (Zi (Wg aB) (Zi Xt (Za 0) (eC (.int 2))) (eC (.int 1)))) (xB (Zi Li (Za 0) (Zi Py (eC (.int 10)) (eC (.int 9)))))) [aA (.int c),aA (.int (t:Int)),aA (.int (m:Int)),aA (.int (c/2)),none]=aA aC:=by simp[q.1,N8,q.2]
   rw[this];simp only[aV,if_true];rw[Yr E];simp[A,j]
 ·have:(Qm (xB (Zi (Wg aB) (Zi Xt (Za 0) (eC (.int 2))) (eC (.int 1)))) (xB (Zi Li (Za 0) (Zi Py (eC (.int 10)) (eC (.int 9)))))) [aA (.int c),aA (.int (t:Int)),aA (.int (m:Int)),aA (.int (c/2)),none]=aA aB:=by
   by_cases f:c%2=1
   ·have:¬1000000000<c:=λz=>q ⟨f,z⟩;simp[f,N8,this]
   ·simp[f]
  rw[Yr (s1:=[aA (.int c),aA (.int (t:Int)),aA (.int (m:Int)),aA (.int (c/2)),none]) (by rw[Yv,this];rfl)];generalize d:c/2%999979+1009*(t:Int)=x1;have F:0<=x1/\x1<2000000:=by have w:=cx (c/2) (show(999979:Int)≠0 by decide);have b:=cJ (c/2) (show(0:Int)<999979 by decide);omega
  generalize u:(x1*x1+40503*x1)%999983=x2;have I:0<=x2/\x2<2000000:=by have w:=cx (x1*x1+40503*x1) (show(999983:Int)≠0 by decide);have b:=cJ (x1*x1+40503*x1) (show(0:Int)<999983 by decide);omega
  have h:CMul 1009 (t:Int):=.inl (by omega);have n:CMul x1 x1:=.inl (by omega);have o:CMul 40503 x1:=.inl (by omega);have k:CMul x2 x2:=.inl (by omega);have r:CMul 7 (t:Int):=.inl (by omega);obtain⟨v,g,j⟩:=a ((x2*x2+7*(t:Int))%999961/11);refine⟨v,g,?_⟩;rw[Yr (s1:=[aA (.int c),aA (.int (t:Int)),aA (.int (m:Int)),aA (.int x1),none]) (by simp[h,d]),Yr (s1:=[aA (.int c),aA (.int (t:Int)),aA (.int (m:Int)),aA (.int x2),none]) (by simp[n,o,u])];simp[k,r,Lo,A,j]
noncomputable def Pa(M:List (List Int))(a b:Nat)(t:Int):List (List Int):=T6 (T6 M a b t) b a t
theorem RY{n:Nat}{M:List (List Int)}{a b:Nat}{t:Int}(ok:MatOk n M)(c:a<n)(d:b<n)(i j:Nat):ent (Pa M a b t) i j=if b=i/\a=j then t else if a=i/\b=j then t else ent M i j:=by obtain⟨e,f⟩:=Vk ok.len ok.row c;unfold Pa;rw[Mk e f d c,Mk ok.len ok.row c d]
theorem Fy{n:Nat}{M:List (List Int)}{a b:Nat}{t:Int}(ok:MatOk n M)(f:a<n)(g:b<n)(e:a≠b)(q:0<=t)(o:t<=9):MatOk n (Pa M a b t):=by
 obtain⟨k,h⟩:=Vk ok.len ok.row f;obtain⟨m,l⟩:=Vk k h g;have E:=RY (t:=t) ok f g;refine⟨m,l,λi j c d=>?_,λi j c d=>?_,λi j c d=>?_,λi c=>?_⟩
 ·have:=ok.lo i j c d;rw[E];split<;>(try split)<;>omega
 ·have:=ok.hi i j c d;rw[E];split<;>(try split)<;>omega
 ·have:=ok.sym i j c d;rw[E,E];by_cases p:b=i/\a=j
  ·rw[kr p];by_cases p2:b=j/\a=i
   ·rw[kr p2]
   ·rw[ku p2,kr ⟨p.2,p.1⟩]
  ·rw[ku p];by_cases p2:a=i/\b=j
   ·rw[kr p2,kr ⟨p2.2,p2.1⟩]
   ·rw[ku p2,ku (λz=>p2 ⟨z.2,z.1⟩),ku (λz=>p ⟨z.2,z.1⟩)];exact this
 ·rw[E,ku (λz=>e (by omega)),ku (λz=>e (by omega))];exact ok.dia i c
theorem MW{n:Nat}{M:List (List Int)}{a b:Nat}{k:Int}(ok:MatOk n M)(e:a<n)(g:b<n):Vv [.lst (rL M),.int (a:Int),.int (b:Int),.int k]=aA (.lst (rL (Pa M a b (if ent M a b+k<9 then ent M a b+k else 9)))):=by
 have f:(rL M).length=n:=by unfold rL;rw[aO];exact ok.len
 generalize p:(if ent M a b+k<9 then ent M a b+k else 9)=t;have s:S9 (rL M) (a:Int)=aA (.lst (iL (ZK M a))):=Vj (Kt (by rw[ok.len];exact e));have o:S9 (iL (ZK M a)) (b:Int)=aA (.int (ent M a b)):=Y1 (by rw[ok.row a e];exact g);have h:=Vk (t:=t) (b:=b) ok.len ok.row e;have d:(rL (T6 M a b t)).length=n:=by unfold rL;rw[aO];exact h.1
 have r:Zq 4 (eP (Zc Mq [eC (.int 9),Zi Yj (Zi ZM (Zi ZM (Za 0) (Za 1)) (Za 2)) (Za 3)])) [aA (.lst (rL M)),aA (.int (a:Int)),aA (.int (b:Int)),aA (.int k),none]=aA (.nx [aA (.lst (rL M)),aA (.int (a:Int)),aA (.int (b:Int)),aA (.int k),aA (.int t)]):=by simp[s,o,p]
 have i:Vt 0 (Za 1) (Za 2) (Za 4) [aA (.lst (rL M)),aA (.int (a:Int)),aA (.int (b:Int)),aA (.int k),aA (.int t)]=aA (.nx [aA (.lst (rL (T6 M a b t))),aA (.int (a:Int)),aA (.int (b:Int)),aA (.int k),aA (.int t)]):=by rw[QD (l:=.int t) (a:=(a:Int)) (b:=(b:Int)) (j:=a) (c:=b) (m:=rL M) (n:=iL (ZK M a)) rfl rfl rfl rfl (Ut (by rw[f];exact e)) (Kt (by rw[ok.len];exact e)) (Yc _) rfl (Ut (by rw[aO,ok.row a e];exact g)),Fs];rfl
 have q:Vt 0 (Za 2) (Za 1) (Za 4) [aA (.lst (rL (T6 M a b t))),aA (.int (a:Int)),aA (.int (b:Int)),aA (.int k),aA (.int t)]=aA (.nx [aA (.lst (rL (Pa M a b t))),aA (.int (a:Int)),aA (.int (b:Int)),aA (.int k),aA (.int t)]):=by rw[QD (l:=.int t) (a:=(b:Int)) (b:=(a:Int)) (j:=b) (c:=a) (m:=rL (T6 M a b t)) (n:=iL (ZK (T6 M a b t) b)) rfl rfl rfl rfl (Ut (by rw[d];exact g)) (Kt (by rw[h.1];exact g)) (Yc _) rfl (Ut (by rw[aO,h.2 b g];exact e)),Fs];rfl
 show Av 5 RP _=_;unfold Av;rw[kr (by rfl)];unfold RP;show(Zp _ _ [aA (.lst (rL M)),aA (.int (a:Int)),aA (.int (b:Int)),aA (.int k),none]).bind Zaj=_;rw[Yr r,Yr i,q];rfl
theorem JF{i:Nat}{D:List PV->Option PV}{fs:List XE}{s:ZH}{l0 l':PV}{ls:List PV}(a:s[i]?=aA (aA l0))(b:Qo fs s=aA ls)(c:ZL ls=aC)(d:D (l0::ls)=aA l'):MA i D fs s=aA (.nx (s.set i (aA l'))):=by unfold MA;rw[a];simp only[b,aV,c,if_true,d,dM]
theorem Hb{s:ZH}{n:Nat}(h:s[3]?=aA (aA (.int (n:Int))))(a:n<=7):Zr 1 [3] (ZT [Za 3]) (.one 0) Zy (Zi Mv (T8 [eC (.int 0)]) (Za 1)) s=aA (.lst (rL (aX n (aX n 0)))):=by
 rw[ZX (aE n) (λi=>.int (i:Int)) (λ_=>.lst (iL (aX n 0))) (Z6 (by simp[h]) (by omega)) (by simp;omega) (λi _=>⟨_,rfl,rfl,?_⟩)]
 ·unfold rL;rw[List.map_const',bu,List.map_replicate]
 ·have e:Mv (.lst [.int 0]) (.int (n:Int))=aA (.lst (iL (aX n 0))):=by show(if ZL [PV.int 0]=aC/\(-1000000:Int)<=(n:Int)/\(n:Int)<=1000000/\[PV.int 0].length*((n:Int)).toNat<=10000 then aA (PV.lst (aX ((n:Int)).toNat [PV.int 0]).flatten) else none)=_;rw[kr ⟨rfl,by omega,by omega,by simp;omega⟩];simp
  simp[ZJ,h,e]
noncomputable def Grown(M:List (List Int))(l:List Int)(k:Nat):Prop:=∀j,1<=j->j<k->∃j',j'<j/\0<ent M (Zn l j).toNat (Zn l j').toNat
theorem Grown.mono{M c:List (List Int)}{l:List Int}{k:Nat}(h:Grown M l k)(g:∀i j,0<ent M i j->0<ent c i j):Grown c l k:=λj d f=>by obtain⟨e,a,b⟩:=h j d f;exact⟨e,a,g _ _ b⟩
theorem Grown.conn{M:List (List Int)}{l:List Int}{n:Nat}(h:Grown M l n)(s:M.length=n)(d:NamesOk n l):W3 M:=by
 intro P t i j g p;rw[s] at g p;have lt:∀x,x<n->(Zn l x).toNat<M.length:=λx c=>by have:=d.at c;omega
 have all:∀k,k<n->(P (Zn l k).toNat↔P (Zn l 0).toNat):=by
  intro k
  induction k using kH with
  | ind k ih=>
   intro o;by_cases q:k=0
   ·subst q;exact Iff.rfl
   ·obtain⟨m,a,b⟩:=h k (by omega) o;exact(t _ _ (lt k o) (lt m (by omega)) b).trans (ih m a (by omega))
 have f:∀i,i<n->∃x,x<n/\(Zn l x).toNat=i:=λi g=>by have:=Zcf d.nd (λx c=>⟨x.toNat,by have:=d.hi x c;omega,by have:=d.lo x c;omega⟩) d.len g;obtain⟨x,c,e⟩:=NR this;exact⟨x,by rw[<-d.len];exact c,by rw[e];rfl⟩
 obtain⟨x,c,rfl⟩:=f i g;obtain⟨y,r,rfl⟩:=f j p;exact(all x c).trans (all y r).symm
theorem JG{n:Nat}{M:List (List Int)}{a b:Nat}{t:Int}(ok:MatOk n M)(e:a<n)(d:b<n)(c:0<t):(∀i j,0<ent M i j->0<ent (Pa M a b t) i j)/\0<ent (Pa M a b t) a b:=by
 refine⟨λi j h=>?_,?_⟩
 ·rw[RY ok e d];split
  ·exact c
  ·split
   ·exact c
   ·exact h
 ·rw[RY ok e d];split
  ·exact c
  ·rw[kr ⟨rfl,rfl⟩];exact c
noncomputable def Wv(ns:List Int)(mo n:Nat)(M:List (List Int))(sp:List Int)(x6 x7 x8 x9:Option PV):ZH:=[aA (.cst (iL ns)),aA (.int (mo:Int)),aA (.int (Yn ns 0)),aA (.int (n:Int)),aA (.lst (rL M)),aA (.lst (iL sp)),x6,x7,x8,x9]
abbrev bW1:XS:=Vs 5 (Zc Zz [Zc ZY [Za 0,Zi Yj (eC (.int 6)) (Za 6)],eC (.int 10),Zi Yj (Za 6) (eC (.int 1))]) (Za 6)
abbrev bW2:XS:=Zp (Zq 7 (Zc ZY [Za 0,Za 6]))
  (MA 4 Vv [Zi ZM (Za 5) (Za 6),Zi ZM (Za 5) (Zc Zz [Za 7,eC (.int 1),Za 6]),Zi Yj (eC (.int 1)) (Zc Zz [Za 7,eC (.int 2),eC (.int 3)])])
abbrev bW3:XS:=(Zp (Zq 7 (Zc ZY [Za 0,Zi Yj (eC (.int 7)) (Za 6)]))
  (Zp (Zq 8 (Zc Zz [Za 7,eC (.int 4),Za 3]))
  (Zp (Zq 9 (eP (Zi Xt (Zi Yj (Zi Yj (Za 8) (eC (.int 1))) (Zc Zz [Za 7,eC (.int 5),Zi XN (Za 3) (eC (.int 1))])) (Za 3))))
  (MA 4 Vv [Za 8,Za 9,Zi Yj (eC (.int 1)) (Zc Zz [Za 7,eC (.int 6),eC (.int 2)])]))))
theorem B9{a:List Int}{mo n:Nat}{M:List (List Int)}{sp:List Int}{x7 x8 x9:Option PV}{i:Nat}(b:a.length<=63)(h:i<7)(c:NamesOk i sp) :
  ∃sp',NamesOk (i+1) sp'/\bW1 (Wv a mo n M sp (aA (.int (i:Int))) x7 x8 x9)=aA (.nx (Wv a mo n M sp' (aA (.int (i:Int))) x7 x8 x9)):=by
 obtain⟨v,j,d⟩:=Xq (Yn a (6+i)) (t:=10) (m:=i+1) (by omega) (by omega);have e:=XD b (k:=6+i) (by omega);refine⟨sp.take v++(i:Int)::sp.drop v,c.ins v,?_⟩;unfold bW1;rw[QC (k:=(v:Int)) (l:=.int (i:Int)) (m:=iL sp) ?_ rfl rfl (Yc sp) rfl (by omega) (by omega) (by rw[aO,c.len];omega),eY,Ft]
 ·rfl
 ·have f:((6+i:Nat):Int)=6+(i:Int):=by omega
  have g:((i+1:Nat):Int)=(i:Int)+1:=by omega
  rw[f] at e;rw[g] at d;simp[Wv,e];exact d
noncomputable def Pb(c:Int):Int:=if c%5=4 then c*c%(2*10^29)-10^29 else if c%5=3 then c.fdiv 5%2001-1000 else c.fdiv 5%13-6
theorem UC{z:Int}(h:z.natAbs<2^1000):z.natAbs.log2<67108863:=by
 by_cases a:z.natAbs=0
 ·rw[a];decide +kernel
 ·have:=(jC a).mpr h;omega
theorem Kx{c:Int}(h:c.natAbs.log2<=1048576):Uw [.int c]=aA (.int (Pb c)):=by
 have c1:CMulW c c:=⟨by omega,by omega⟩;have c2:CMulW 2 (10^29):=⟨UC (by decide),UC (by decide)⟩;have c3:V6 c 5:=⟨by decide,by decide +kernel⟩;have p:∀s:ZH,Zi Py (eC (.int 10)) (eC (.int 29)) s=aA (.int (10^29)):=λs=>vC (a:=10) (b:=29) (C:=N8) (op:=λi j=>i^j.toNat) rfl rfl (by decide);show Yz 1 Sh _=_;unfold Sh Pb;show(Zp _ _ [aA (.int c)]).bind V3=_;by_cases d:c%5=4
 ·rw[kr d,MU (v:=.int (c*c%(2*10^29)-10^29))]
  ·rfl
  ·have t:xB (Zi (Wg aB) (Zi Xt (Za 0) (eC (.int 5))) (eC (.int 4))) [aA (.int c)]=aA aC:=by simp[d]
   rw[Yv,t];simp only[aV,if_true];exact SU (vP (vI (vC (vC rfl rfl c1) (vC rfl (p _) c2) (by decide)) (p _)))
 ·have t:xB (Zi (Wg aB) (Zi Xt (Za 0) (eC (.int 5))) (eC (.int 4))) [aA (.int c)]=aA aB:=by simp[d]
  rw[ku d,Yr (s1:=[aA (.int c)]) (by rw[Yv,t];rfl)];by_cases e:c%5=3
  ·rw[kr e,MU (v:=.int (c.fdiv 5%2001-1000))]
   ·rfl
   ·have t:xB (Zi (Wg aB) (Zi Xt (Za 0) (eC (.int 5))) (eC (.int 3))) [aA (.int c)]=aA aC:=by simp[e]
    rw[Yv,t];simp only[aV,if_true];exact SU (vP (vI (vC (vC rfl rfl c3) rfl (by decide)) rfl))
  ·have t:xB (Zi (Wg aB) (Zi Xt (Za 0) (eC (.int 5))) (eC (.int 3))) [aA (.int c)]=aA aB:=by simp[e]
   rw[ku e,Yr (s1:=[aA (.int c)]) (by rw[Yv,t];rfl),SU (vP (vI (vC (vC rfl rfl c3) rfl (by decide)) rfl))];rfl
theorem Ky(c:Int) : -(10^29)<=Pb c/\Pb c<=10^29:=by
 unfold Pb;split
 ·have b:=cx (c*c) (show(2*10^29:Int)≠0 by decide);have a:=cJ (c*c) (show(0:Int)<2*10^29 by decide);constructor<;>omega
 ·split
  ·have b:=cx (c.fdiv 5) (show(2001:Int)≠0 by decide);have a:=cJ (c.fdiv 5) (show(0:Int)<2001 by decide);constructor<;>omega
  ·have b:=cx (c.fdiv 5) (show(13:Int)≠0 by decide);have a:=cJ (c.fdiv 5) (show(0:Int)<13 by decide);constructor<;>omega
noncomputable def SV(ns:List Int)(a n:Nat):List Int:=(aE n).map λk=>Pb (Yn ns (a+k))
theorem Hd(b:List Int)(a n:Nat):(SV b a n).length=n:=by simp[SV]
theorem Kz{b:List Int}(c:b.length<=63)(g:∀n∈b,n.natAbs.log2<=1048576){a n:Nat}(l:a<=60)(h:n<=7):Vd [.cst (iL b),.int (a:Int),.int (n:Int)]=aA (pP (SV b a n)):=by
 have f:Zr 1 [0,1] (ZT [Za 2]) (.one 0) Zy (Zc Uw [Zc ZY [Za 1,Zi Yj (Za 2) (Za 0)]]) [aA (.cst (iL b)),aA (.int (a:Int)),aA (.int (n:Int))]=aA (.lst (iL (SV b a n))):=by
  rw[XC (λi=>Pb (Yn b (a+i))) (Z6 (n:=n) (by simp) (by omega)) (by omega) λi j=>⟨_,rfl,rfl,?_⟩]
  ·rfl
  ·have d:=XD c (k:=a+i) (by omega);have e:((a+i:Nat):Int)=(a:Int)+(i:Int):=by omega
   rw[e] at d;simp[ZJ,d,Kx (MV g (a+i))]
 simp[Vd,Oy,Yz,ZN,f]
noncomputable def nL(l:List Nat):List Int:=l.map λ(i:Nat)=>(i:Int)
theorem Fz{y:Nat}{l:List Nat}:(y:Int)∈nL l↔y∈l:=by unfold nL;rw[bj];exact⟨λ⟨a,h,e⟩=>by rw[show y=a by omega];exact h,λh=>⟨y,h,rfl⟩⟩
noncomputable def XG(W:List (List Int))(h:Nat)(F:List Nat):Int:=(F.map λo=>ent W h o).sum
theorem ties_comp2{W:List (List Int)}{h i j k:Nat}{F:List Nat}{s:ZH}(ok:ZQ W)(a:h<W.length)(l:∀x∈F,x<W.length)(m:F.length<=100)(d:s[i]?=aA (aA (wP W)))(f:s[j]?=aA (aA (.int (h:Int))))(b:s[k]?=aA (aA (.lst (iL (nL F))))) :
  Zc VZ [Zr 1 [i,j] (Vb (Za k)) (.one 0) Zy (Zi ZM (Zi ZM (Za 1) (Za 2)) (Za 0))] s=aA (.int (XG W h F)):=by
 have e:Zr 1 [i,j] (Vb (Za k)) (.one 0) Zy (Zi ZM (Zi ZM (Za 1) (Za 2)) (Za 0)) s=aA (.lst (iL (F.map λo=>ent W h o))):=by
  rw[ZX F (λo=>.int (o:Int)) (λo=>.int (ent W h o)) (by simp[b,nL]) (by omega) (λo g=>⟨_,rfl,rfl,?_⟩)]
  ·simp
  ·have c:=ok.sq h a;have:=Y1 (by rw[c];exact l o g);simp[ZJ,d,f,Us a,this];rfl
 simp only[YH,ZD,e];exact Qy _
theorem MX{W:List (List Int)}{h:Nat}{F:List Nat}{X:PV}(ok:ZQ W)(a:h<W.length)(e:∀x∈F,x<W.length)(f:F.length<=100)(d:B2 (Za 2) [aA (wP W),aA (.int (h:Int)),aA X]=aA (iL (nL F))):Ve [wP W,.int (h:Int),X]=aA (.int (XG W h F)):=by
 have b:Zr 1 [0,1] (B2 (Za 2)) (.one 0) Zy (Zi ZM (Zi ZM (Za 1) (Za 2)) (Za 0)) [aA (wP W),aA (.int (h:Int)),aA X]=aA (.lst (iL (F.map λo=>ent W h o))):=by
  rw[ZX F (λo=>.int (o:Int)) (λo=>.int (ent W h o)) (by rw[d];simp[nL]) (by omega) (λo c=>⟨_,rfl,rfl,?_⟩)]
  ·simp
  ·have:=Y1 (by rw[ok.sq h a];exact e o c);simp[ZJ,Us a,this];rfl
 show(ZO _ [aA (wP W),aA (.int (h:Int)),aA X]).bind V3=_
 rw[SU (vP (by
  simp only[YH,ZD,b];exact Qy _))]
 rfl
theorem KA{W:List (List Int)}{h:Nat}{F:List Nat}(ok:ZQ W)(a:h<W.length)(c:∀x∈F,x<W.length)(b:F.length<=100):Ve [wP W,.int (h:Int),.lst (iL (nL F))]=aA (.int (XG W h F)):=MX ok a c b (Zai rfl)
theorem SW{d:Type}{T:Tgt}{fb:XS}{q g:d->PV}{c:d->Bool}(S:ZH->Prop):∀{ls:List d}{s:ZH},(∀a∈ls,∀s,S s->∃s1,Xm T (q a) s=aA s1/\((c a=aC->fb s1=aA (.rt (g a)))/\(c a=aB->∃s2,fb s1=aA (.nx s2)/\S s2)))->S s->
  match ls.find? c with | some a=>VQ T fb (ls.map q) s=aA (.rt (g a)) | none=>∃s',VQ T fb (ls.map q) s=aA (.nx s')/\S s'
 | [],s,_,h0=>⟨s,rfl,h0⟩
 | a::r,s,h,h0=>by
  obtain⟨s1,f,i,j⟩:=h a aZ s h0;rw[List.find?_cons]
  cases ca:c a with
  | true=>
   show VQ T fb (q a::r.map q) s=_;unfold VQ;rw[f];simp only[aV,i ca]
  | false=>
   obtain⟨s2,n,m⟩:=j ca;have k:=SW S (ls:=r) (s:=s2) (λb l=>h b (aT _ l)) m
   have e:VQ T fb ((a::r).map q) s=VQ T fb (r.map q) s2:=by
    show VQ T fb (q a::r.map q) s=_;unfold VQ;rw[f];simp only[aV,n];cases r.map q<;>rfl
   rw[e];exact k
noncomputable def Xr(W:List (List Int))(D:List Int)(F:List Nat):Option Nat:=(aE W.length).find? λh=>!decide (h∈F)&&decide (Zn D h<XG W h F)
noncomputable def Pc:Option Nat->PV
 | none=>.non
 | some h=>.int (h:Int)
theorem KC(y:Nat)(l:List Nat):Im aC (.int (y:Int)) (.lst (iL (nL l)))=aA (.bl (!decide (y∈l))):=by rw[CB];have:=Fz (y:=y) (l:=l);simp[this]
theorem DA(y:Nat)(l:List Nat):Im aB (.int (y:Int)) (.lst (iL (nL l)))=aA (.bl (decide (y∈l))):=by rw[CB];have:=Fz (y:=y) (l:=l);simp[this]
theorem SX{W:List (List Int)}{D:List Int}{F:List Nat}(ok:ZQ W)(j:D.length=W.length)(l:∀x∈F,x<W.length)(m:F.length<=100):Z7 [wP W,pP D,.lst (iL (nL F))]=aA (Pc (Xr W D F)):=by
 have a:=SW (T:=.many [3,4]) (fb:=Rh (Qm (xB (Zi (Im aC) (Za 3) (Za 2))) (xB (Zi Hv (Za 4) (Zc Ve [Za 0,Za 3,Za 2])))) (ZO (eP (Za 3))) YG) (q:=λ(i:Nat)=>.tup [.int (i:Int),.int (Zn D i)]) (g:=λi=>.int (i:Int)) (c:=λh=>!decide (h∈F)&&decide (Zn D h<XG W h F))
  (λst=>∃x y,st=[aA (wP W),aA (pP D),aA (.lst (iL (nL F))),x,y]) (ls:=aE W.length) (s:=[aA (wP W),aA (pP D),aA (.lst (iL (nL F))),none,none]) (by
   rintro h d st ⟨x,y,rfl⟩;have d:=aR.mp d;have e:=KA ok d l m;refine⟨_,rfl,λb=>?_,λb=>?_⟩
   ·simp only[bX] at b;simp[setAll,KC,b.1,e,b.2]
   ·refine⟨[aA (wP W),aA (pP D),aA (.lst (iL (nL F))),aA (.int (h:Int)),aA (.int (Zn D h))],?_,_,_,rfl⟩;by_cases q:h∈F
    ·simp[setAll,KC,q]
    ·have:¬Zn D h<XG W h F:=λz=>by simp[q,z] at b
     simp[setAll,KC,q,e,this]) ⟨_,_,rfl⟩
 have f:Xu aB [Za 1] [aA (wP W),aA (pP D),aA (.lst (iL (nL F))),none,none]=aA ((aE W.length).map λi=>.tup [.int (i:Int),.int (Zn D i)]):=by have:=RW D;rw[j] at this;simp[this]
 show(Zp (Xn [] _ _ _) _ [aA (wP W),aA (pP D),aA (.lst (iL (nL F))),none,none]).bind V3=_;unfold Xr
 cases q:(aE W.length).find? λh=>!decide (h∈F)&&decide (Zn D h<XG W h F) with
 | some h=>
  rw[q] at a;rw[MU]
  ·rfl
  ·show(Xu aB [Za 1] [aA (wP W),aA (pP D),aA (.lst (iL (nL F))),none,none]).bind _=_;rw[f];exact a
 | none=>
  rw[q] at a;obtain⟨n,k,x,y,rfl⟩:=a;rw[Yr]
  ·rfl
  ·show(Xu aB [Za 1] [aA (wP W),aA (pP D),aA (.lst (iL (nL F))),none,none]).bind _=_;rw[f];exact k
theorem Aa{c:XT}{fb:XS}(g:ZH->Prop)(i:ZH->Nat)(step:∀st,g st->c st=aA aB\/(c st=aA aC/\∃s2,fb st=aA (.nx s2)/\g s2/\i s2<i st)){s:ZH}(n:g s) :
  ∃f,Xz c fb s=aA (.nx f)/\g f/\c f=aA aB:=by
 have gen:∀(k:Nat)(st:ZH),i st<k->g st->∃f,YC c fb k st=aA (.nx f)/\g f/\c f=aA aB:=by
  intro k
  induction k with
  | zero=>intro st h;omega
  | succ k ih=>
   intro st p m;rcases step st m with j | ⟨j,s2,e,l,o⟩
   ·exact⟨st,by unfold YC;rw[j];rfl,m,j⟩
   ·obtain⟨f,a,b,d⟩:=ih s2 (by omega) l;refine⟨f,?_,b,d⟩;unfold YC;rw[j];simp only[e];exact a
 obtain⟨f,a,b,d⟩:=gen (i s+1) s (by omega) n;exact⟨f,Og a,b,d⟩
structure Burn(W:List (List Int))(D:List Int)(b:Nat)(F:List Nat):Prop where
 nd:F.Nodup
 lt:∀x∈F,x<W.length
 hd:F[0]?=aA b
 st:∀k,1<=k->k<F.length->Xr W D (F.take k)=F[k]?
theorem Burn.len{W:List (List Int)}{D:List Int}{b:Nat}{F:List Nat}(h:Burn W D b F):F.length<=W.length:=by
 have e:(nL F).Nodup:=List.Pairwise.map _ (λa b z=>by omega) h.nd;have:=Q5 e λy d=>by obtain⟨a,c,rfl⟩:=bj.mp d;exact bj.mpr ⟨a,aR.mpr (h.lt a c),rfl⟩
 simpa [nL] using this
theorem Burn.pos{W:List (List Int)}{D:List Int}{b:Nat}{F:List Nat}(h:Burn W D b F):1<=F.length:=(aU.mp h.hd).1
theorem Burn.one{W:List (List Int)}{D:List Int}{b:Nat}(c:b<W.length):Burn W D b [b]:=⟨by simp,λx a=>by rw[ag.mp a];exact c,rfl,λk e d=>by simp at d;omega⟩
theorem Pd{W:List (List Int)}{D:List Int}{F:List Nat}{h:Nat}(e:Xr W D F=aA h):h<W.length/\h∉F/\Zn D h<XG W h F:=by have a:=kI e;have b:=gs e;simp only[bX,Bool.not_eq_true',decide_eq_false_iff_not,decide_eq_true_eq] at a;exact⟨aR.mp b,a⟩
theorem KD{W:List (List Int)}{D:List Int}{F:List Nat}(e:Xr W D F=none){h:Nat}(a:h<W.length)(b:h∉F):XG W h F<=Zn D h:=by have:=j5.mp e h (aR.mpr a);simp[b] at this;exact this
theorem Burn.add{W:List (List Int)}{D:List Int}{b h:Nat}{F:List Nat}(B:Burn W D b F)(e:Xr W D F=aA h):Burn W D b (F++[h]):=by
 obtain⟨j,f,_⟩:=Pd e;have n:=B.pos;refine⟨?_,λx d=>?_,?_,λk g i=>?_⟩
 ·rw[eZ];exact⟨B.nd,by simp,λa l c m z=>by rw[ag.mp m] at z;exact f (z▸l)⟩
 ·rcases bg.mp d with d | d
  ·exact B.lt x d
  ·rw[ag.mp d];exact j
 ·rw[ah (by omega)];exact B.hd
 ·rw[az,gD] at i;by_cases q:k<F.length
  ·rw[List.take_append_of_le_length (by omega),ah q];exact B.st k g q
  ·have:k=F.length:=by omega
   subst this;rw[kJ,e]
   ·simp
   ·rfl
theorem FA{W:List (List Int)}{D:List Int}{b:Nat}(ok:ZQ W)(k:D.length=W.length)(i:b<W.length):∃F,RQ [wP W,pP D,.int (b:Int)]=aA (.lst (iL (nL F)))/\Burn W D b F/\Xr W D F=none:=by
 have p:=ok.few;have f:∀F:List Nat,Burn W D b F->Z7 [wP W,pP D,.lst (iL (nL F))]=aA (Pc (Xr W D F)):=λF B=>SX ok k B.lt (by have:=B.len;omega)
 obtain⟨o,j,⟨F,rfl,B⟩,g⟩:=Aa (c:=xB (Rx aC (Za 4))) (fb:=Zp (WE 3 (eP (Za 4))) (Zq 4 (Zc Z7 [Za 0,Za 1,Za 3])))
  (λst=>∃F,st=[aA (wP W),aA (pP D),aA (.int (b:Int)),aA (.lst (iL (nL F))),aA (Pc (Xr W D F))]/\Burn W D b F)
  (λst=>match st[3]? with | some (aA (PV.lst l))=>8-l.length | _=>0) (by
   rintro st ⟨F,rfl,B⟩
   cases e:Xr W D F with
   | none=>exact .inl rfl
   | some h=>
    have B':=B.add e;have m:=B'.len;rw[az] at m;refine .inr ⟨by simp[Gh,Pc],[aA (wP W),aA (pP D),aA (.int (b:Int)),aA (.lst (iL (nL (F++[h])))),aA (Pc (Xr W D (F++[h])))],?_,⟨F++[h],rfl,B'⟩,?_⟩
    ·have a:WE 3 (eP (Za 4)) [aA (wP W),aA (pP D),aA (.int (b:Int)),aA (.lst (iL (nL F))),aA (Pc (aA h))]=aA (.nx [aA (wP W),aA (pP D),aA (.int (b:Int)),aA (.lst (iL (nL (F++[h])))),aA (Pc (aA h))]):=by rw[QB (l:=.int (h:Int)) rfl rfl (by simp[nL];omega)];simp[nL]
     have d:Zq 4 (Zc Z7 [Za 0,Za 1,Za 3]) [aA (wP W),aA (pP D),aA (.int (b:Int)),aA (.lst (iL (nL (F++[h])))),aA (Pc (aA h))]=aA (.nx [aA (wP W),aA (pP D),aA (.int (b:Int)),aA (.lst (iL (nL (F++[h])))),aA (Pc (Xr W D (F++[h])))]):=by have:=f _ B';simp[this]
     rw[Yr a,d]
    ·show 8-(iL (nL (F++[h]))).length<8-(iL (nL F)).length;simp[nL];omega) ⟨[b],rfl,Burn.one i⟩
 have n:Xr W D F=none:=by
  cases e:Xr W D F with
  | none=>rfl
  | some h=>rw[e] at g;simp[Gh,Pc] at g
 refine⟨F,?_,B,n⟩;have a:Zq 3 (T8 [eP (Za 2)]) [aA (wP W),aA (pP D),aA (.int (b:Int)),none,none]=aA (.nx [aA (wP W),aA (pP D),aA (.int (b:Int)),aA (.lst (iL (nL [b]))),none]):=by simp[nL]
 have d:Zq 4 (Zc Z7 [Za 0,Za 1,Za 3]) [aA (wP W),aA (pP D),aA (.int (b:Int)),aA (.lst (iL (nL [b]))),none]=aA (.nx [aA (wP W),aA (pP D),aA (.int (b:Int)),aA (.lst (iL (nL [b]))),aA (Pc (Xr W D [b]))]):=by have:=f _ (Burn.one i);simp[this]
 show(Zp _ _ [aA (wP W),aA (pP D),aA (.int (b:Int)),none,none]).bind V3=_;rw[Yr a,Yr d,Yr j];rfl
theorem Burn.uniq{W:List (List Int)}{D:List Int}{b:Nat}{F G:List Nat}(c:Burn W D b F)(d:Burn W D b G)(f:Xr W D F=none)(g:Xr W D G=none):F=G:=by
 have l:=c.pos;have i:=d.pos
 have pre:∀k,k<=F.length->k<=G.length->F.take k=G.take k:=by
  intro k
  induction k with
  | zero=>intros;simp
  | succ k ih=>
   intro j m;have e:=ih (by omega) (by omega);rw[kX,kX,e];congr 1;by_cases q:k=0
   ·subst q;rw[c.hd,d.hd]
   ·rw[<-c.st k (by omega) (by omega),<-d.st k (by omega) (by omega),e]
 rcases jr F.length G.length with h | h | h
 ·have:=pre F.length (by omega) (by omega);rw[dy] at this;have a:=d.st F.length (by omega) h;rw[<-this,f,aI h] at a;cases a
 ·have:=pre F.length (by omega) (by omega);rw[dy,h,dy] at this;exact this
 ·have:=pre G.length (by omega) (by omega);rw[dy] at this;have a:=c.st G.length (by omega) h;rw[this,g,aI h] at a;cases a
noncomputable def Xv(D:List Int)(b:Nat):List Nat:=(aE D.length).filter λh=>!decide (h=b)&&decide (Zn D h<0)
theorem Pe{D:List Int}{b:Nat}(e:D.length<=1000):YV [pP D,.int (b:Int)]=aA (.lst (iL (nL (Xv D b)))):=by
 have d:Xu aB [Za 0] [aA (pP D),aA (.int (b:Int))]=aA ((aE D.length).map λi=>.tup [.int (i:Int),.int (Zn D i)]):=by have:=RW D;simp[this]
 have c:Zr 2 [1] (Xu aB [Za 0]) (.many [0,1]) (Qm (xB (Zi (Wg aC) (Za 0) (Za 2))) (xB (Zi Hv (Za 1) (eC (.int 0))))) (eP (Za 0)) [aA (pP D),aA (.int (b:Int))]=aA (.lst (iL (nL (Xv D b)))):=by
  rw[Vu (aE D.length) (λi=>.tup [.int (i:Int),.int (Zn D i)]) (λi=>.int (i:Int)) (λh=>!decide (h=b)&&decide (Zn D h<0)) d (by simp;omega) λy f=>⟨[aA (.int (y:Int)),aA (.int (Zn D y)),aA (.int (b:Int))],by simp[ZJ,Iw],?_,λ_=>by simp⟩]
  ·unfold nL Xv iL;rw[dD];rfl
  ·by_cases q:y=b
   ·subst q;simp
   ·have a:¬(y:Int)=(b:Int):=by omega
    simp[q,a]
 show(ZO _ [aA (pP D),aA (.int (b:Int))]).bind V3=_;rw[SU c];rfl
theorem debt_nil{D:List Int}{b:Nat}:Xv D b=[]↔∀h,h<D.length->h≠b->0<=Zn D h:=by
 unfold Xv;rw[List.filter_eq_nil_iff];constructor
 ·intro h x a c;have:=h x (aR.mpr a);simp[c] at this;exact this
 ·intro h x a;by_cases q:x=b
  ·simp[q]
  ·have:=h x (aR.mp a) q;simp[q];omega
theorem FC{D:List Int}{b h:Nat}:h∈Xv D b↔h<D.length/\h≠b/\Zn D h<0:=by unfold Xv;simp
end PW
set_option maxHeartbeats 2000000
namespace PW
open PySem L2 VL VX
section
variable {f g h k l:XE} {s s1:ZH} {a b c d e v r:PV} {i m:Nat} {F G:XS} {x y:XT} {o:Option LO} {p:Bool} {D:List PV->Option PV} {R:Option PV} {ls:List PV}
theorem Xe(q:F (ZN m ls)=aA (.rt v)):Yz m F ls=aA v:=by show(F (ZN m ls)).bind V3=_;rw[q];rfl
theorem sq(q:F s=aA (.nx s1))(w:G s1=o):Zp F G s=o:=(Yr q).trans w
theorem Zw(q:f s=aA v):Zq i f s=aA (.nx (s.set i (aA v))):=by rw[Yp,q];rfl
theorem ep(q:f s=aA v)(w:Yb v=aC:=by rfl):eP f s=aA v:=by rw[O6,q,aV,kr w]
theorem FD{l:List Int}(q:f s=aA (pP l)):eP f s=aA (pP l):=ep q (Yc _)
theorem c1(q:f s=aA a)(w:D [a]=R):Zc D [f] s=R:=by show((f s).bind λx=>aA [x]).bind D=_;rw[q];exact w
theorem c2(q:f s=aA a)(c:g s=aA b)(w:D [a,b]=R):Zc D [f,g] s=R:=by rw[YH,ZD,q,ZD,c];exact w
theorem c3(q:f s=aA a)(e:g s=aA b)(d:h s=aA c)(w:D [a,b,c]=R):Zc D [f,g,h] s=R:=by rw[YH,ZD,q,ZD,e,ZD,d];exact w
theorem c4(q:f s=aA a)(j:g s=aA b)(e:h s=aA c)(i:k s=aA d)(w:D [a,b,c,d]=R):Zc D [f,g,h,k] s=R:=by rw[YH,ZD,q,ZD,j,ZD,e,ZD,i];exact w
theorem c5(q:f s=aA a)(n:g s=aA b)(j:h s=aA c)(m:k s=aA d)(i:l s=aA e)(w:D [a,b,c,d,e]=R):Zc D [f,g,h,k,l] s=R:=by rw[YH,ZD,q,ZD,n,ZD,j,ZD,m,ZD,i];exact w
theorem o2{op:PV->PV->Option PV}(q:f s=aA a)(c:g s=aA b)(w:op a b=R):Zi op f g s=R:=by rw[Tv,q,c];exact w
theorem xb(q:f s=aA (.bl p)):xB f s=aA p:=by rw[O7,q];rfl
theorem xn(q:x s=aA p):Ik x s=aA !p:=by rw[GB,q];rfl
theorem xo{p2:Bool}(q:x s=aA p)(a:y s=aA p2):ES x y s=aA (p || p2):=by
 rw[EZ,q];cases p
 ·exact a
 ·rfl
theorem ea{p2:Bool}(q:f s=aA (.bl p))(a:g s=aA (.bl p2)):OT f g s=aA (.bl (p&&p2)):=by
 rw[GC,xb q];cases p
 ·rfl
 ·exact a
theorem gof(q:x s=aA aB):Rh x F YG s=aA (.nx s):=by rw[Yv,q];rfl
theorem ret(q:f s=aA v):ZO f s=aA (.rt v):=SU q
theorem neq{l:List Int}(q:f s=aA (pP l))(a:g s=aA (pP l)):xB (Zi (Wg aC) f g) s=aA aB:=xb (o2 q a (by simp))
theorem eqt{l:List Int}(q:f s=aA (pP l))(a:g s=aA (pP l)):Zi (Wg aB) f g s=aA (.bl aC):=o2 q a (by simp)
end
theorem DB{f g:XE}{s:ZH}{l:List Int}{k:Nat}(b:f s=aA (pP l))(a:g s=aA (.int (k:Int)))(h:k<l.length):RI Ry f Lj (UJ g) s=aA (pP (l.take k)):=by rw[Wh,b];simp only[aV,RM];unfold UJ;rw[a];simp only[aV];unfold Ry;simp only[];rw[ku,Kv];rw[HT.sIx_none,HT.sIx_nat,aO];omega
theorem DC{f g:XE}{s:ZH}{l:List Int}{k:Nat}(b:f s=aA (pP l))(a:g s=aA (.int (k:Int)))(h:k<l.length):RI Ry f (UJ (Zi Yj g (eC (.int 1)))) Lj s=aA (pP (l.drop (k+1))):=by
 have a:Zi Yj g (eC (.int 1)) s=aA (.int ((k+1:Nat):Int)):=by rw[Tv,a];rfl
 rw[Wh,b];simp only[aV,RM];unfold UJ;rw[a];simp only[aV];unfold Ry;simp only[];rw[ku,Kw];rw[HT.sIx_none,HT.sIx_nat,aO];omega
theorem JH{a b:List Int}(h:a.length+b.length<=1000):Oo (pP a) (pP b)=aA (pP (a++b)):=by unfold Oo;simp only[];rw[kr (by rw[aO,aO];omega),<-eO]
noncomputable def Y3(F:XS)(s:ZH)(Q:PV->Prop):Prop:=∃v,F s=aA (.rt v)/\Q v
noncomputable def Ww(F:XS)(s:ZH)(R:ZH->Prop):Prop:=∃s1,F s=aA (.nx s1)/\R s1
section
variable {F G:XS} {s s1:ZH} {Q:PV->Prop} {R:ZH->Prop} {v:PV} {f g:XE} {x:XT} {p:Bool} {m i k n:Nat} {ls:List PV} {O:List Nat} {fi:XL} {T:Tgt} {fb:XS} {a b:Int}
theorem Rq(h:Y3 F (ZN m ls) Q):∃v,Yz m F ls=aA v/\Q v:=by obtain⟨v,e,q⟩:=h;exact⟨v,Xe e,q⟩
theorem FE(h:Y3 F (ZN m ls) λw=>w=v):Yz m F ls=aA v:=by obtain⟨_,e,rfl⟩:=Rq h;exact e
theorem Z2(q:F s=aA (.nx s1))(h:Y3 G s1 Q):Y3 (Zp F G) s Q:=by obtain⟨v,e,a⟩:=h;exact⟨v,sq q e,a⟩
theorem Rr(h:Ww F s R)(a:∀s1,R s1->Y3 G s1 Q):Y3 (Zp F G) s Q:=by obtain⟨s1,e,r⟩:=h;exact Z2 e (a s1 r)
theorem W4(q:f s=aA v)(h:Q v):Y3 (ZO f) s Q:=⟨v,ret q,h⟩
theorem Zal(q:x s=aA aC)(h:Y3 F s Q):Y3 (Zp (Rh x F YG) G) s Q:=by obtain⟨v,e,a⟩:=h;exact⟨v,MU (by rw[Yv,q];exact e),a⟩
theorem Hz(q:F s=aA (.nx s1))(h:R s1):Ww F s R:=⟨s1,q,h⟩
theorem UR(q:F s=aA (.nx s1))(h:Ww G s1 R):Ww (Zp F G) s R:=by obtain⟨s2,e,r⟩:=h;exact⟨s2,sq q e,r⟩
theorem CC{R2:ZH->Prop}(h:Ww F s R)(a:∀s1,R s1->Ww G s1 R2):Ww (Zp F G) s R2:=by obtain⟨s1,e,r⟩:=h;exact UR e (a s1 r)
theorem DD{R2:ZH->Prop}(h:Ww F s R)(a:∀s1,R s1->R2 s1):Ww F s R2:=by obtain⟨s1,e,r⟩:=h;exact⟨s1,e,a s1 r⟩
theorem CD(q:x s=aA p)(a:p=aC->Ww F s R)(b:p=aB->Ww G s R):Ww (Rh x F G) s R:=by
 unfold Ww;rw[Yv,q];cases p
 ·exact b rfl
 ·exact a rfl
theorem KG(I:Nat->ZH->Prop)(f:fi (YB O s)=aA ls)(b:I 0 s)(st:∀i l s,ls[i]?=aA l->I i s->∃s1,Xm T l s=aA s1/\Ww fb s1 (I (i+1))):Ww (Xn O fi T fb) s (I ls.length):=by
 obtain⟨a,e,q⟩:=Wn I b λi l s g h=>by obtain⟨s1,c,s2,j,d⟩:=st i l s g h;exact⟨s1,s2,c,j,d⟩
 refine⟨a,?_,q⟩;unfold Xn;rw[f];exact e
theorem CF(I:Nat->ZH->Prop)(b:f (YB O s)=aA (.int (n:Int)))(a:I 0 s)(st:∀i s,i<n->I i s->Ww fb (s.set k (aA (.int (i:Int)))) (I (i+1)))(d:n<=10000:=by omega):Ww (Xn O (ZT [f]) (.one k) fb) s (I n):=by
 have:=KG (T:=.one k) (fb:=fb) I (Z6 b d) a λi l s e h=>by obtain⟨c,rfl⟩:=V5 e;exact⟨_,rfl,st i s c h⟩
 rwa [Tz] at this
theorem DE{d:Type}{L:List d}{q g:d->PV}(c:d->Bool)(I:ZH->Prop)(m:fi (YB O s)=aA (L.map q))(j:I s)(st:∀a∈L,∀s,I s->∃s1,Xm T (q a) s=aA s1/\(c a=aC->fb s1=aA (.rt (g a)))/\(c a=aB->Ww fb s1 I))(f:∀a,L.find? c=aA a->Q (g a))(l:L.find? c=none->∀s1,I s1->Y3 G s1 Q):Y3 (Zp (Xn O fi T fb) G) s Q:=by
 have b:=SW (T:=T) (fb:=fb) (g:=g) I st j;have e:∀o,VQ T fb (L.map q) s=o->Xn O fi T fb s=o:=λo h=>by unfold Xn;rw[m];exact h
 cases z:L.find? c with
 | some a=>rw[z] at b;exact⟨_,MU (e _ b),f a z⟩
 | none=>
  rw[z] at b;obtain⟨s1,k,i⟩:=b;exact Z2 (e _ k) (l z s1 i)
theorem goT{o:Option LO}(q:x s=aA aC)(w:F s=o):Rh x F G s=o:=by rw[Yv,q];exact w
theorem Zam{b:Type}{L:List b}{q g:b->PV}{H:XS}(c:b->Bool)(I:ZH->Prop)(n:fi (YB O s)=aA (L.map q))(k:I s)(st:∀a∈L,∀s,I s->∃s1,Xm T (q a) s=aA s1/\x s1=aA (c a)/\H s1=aA (.rt (g a))/\I s1)(j:∀a,L.find? c=aA a->Q (g a))(f:L.find? c=none->∀s1,I s1->Y3 G s1 Q):Y3 (Zp (Xn O fi T (Rh x H YG)) G) s Q:=
 DE (g:=g) c I n k (λa o s i=>by
  obtain⟨s1,e,d,m,l⟩:=st a o s i;exact⟨s1,e,λh=>goT (by rw[d,h]) m,λh=>Hz (gof (by rw[d,h])) l⟩) j f
theorem Zan{X:List Nat}(I:Nat->ZH->Prop)(a:fi (YB O s)=aA (iL (nL X)))(c:I 0 s)(st:∀i s (h:i<X.length),I i s->Ww fb (s.set k (aA (.int ((X[i]:Nat):Int)))) (I (i+1))):Ww (Xn O fi (.one k) fb) s (I X.length):=by
 have:=KG (T:=.one k) (fb:=fb) I a c λi l s b h=>by
  have a:i<X.length:=by have:=(aU.mp b).1;simpa [nL] using this
  have e:l = .int ((X[i]:Nat):Int):=by rw[O9 (by simpa [nL] using a)] at b;rw[<-ay b];simp[nL,Zn,a]
  subst e;exact⟨_,rfl,st i s a h⟩
 rwa [show(iL (nL X)).length=X.length by simp[nL]] at this
theorem vad(q:f s=aA (.int a))(c:g s=aA (.int b)):Zi Yj f g s=aA (.int (a+b)):=vI q c
theorem vsb(q:f s=aA (.int a))(c:g s=aA (.int b)):Zi XN f g s=aA (.int (a-b)):=vI q c
theorem vlt{a b:Nat}(q:f s=aA (.int (a:Int)))(c:g s=aA (.int (b:Int))):Zi Hv f g s=aA (.bl (decide (a<b))):=o2 q c (by
 show aA (PV.bl (decide ((a:Int)<(b:Int))))=_;rw[decide_eq_decide.mpr Int.ofNat_lt])
theorem vgt{a b:Nat}(q:f s=aA (.int (a:Int)))(c:g s=aA (.int (b:Int))):Zi Li f g s=aA (.bl (decide (b<a))):=o2 q c (by
 show aA (PV.bl (decide ((a:Int)>(b:Int))))=_;rw[decide_eq_decide.mpr Int.ofNat_lt])
theorem Ac(q:f s=aA (.int a))(c:g s=aA (.int b)):Zi (Wg aB) f g s=aA (.bl (decide (a=b))):=o2 q c (by rw[LS];rfl)
theorem un1{op:PV->Option PV}{S:Option PV}(q:f s=aA v)(w:op v=S):Gj op f s=S:=by unfold Gj;rw[q];exact w
theorem FF{S:Option PV}(q:x s=aA aC)(w:f s=S):Ge x f g s=S:=by rw[O8,q];exact w
theorem FG{S:Option PV}(q:x s=aA aB)(w:g s=S):Ge x f g s=S:=by rw[O8,q,aV,ku (by decide)];exact w
theorem Ad(Q:List Int):Wz (iL Q)=(aE Q.length).map λ(i:Nat)=>.tup [.int (i:Int),.int (Zn Q i)]:=by
 rw[WG,aO];exact aq λi a=>by rw[YD Q i (aR.mp a)]
theorem FH{W:List (List Int)}:YF [wP W]=aA (.int (W.length:Int)):=by show aA (PV.int ((W.map pP).length:Int))=_;rw[aO]
theorem KH{l:List Int}(q:f s=aA (.int (k:Int)))(d:g s=aA (.int a))(b:Iu s i=aA (iL l))(c:k<l.length):Xo i f g s=aA (.nx (s.set i (aA (.lst (iL (l.set k a)))))):=by rw[Om d q b (Yc _) rfl (Ut (by rw[aO];exact c)),<-jo]
theorem Ae{o:List Int}(q:f s=aA (.int (n:Int)))(c:g s=aA (.int a))(b:Iu s i=aA (iL o))(d:n<=1000)(e:o.length<=1000):Vs i f g s=aA (.nx (s.set i (aA (.lst (iL (o.take n++a::o.drop n)))))):=by rw[QC q c b (Yc o) rfl (by omega) (by omega) (by rw[aO];omega),eY,Ft]
end
end PW
namespace PW
theorem SY{f:Nat->Int}{q:Nat}:∀{m:Nat},q<=m->(∀k,q<=k->k<m->f k=0)->sN m f=sN q f
 | 0,h,_=>by rw[show q=0 by omega]
 | m+1,h,z=>by
  by_cases e:q=m+1
  ·rw[e]
  ·show sN m f+f m=_;rw[SY (m:=m) (by omega) (λk a b=>z k a (by omega)),z m (by omega) (by omega)];omega
theorem JI{f:Nat->Int}{q i:Nat}:∀{m:Nat},q<=i->i<m->(∀k,q<=k->k<m->k≠i->f k=0)->sN m f=sN q f+f i
 | 0,_,h,_=>by omega
 | m+1,hq,hi,z=>by
  show sN m f+f m=_;by_cases e:i=m
  ·subst e;rw[SY (q:=q) (by omega) λk a b=>z k a (by omega) (by omega)]
  ·rw[JI (m:=m) hq (by omega) (λk a b=>z k a (by omega)),z m (by omega) (by omega) (λq=>e q.symm)];omega
noncomputable def X9(m:Nat)(X:Mt):Nat->Mt×Int
 | 0=>(X,1)
 | p+1=>(λi j=>if i=p then(X9 m X p).1 i j else((X9 m X p).1 p p*(X9 m X p).1 i j-(X9 m X p).1 i p*(X9 m X p).1 p j).fdiv (X9 m X p).2,(X9 m X p).1 p p)
structure DF(m:Nat)(A X:Mt):Prop where
 sym:∀i j,i<m->j<m->A i j=A j i
 inj:∀p,p<=m->∀z:Nat->Int,(∀j,j<p->sN p (λk=>z k*A k j)=0)->∀k,k<p->z k=0
 ext:∀i j,i<m->j<m->X i j=A i j
structure Zci(m p:Nat)(X:Mt)(E:Mt)(d:Int)(i:Nat)(a:Nat->Int):Prop where
 off:∀k,k<m->p<=k->k≠i->a k=0
 on:p<=i->a i=d
 val:∀j,j<=m->E i j=sN m (λk=>a k*X k j)
 uni:∀j,j<p->E i j=if i=j then d else 0
structure DG(m:Nat)(A X:Mt)(p:Nat)(E:Mt)(d:Int):Prop where
 de:d=Yf p A
 nz:d≠0
 row:∀i,i<m->∃a,Zci m p X E d i a
theorem Tc{m:Nat}{A X:Mt}{p:Nat}{E:Mt}{d:Int}(ok:DF m A X)(U:p<m)(I:DG m A X p E d) :
  DG m A X (p+1) (λi j=>if i=p then E i j else(E p p*E i j-E i p*E p j).fdiv d) (E p p)/\∀i j,i<m->j<=m->i≠p->∃q,E p p*E i j-E i p*E p j=d*q:=by
 obtain⟨u,t⟩:=I.row p U;have Q:=I.nz
 -- the pivot's row
 have x:∀j,j<m->E p j=sN (p+1) (λk=>u k*A k j):=λj g=>by
  rw[t.val j (by omega),SY (q:=p+1) (by omega) λk v w=>by rw[t.off k w (by omega) (by omega),bp]];exact Zh λk f=>by rw[ok.ext k j (by omega) g]
 have pd:E p p=Yf (p+1) A:=by
  have v:=Dz (n:=p+1) (j:=p) (A:=A) (a:=u) (by omega);have w:=MS (A:=YZ p (λc=>sN (p+1) λk=>u k*A k c) A) λc hc=>by rw[Z5];rw[<-x c (by omega),t.uni c hc,ku (by omega)]
  have R:Yf p (YZ p (λc=>sN (p+1) λk=>u k*A k c) A)=Yf p A:=ZU λr c hr hc=>by rw[Y2 _ _ (by omega)]
  rw[Z5,R,v,t.on (aJ p),<-I.de] at w;have h4:d*Yf (p+1) A=E p p*d:=by rw[w];rw[<-x p U]
  have h5:d*(Yf (p+1) A)=d*E p p:=by rw[h4,bG]
  exact(gu Q h5).symm
 have pz:E p p≠0:=λz=>by
  have:=ok.inj (p+1) (by omega) u (λj g=>by
   rw[<-x j (by omega)];by_cases q:j=p
   ·rw[q];exact z
   ·rw[t.uni j (by omega),ku (by omega)]) p (by omega)
  rw[t.on (aJ p)] at this;exact Q this
 -- the s rows
 have s:∀i,i<m->i≠p->∃b:Nat->Int,(∀k,k<m->p+1<=k->k≠i->b k=0)/\(p+1<=i->b i=E p p)/\(∀l,l<p+1->sN m (λk=>b k*A k l)=if i=l then E p p else 0)/\∀j,j<=m->E p p*E i j-E i p*E p j=d*sN m (λk=>b k*X k j):=by
  intro i D o
  obtain⟨b,F,L,J⟩:∃b:Nat->Int,(∀k,k<m->p+1<=k->k≠i->b k=0)/\(p+1<=i->b i=E p p)/\(∀l,l<p+1->sN m (λk=>b k*A k l)=if i=l then E p p else 0):=by
   have Z:∀j l,j<p+1->l<p+1->sN (p+1) (λk=>NT (p+1) A k j*A k l)=if l=j then E p p else 0:=λj l g y=>by
    rw[pd,<-NU y g];exact Zh λk f=>by rw[ok.sym l k (by omega) (by omega),bG]
   by_cases q:i<p
   ·obtain⟨b,B⟩:∃b:Nat->Int,∀k,b k=if k<p+1 then NT (p+1) A k i else 0:=⟨_,λ_=>rfl⟩
    refine⟨b,λk f v _=>by rw[B,ku (by omega)],λh=>by omega,λl y=>?_⟩;rw[SY (q:=p+1) (by omega) λk v w=>by rw[B,ku (by omega),bp]];rw[Zh λk f=>by rw[B,kr f],Z i l (by omega) y];by_cases e:i=l
    ·rw[kr e,kr e.symm]
    ·rw[ku e,ku (λz=>e z.symm)]
   ·obtain⟨b,B⟩:∃b:Nat->Int,∀k,b k=if k<p+1 then-sN (p+1) (λj=>A i j*NT (p+1) A k j) else if k=i then E p p else 0:=⟨_,λ_=>rfl⟩
    have G:b i=E p p:=by rw[B,ku (by omega),kr rfl]
    refine⟨b,λk f v w=>by rw[B,ku (by omega),ku w],λh=>G,λl y=>?_⟩;rw[JI (q:=p+1) (by omega) D λk v w R=>by rw[B,ku (by omega),ku R,bp]];rw[G]
    have O:sN (p+1) (λk=>b k*A k l)=sN (p+1) (λk=>(-1)*sN (p+1) (λj=>A i j*(NT (p+1) A k j*A k l))):=Zh λk f=>by
     rw[B,kr f,bR,bG _ (A k l),<-ZA,bR,cw];congr 1;exact Zh λj _=>by rw[bG (A k l),bZ]
    rw[O,ZA,TM];have e2:(sN (p+1) λj=>sN (p+1) λk=>A i j*(NT (p+1) A k j*A k l))=A i l*E p p:=by rw[Zh λj g=>by rw[ZA,Z j l g y]];rw[Z4 y λj _ S=>by rw[ku (λz=>S z.symm),b5],kr rfl]
    rw[e2,bG (E p p)];omega
  refine⟨b,F,L,J,?_⟩;obtain⟨C,M⟩:=I.row i D
  have hw:∀k,k<m->E p p*C k-E i p*u k-d*b k=0:=by
   have H:∀k,k<m->p+1<=k->E p p*C k-E i p*u k-d*b k=0:=λk f v=>by
    have Y:=t.off k f (by omega) (by omega);by_cases q:k=i
    ·subst q;rw[M.on (by omega),Y,L v,bG d];omega
    ·rw[M.off k f (by omega) q,Y,F k f v q];omega
   intro k f;by_cases q:k<p+1
   ·refine ok.inj (p+1) (by omega) (λk=>E p p*C k-E i p*u k-d*b k) (λl y=>?_) k q;rw[<-SY (m:=m) (by omega) λk v w=>by rw[H k w v,bp]]
    have O:sN m (λk=>(E p p*C k-E i p*u k-d*b k)*A k l)=E p p*sN m (λk=>C k*A k l)+((- E i p)*sN m (λk=>u k*A k l)+(- d)*sN m (λk=>b k*A k l)):=by
     rw[<-ZA,<-ZA,<-ZA,<-Z3,<-Z3];exact Zh λk _=>by rw[Int.sub_mul,Int.sub_mul];simp only[bZ,bR];omega
    have T:∀a:Nat->Int,sN m (λk=>a k*X k l)=sN m (λk=>a k*A k l):=λa=>Zh λk f=>by rw[ok.ext k l f (by omega)]
    rw[O,J l y,<-T,<-T,<-M.val l (by omega),<-t.val l (by omega)];by_cases q2:l=p
    ·subst q2;rw[ku o,bG (E l l),bR];omega
    ·rw[M.uni l (by omega),t.uni l (by omega),ku (show ¬p=l by omega)];by_cases N:i=l
     ·rw[kr N,kr N,bR d,bG d];omega
     ·rw[ku N,ku N];omega
   ·exact H k f (by omega)
  intro j g;rw[M.val j g,t.val j g,<-ZA,<-ZA,<-ZA];have:sN m (λk=>E p p*(C k*X k j))=sN m (λk=>d*(b k*X k j))+sN m (λk=>E i p*(u k*X k j)):=by rw[<-Z3];refine Zh λk f=>?_;have:=hw k f;rw[<-bZ,<-bZ,<-bZ,<-iu];congr 1;omega
  omega
 refine⟨⟨pd,pz,λi D=>?_⟩,λi j D g o=>?_⟩
 ·by_cases o:i=p
  ·subst o;refine⟨u,λk f v w=>t.off k f (by omega) w,λh=>by omega,λj g=>by rw[kr rfl];exact t.val j g,λj g=>?_⟩;rw[kr rfl];by_cases q:i=j
   ·subst q;rw[kr rfl]
   ·rw[ku q,t.uni j (by omega),ku q]
  ·obtain⟨b,F,L,J,P⟩:=s i D o;have W:∀j,j<=m->(E p p*E i j-E i p*E p j).fdiv d=sN m (λk=>b k*X k j):=λj g=>by rw[P j g,dk _ Q]
   refine⟨b,F,L,λj g=>by rw[ku o];exact W j g,λj g=>?_⟩;rw[ku o,W j (by omega),<-J j g];exact Zh λk f=>by rw[ok.ext k j f (by omega)]
 ·obtain⟨b,F,L,J,P⟩:=s i D o;exact⟨_,P j g⟩
theorem YJ{m:Nat}{A X:Mt}(ok:DF m A X):∀{p:Nat},p<=m->DG m A X p (X9 m X p).1 (X9 m X p).2
 | 0,_=>⟨rfl,(show(1:Int)≠0 by decide),λi c=>⟨λk=>if k=i then 1 else 0,λk _ _ h=>ku h,λ_=>kr rfl,λj b=>by rw[Z4 (k:=i) c λk _ a=>by rw[ku a,bp],kr rfl,cw];rfl,λj b=>by omega⟩⟩
 | p+1,h=>(Tc ok (by omega) (YJ ok (p:=p) (by omega))).1
theorem He{m:Nat}{A X:Mt}(ok:DF m A X){k:Nat}(b:k<m):sN m (λi=>A k i*(X9 m X m).1 i m)=(X9 m X m).2*X k m:=by
 have I:=YJ ok (aJ m);generalize r:(X9 m X m).1=E at I ⊢;generalize s:(X9 m X m).2=d at I ⊢;have p:=I.nz
 have e:∀k,k<m->sN m (λi=>A k i*sN m (λj=>NT m A i j*X j m))=d*X k m:=λk b=>by
  rw[Zh (g:=λi=>sN m (λj=>A k i*(NT m A i j*X j m))) λi _=>by rw[ZA]]
  rw[TM,Zh (g:=λj=>(if k=j then d else 0)*X j m) λj q=>by
   rw[I.de,<-NU b q,bG _ (X j m),<-ZA];exact Zh λi _=>by rw[bG (X j m),bZ]]
  rw[Z4 b λj _ h=>by rw[ku (λz=>h z.symm),bp],kr rfl]
 have n:∀i,i<m->E i m=sN m (λj=>NT m A i j*X j m):=λi c=>by
  obtain⟨a,R⟩:=I.row i c;refine gu p ?_;rw[R.val m (aJ m),<-ZA];have o:sN m (λk=>d*(a k*X k m))=sN m (λk=>a k*sN m (λl=>A k l*sN m (λj=>NT m A l j*X j m))):=Zh λk b=>by rw[e k b,cG]
  rw[o,Zh (g:=λk=>sN m (λl=>a k*A k l*sN m (λj=>NT m A l j*X j m))) λk _=>by rw[<-ZA];exact Zh λl _=>by rw[bZ]]
  rw[TM,Zh (g:=λl=>(if i=l then d else 0)*sN m (λj=>NT m A l j*X j m)) λl f=>by
   rw[<-R.uni l f,R.val l (by omega),bG _ (sN m λj=>NT m A l j*X j m),<-ZA];exact Zh λk b=>by rw[ok.ext k l b f,bG]]
  rw[Z4 c λl _ h=>by rw[ku (λz=>h z.symm),bp],kr rfl]
 rw[Zh λi c=>by rw[n i c]];exact e k b
open L2 VL
theorem FI{z:Int}(h:z.natAbs<2^1000):z.natAbs.log2<1000:=by
 by_cases a:z.natAbs=0
 ·rw[a];decide +kernel
 ·exact(jC a).mpr h
theorem JJ{a b:Int}(h:a.natAbs<2^1000)(c:b.natAbs<2^1000):CMulW a b:=⟨by have:=FI h;omega,by have:=FI c;omega⟩
theorem JK{a b:Int}(c:b≠0)(h:b.natAbs<2^1000):V6 a b:=⟨c,by have:=FI h;omega⟩
noncomputable def Mb:Nat->Nat
 | 0=>2^7
 | p+1=>2*Mb p*Mb p
noncomputable def Nb:Nat->Nat
 | 0=>2^208
 | p+1=>2*Mb p*Nb p
theorem Zao{p:Nat}(h:p<=6):Mb p<2^1000:=by
 have:p=0\/p=1\/p=2\/p=3\/p=4\/p=5\/p=6:=by omega
 rcases this with rfl | rfl | rfl | rfl | rfl | rfl | rfl<;>decide +kernel
theorem Zcj{p:Nat}(h:p<=6):Nb p<2^1000:=by
 have:p=0\/p=1\/p=2\/p=3\/p=4\/p=5\/p=6:=by omega
 rcases this with rfl | rfl | rfl | rfl | rfl | rfl | rfl<;>decide +kernel
theorem JL{a b c d:Int}{M N:Nat}(h:a.natAbs<=M)(g:b.natAbs<=N)(f:c.natAbs<=M)(e:d.natAbs<=N):(a*b-c*d).natAbs<=2*M*N:=by
 have i:(a*b).natAbs<=M*N:=by rw[cB];exact cC h g
 have l:(c*d).natAbs<=M*N:=by rw[cB];exact cC f e
 have j:(a*b-c*d).natAbs<=(a*b).natAbs+(c*d).natAbs:=by omega
 have k:2*M*N=M*N+M*N:=by rw[dm];omega
 omega
theorem MY{x d q:Int}(a:d≠0)(e:x=d*q):(x.fdiv d).natAbs<=x.natAbs:=by
 rw[e,dk _ a,cB];have:1<=d.natAbs:=by omega
 calc q.natAbs=1*q.natAbs:=by omega
  _<=d.natAbs*q.natAbs:=cK _ this
theorem DH(p:Nat):Mb p<=Mb (p+1):=by
 have h:∀p,1<=Mb p:=λp=>by
  induction p with
  | zero=>decide
  | succ p ih=>show 1<=2*Mb p*Mb p;exact cC (show 1<=2*Mb p by omega) ih
 show Mb p<=2*Mb p*Mb p
 calc Mb p=1*Mb p:=by omega
  _<=2*Mb p*Mb p:=cK _ (by have:=h p;omega)
theorem DI(p:Nat):Nb p<=Nb (p+1):=by
 have h:∀p,1<=Mb p:=λp=>by
  induction p with
  | zero=>decide
  | succ p ih=>show 1<=2*Mb p*Mb p;exact cC (show 1<=2*Mb p by omega) ih
 show Nb p<=2*Mb p*Nb p
 calc Nb p=1*Nb p:=by omega
  _<=2*Mb p*Nb p:=cK _ (by have:=h p;omega)
theorem S2{m:Nat}{A X:Mt}(ok:DF m A X)(g:∀i j,i<m->j<m->(X i j).natAbs<=2^7)(h:∀i,i<m->(X i m).natAbs<=2^208):∀{p:Nat},p<=m->(∀i j,i<m->j<m->((X9 m X p).1 i j).natAbs<=Mb p)/\∀i,i<m->((X9 m X p).1 i m).natAbs<=Nb p
 | 0,_=>⟨g,h⟩
 | p+1,hp=>by
  obtain⟨b,d⟩:=S2 ok g h (p:=p) (by omega);have I:=YJ ok (p:=p) (by omega);have k:=(Tc ok (by omega) I).2;refine⟨λi j a f=>?_,λi a=>?_⟩
  ·show(if i=p then(X9 m X p).1 i j else _).natAbs<=_;split
   ·exact aQ (b i j a f) (DH p)
   ·rename_i c;obtain⟨q,e⟩:=k i j a (by omega) c;exact aQ (MY I.nz e) (JL (b p p (by omega) (by omega)) (b i j a f) (b i p a (by omega)) (b p j (by omega) f))
  ·show(if i=p then(X9 m X p).1 i m else _).natAbs<=_;split
   ·exact aQ (d i a) (DI p)
   ·rename_i c;obtain⟨q,e⟩:=k i m a (by omega) c;exact aQ (MY I.nz e) (JL (b p p (by omega) (by omega)) (d i a) (b i p a (by omega)) (d p (by omega)))
noncomputable def ZZ(w:Nat)(f:Nat->Int):List Int:=(aE w).map f
theorem ZE(w:Nat)(f:Nat->Int):(ZZ w f).length=w:=by simp[ZZ]
theorem YE{w:Nat}{f:Nat->Int}{j:Nat}(h:j<w):Zn (ZZ w f) j=f j:=Ya h
theorem XI{n:Nat}{ix:List Nat}{c:XL}{T:Tgt}{d:XE}{s:ZH}{w:Nat}{q:Nat->PV}(g:Nat->Int)(e:c s=aA ((aE w).map q))(i:w<=100)(h:∀j,j<w->∃s1,Xm T (q j) (ZJ n ix s)=aA s1/\d s1=aA (.int (g j))):Zr n ix c T Zy d s=aA (.lst (iL (ZZ w g))):=by
 rw[ZX (aE w) q (λj=>.int (g j)) e (by rw[bu];omega) λj f=>by
  obtain⟨s1,a,b⟩:=h j (aR.mp f);exact⟨s1,a,rfl,b⟩]
 simp[ZZ]
theorem Pf{w:Nat}{f:Nat->Int}{j:Nat}(h:j<w):S9 (iL (ZZ w f)) (j:Int)=aA (.int (f j)):=by rw[Y1 (by rw[ZE];exact h),YE h]
theorem KI{w p:Nat}{f g:Nat->Int}{d:Int}(o:w<=100)(e:p<w)(l:∀j,j<w->(f j).natAbs<2^1000)(k:∀j,j<w->(g j).natAbs<2^1000)(n:d≠0)(h:d.natAbs<2^1000) :
  Si [pP (ZZ w f),pP (ZZ w g),.int (p:Int),.int d]=aA (pP (ZZ w λj=>(g p*f j-f p*g j).fdiv d)):=by
 refine Xe (ret (FD (c1 (XI (q:=λj=>.tup [.int (f j),.int (g j)]) (λj=>(g p*f j-f p*g j).fdiv d) ?_ o λj m=>⟨_,rfl,?_⟩) rfl)))
 ·show aA (Vo (iL (ZZ w f)) (iL (ZZ w g)))=_;rw[YO _ _ (by simp[ZE]),aO,ZE];congr 1;refine aq λi c=>?_;have c:=aR.mp c;rw[YD _ i (by rw[ZE];exact c),YD _ i (by rw[ZE];exact c),YE c,YE c]
 ·exact vC (C:=V6) (op:=jB) (vI (vC (C:=CMulW) (op:=(· * ·)) (a:=g p) (b:=f j) (o2 rfl rfl (Pf e)) rfl (JJ (k p e) (l j m))) (vC (C:=CMulW) (op:=(· * ·)) (a:=f p) (b:=g j) (o2 rfl rfl (Pf e)) rfl (JJ (l p e) (k j m)))) rfl (JK n h)
noncomputable def Wa(m w:Nat)(E:Mt):List (List Int):=(aE m).map λi=>ZZ w (E i)
theorem NV(m w:Nat)(E:Mt):(Wa m w E).length=m:=by simp[Wa]
noncomputable def tL(M:List (List Int)):List PV:=M.map pP
theorem Pg(m w:Nat)(E:Mt):tL (Wa m w E)=(aE m).map λi=>pP (ZZ w (E i)):=by unfold tL Wa;rw[dD];rfl
theorem W5(m w:Nat)(E:Mt):(tL (Wa m w E)).length=m:=by simp[tL,NV]
theorem Td{m w:Nat}{E:Mt}{i:Nat}(h:i<m):(tL (Wa m w E))[i]?=aA (pP (ZZ w (E i))):=by rw[Pg,aW,bM h];rfl
theorem JM(M:List (List Int)):ZL (tL M)=aC:=V4 M
theorem WK{n:Nat}{ix:List Nat}{c:XL}{T:Tgt}{d:XE}{s:ZH}{m w:Nat}{q:Nat->PV}(E:Mt)(e:c s=aA ((aE m).map q))(g:m<=100)(h:∀j,j<m->∃s1,Xm T (q j) (ZJ n ix s)=aA s1/\d s1=aA (pP (ZZ w (E j)))):Zr n ix c T Zy d s=aA (.lst (tL (Wa m w E))):=by
 rw[ZX (aE m) q (λj=>pP (ZZ w (E j))) e (by rw[bu];omega) λj f=>by
  obtain⟨s1,a,b⟩:=h j (aR.mp f);exact⟨s1,a,rfl,b⟩,Pg]
theorem Hf{m w:Nat}{A X:Mt}(z:m<=6)(B:m<=w)(y:w<=m+1)(ok:DF m A X)(r:∀i j,i<m->j<m->(X i j).natAbs<=2^7)(u:∀i,i<m->(X i m).natAbs<=2^208){R:PV}(o:R = .lst (tL (Wa m w X))\/R = .tup (tL (Wa m w X))) :
  QM [R]=aA (.tup [.int (X9 m X m).2,.lst (tL (Wa m w (X9 m X m).1))]):=by
 have k:∀{p:Nat},p<=m->∀i j,i<m->j<m+1->((X9 m X p).1 i j).natAbs<2^1000:=λ{p} b i j a f=>by
  obtain⟨l,t⟩:=S2 ok r u b;by_cases q:j<m
  ·exact ar (l i j a q) (Zao (by omega))
  ·rw[show j=m by omega];exact ar (t i a) (Zcj (by omega))
 have x:∀{p:Nat},p<=m->(X9 m X p).2.natAbs<2^1000:=λ{p} b=>by
  cases p with
  | zero=>show(1:Int).natAbs<_;decide +kernel
  | succ p=>exact k (p:=p) (by omega) p p (by omega) (by omega)
 let st:Nat->Option PV->Option PV->ZH:=λp d c=>[aA R,aA (.lst (tL (Wa m w (X9 m X p).1))),aA (.int (X9 m X p).2),d,c]
 have g:WR [R]=aA (.lst (tL (Wa m w X)))/\YF [R]=aA (.int (m:Int)):=by
  rcases o with rfl | rfl
  ·exact⟨by rw[Qz,kr (JM _)],by show aA (PV.int ((tL (Wa m w X)).length:Int))=_;rw[W5]⟩
  ·exact⟨by rw[Tw,kr (JM _)],by show aA (PV.int ((tL (Wa m w X)).length:Int))=_;rw[W5]⟩
 suffices h:Y3 MB (ZN 5 [R]) λv=>v = .tup [.int (X9 m X m).2,.lst (tL (Wa m w (X9 m X m).1))] by obtain⟨v,e,rfl⟩:=Rq h;exact e
 refine Z2 (Zw (c1 rfl g.1)) (Z2 (Zw (vP rfl)) (Rr (CF (n:=m) (λp s=>∃d c,s=st p d c) (c1 rfl g.2) ⟨none,none,rfl⟩ ?_) ?_))
 ·rintro p s b ⟨d,c,rfl⟩;have I:=YJ ok (p:=p) (by omega);have bE:=λi j a f=>k (p:=p) (by omega) i j a f;refine UR (Zw (FD (o2 rfl rfl (Vj (Td b))))) (UR (Zw (WK (w:=w) (X9 m X (p+1)).1 (q:=λi=>.tup [.int (i:Int),pP (ZZ w ((X9 m X p).1 i))]) ?_ (by omega) λi a=>⟨_,rfl,FD ?_⟩)) (Hz (Zw (vP (o2 rfl rfl (Pf (by omega))))) ⟨_,_,rfl⟩))
  ·show aA (Wz (tL (Wa m w (X9 m X p).1)))=_;rw[WG,W5];congr 1;refine aq λi a=>?_;rw[aG,Td (aR.mp a)];rfl
  ·by_cases q:i=p
   ·exact FF (xb ((Ac rfl rfl).trans (by rw[decide_eq_true (by omega)]))) (by rw[show(X9 m X (p+1)).1 i=(X9 m X p).1 i from funext λj=>kr q];rfl)
   ·refine FG (xb ((Ac rfl rfl).trans (by rw[decide_eq_false (by omega)]))) ?_;rw[show(X9 m X (p+1)).1 i=_ from funext λj=>ku q];exact c4 rfl rfl rfl rfl (KI (by omega) (by omega) (λj f=>bE i j a (by omega)) (λj f=>bE p j b (by omega)) I.nz (x (by omega)))
 ·rintro s ⟨d,c,rfl⟩;exact⟨_,rfl,rfl⟩
theorem Hg{m:Nat}{A X:Mt}(d:m<=6)(ok:DF m A X)(b:∀i j,i<m->j<m->(X i j).natAbs<=2^7)(c:∀i,i<m->(X i m).natAbs<=2^208) :
  Wo [wP (Wa m m A),pP (ZZ m λi=>X i m)]=aA (.lst (iL (ZZ m λi=>((X9 m X m).1 i m).fdiv (X9 m X m).2))):=by
 have I:=YJ ok (aJ m)
 have f:(X9 m X m).2.natAbs<2^1000:=by
  cases m with
  | zero=>show(1:Int).natAbs<_;decide +kernel
  | succ k=>exact ar ((S2 ok b c (p:=k) (by omega)).1 k k (by omega) (by omega)) (Zao (by omega))
 refine Xe (sq (Zw (c1 (WK (w:=m+1) X (q:=λi=>.tup [pP (ZZ m (A i)),.int (X i m)]) ?_ (by omega) λi a=>⟨_,rfl,?_⟩) (Hf d (by omega) (by omega) ok b c (.inl rfl)))) (ret (XI (q:=λi=>pP (ZZ (m+1) ((X9 m X m).1 i))) _ ?_ (by omega) λi a=>⟨_,rfl,vP (vC (C:=V6) (op:=jB) (o2 rfl rfl ?_) rfl (JK I.nz f))⟩)))
 ·show aA (Vo (tL (Wa m m A)) (iL (ZZ m λi=>X i m)))=_;rw[YO _ _ (by rw[W5,aO,ZE]),W5];congr 1;refine aq λi a=>?_;have a:=aR.mp a;rw[YD _ i (by rw[ZE];exact a),YE a,aG,Td a];rfl
 ·have g:iL (ZZ m (A i))++[PV.int (X i m)]=iL (ZZ (m+1) (X i)):=by unfold ZZ;rw[gU,eO];simp;exact λj e=>(ok.ext i j a e).symm
  show(if(iL (ZZ m (A i))).length+[PV.int (X i m)].length<=10000 then aA (PV.tup (iL (ZZ m (A i))++[PV.int (X i m)])) else none)=_;rw[kr (by simp[ZE];omega),g]
 ·show aA (tL (Wa m (m+1) (X9 m X m).1))=_;rw[Pg]
 ·show S9 (iL (ZZ (m+1) ((X9 m X m).1 i))) (-1)=_;unfold S9 Md;rw[aO,ZE,ku (by omega),kr (by omega),show(-1+((m+1:Nat):Int)).toNat=m by omega];show(iL (ZZ (m+1) ((X9 m X m).1 i)))[m]?=_;rw[O9 (by rw[ZE];omega),YE (by omega)]
noncomputable def Xh(b i:Nat):Nat:=if i<b then i else i+1
noncomputable def JN(b h:Nat):Nat:=if h<b then h else h-1
theorem FJ(b i:Nat):Xh b i≠b:=by unfold Xh;split<;>omega
theorem Xs{b i m:Nat}(h:i<m):Xh b i<m+1:=by unfold Xh;split<;>omega
theorem R3(b i:Nat):JN b (Xh b i)=i:=by unfold JN Xh;split<;>(try split)<;>omega
theorem R4{b h:Nat}(q:h≠b):Xh b (JN b h)=h:=by unfold JN Xh;split<;>(try split)<;>omega
theorem FK{b h m:Nat}(a:b<m+1)(c:h<m+1)(q:h≠b):JN b h<m:=by unfold JN;split<;>omega
theorem DJ{b i j:Nat}(h:Xh b i=Xh b j):i=j:=by rw[<-R3 b i,h,R3]
theorem MZ{n b:Nat}(c:n<=7)(a:b<n):(aE n).filter (λh=>!decide (h=b))=(aE (n-1)).map (Xh b):=by
 have:∀n,n<8->∀b,b<8->b<n->(aE n).filter (λh=>!decide (h=b))=(aE (n-1)).map (Xh b):=by decide
 exact this n (by omega) b (by omega) a
theorem KJ{f:Nat->Int}{b:Nat}(a:f b=0):∀{m:Nat},b<m+1->sN (m+1) f=sN m (λi=>f (Xh b i))
 | 0,h=>by
  have:b=0:=by omega
  subst this;show 0+f 0=0;rw[a];rfl
 | m+1,h=>by
  by_cases q:b=m+1
  ·subst q;show sN (m+1) f+f (m+1)=_;rw[a,f9];exact Zh λi c=>by unfold Xh;rw[kr c]
  ·show sN (m+1) f+f (m+1)=sN m (λi=>f (Xh b i))+f (Xh b m);rw[KJ a (m:=m) (by omega),show Xh b m=m+1 by unfold Xh;rw[ku (by omega)]]
theorem Uk{f:Nat->Int}:∀{n:Nat},(∀i,i<n->0<=f i)->sN n f<=0->∀i,i<n->f i=0
 | 0,_,_,i,h=>by omega
 | n+1,h,s,i,a=>by
  have s:sN n f+f n<=0:=s
  have b:0<=sN n f:=by
   have:∀k,k<=n->0<=sN k f:=by
    intro k
    induction k with
    | zero=>intro _;exact df 0
    | succ k ih=>intro c;have:=ih (by omega);have:=h k (by omega);show 0<=sN k f+f k;omega
   exact this n (aJ n)
  have d:=h n (by omega);by_cases q:i=n
  ·subst q;omega
  ·exact Uk (n:=n) (λi a=>h i (by omega)) (by omega) i (by omega)
theorem Yk{f:Nat->Int}:∀{n:Nat},(∀i,i<n->0<=f i)->0<=sN n f
 | 0,_=>df 0
 | n+1,h=>by have:=Yk (n:=n) λi a=>h i (by omega);have:=h n (by omega);show 0<=sN n f+f n;omega
theorem Ph(Y:Nat->Int):∀{n:Nat},0<n->∃h,h<n/\∀g,g<n->Y h<=Y g
 | 0,h=>by omega
 | 1,_=>⟨0,by omega,λg a=>by rw[show g=0 by omega];exact df _⟩
 | n+2,_=>by
  obtain⟨h,c,b⟩:=Ph Y (n:=n+1) (by omega);by_cases q:Y h<=Y (n+1)
  ·exact⟨h,by omega,λg a=>by
    by_cases e:g=n+1
    ·rw[e];exact q
    ·exact b g (by omega)⟩
  ·exact⟨n+1,by omega,λg a=>by
    by_cases e:g=n+1
    ·rw[e];exact df _
    ·have:=b g (by omega);omega⟩
noncomputable def gN(W:List (List Int))(Y:Nat->Int)(h:Nat):Int:=sN W.length (λg=>ent W h g*(Y g-Y h))
theorem DK{W:List (List Int)}(ok:ZQ W)(o:W3 W){Y:Nat->Int}{b:Nat}(u:b<W.length)(k:∀h,h<W.length->h≠b->Y h<Y b->gN W Y h<=0):∀h,h<W.length->Y b<=Y h:=by
 intro h q;refine gk.mp λp=>?_;obtain⟨e,l0,m⟩:=Ph Y (n:=W.length) (by omega);have r:Y e<Y b:=by have:=m h q;omega
 have step:∀a c,a<W.length->c<W.length->0<ent W a c->Y a=Y e->Y c=Y e:=λa c d i j ea=>by
  have s:=k a d (λz=>by rw[z] at ea;omega) (by omega);have t:=Uk (f:=λg=>ent W a g*(Y g-Y a)) (λg l=>cL (ok.lo a g d l) (by have:=m g l;omega)) s c i
  have:Y c-Y a=0:=by
   rcases Int.mul_eq_zero.mp t with z | z
   ·omega
   ·exact z
  omega
 have:=(o (λx=>Y x=Y e) (λa c d i j=>⟨step a c d i j,step c a i d (by rw[ok.sym c a i d];exact j)⟩) e b l0 u).mp rfl;omega
theorem Te{W:List (List Int)}(Y Z:Nat->Int)(h:Nat):gN W (λx=>Y x+Z x) h=gN W Y h+gN W Z h:=by
 unfold gN;rw[<-Z3];exact Zh λg _=>by show ent W h g*(Y g+Z g-(Y h+Z h))=_;rw[<-fS];congr 1;omega
theorem Wx{W:List (List Int)}(c:Int)(Y:Nat->Int)(h:Nat):gN W (λx=>c*Y x) h=c*gN W Y h:=by
 unfold gN;rw[<-ZA];exact Zh λg _=>by show ent W h g*(c*Y g-c*Y h)=_;rw[<-eD,cG]
theorem Ul{W:List (List Int)}{Y Z:Nat->Int}{h:Nat}(b:h<W.length)(e:∀g,g<W.length->Y g=Z g):gN W Y h=gN W Z h:=Zh λg a=>by rw[e g a,e h b]
theorem JO(W:List (List Int))(S:List Int)(h:Nat):Wd W S h=gN W (Zn S) h:=by unfold Wd gN;rw[Xd]
noncomputable def ZR(W:List (List Int))(b:Nat):Mt:=λi j=>if Xh b j=Xh b i then(ZK W (Xh b i)).sum else-ent W (Xh b i) (Xh b j)
noncomputable def VF(W:List (List Int))(b:Nat)(c:Nat->Int):Mt:=λi j=>if j<W.length-1 then ZR W b i j else c (Xh b i)
theorem Pj{W:List (List Int)}(ok:ZQ W){b:Nat}(v:b<W.length){Y:Nat->Int}(n:Y b=0){k:Nat}(j:k<W.length-1):gN W Y (Xh b k) = - sN (W.length-1) (λi=>ZR W b k i*Y (Xh b i)):=by
 have u:=ok.pos;obtain⟨m,d⟩:∃m,W.length=m+1:=⟨W.length-1,by omega⟩;have c:W.length-1=m:=by omega
 rw[c] at j ⊢;generalize e:Xh b k=h;have a:h<W.length:=by rw[d,<-e];exact Xs j
 have l:sN m (λi=>ZR W b k i*Y (Xh b i))=sN (m+1) (λg=>(if g=h then(ZK W h).sum else-ent W h g)*Y g):=by
  rw[KJ (b:=b) (f:=λg=>(if g=h then(ZK W h).sum else-ent W h g)*Y g) (by rw[n,b5]) (by omega)];exact Zh λi _=>by unfold ZR;rw[e]
 have r:sN (m+1) (λg=>(if g=h then(ZK W h).sum else-ent W h g)*Y g)=(-1)*sN (m+1) (λg=>ent W h g*Y g)+(ZK W h).sum*Y h:=by
  have:sN (m+1) (λg=>if g=h then(ZK W h).sum*Y h else 0)=(ZK W h).sum*Y h:=by rw[Z4 (k:=h) (by omega) λi _ p=>ku p,kr rfl]
  rw[<-this,<-ZA,<-Z3];refine Zh λg t=>?_;by_cases q:g=h
  ·subst q;rw[kr rfl,kr rfl,ok.dia g a];omega
  ·rw[ku q,ku q,bR,bR,cw];omega
 have o:(ZK W h).sum=sN (m+1) (λg=>ent W h g):=by rw[UB ok a,Xd,d]
 have s:gN W Y h=sN (m+1) (λg=>ent W h g*Y g)+(- Y h)*sN (m+1) (λg=>ent W h g):=by
  unfold gN;rw[d,<-ZA,<-Z3];exact Zh λg _=>by rw[eD,bG (- Y h),gw];omega
 rw[s,l,r,o,bG (sN (m+1) λg=>ent W h g) (Y h),bR];omega
theorem S3{W:List (List Int)}(ok:ZQ W)(B:W3 W){b:Nat}(A:b<W.length)(c:Nat->Int):DF (W.length-1) (ZR W b) (VF W b c):=by
 have G:=ok.pos;obtain⟨m,t⟩:∃m,W.length=m+1:=⟨W.length-1,by omega⟩;have a:W.length-1=m:=by omega
 have f:∀i j,i<m->j<m->ZR W b i j=ZR W b j i:=λi j r o=>by
  unfold ZR;by_cases q:Xh b j=Xh b i
  ·rw[kr q,kr q.symm,q]
  ·rw[ku q,ku (λz=>q z.symm),ok.sym _ _ (by rw[t];exact Xs r) (by rw[t];exact Xs o)]
 rw[a];refine⟨f,λp v z E k w=>?_,λi j r o=>by unfold VF;rw[a,kr o]⟩;obtain⟨Z,u⟩:∃Z:Nat->Int,∀h,Z h=if h=b then 0 else if JN b h<p then z (JN b h) else 0:=⟨_,λ_=>rfl⟩
 have l:Z b=0:=by rw[u,kr rfl]
 have y:∀i,Z (Xh b i)=if i<p then z i else 0:=λi=>by rw[u,ku (FJ b i),R3]
 have n:∀j,j<p->gN W Z (Xh b j)=0:=λj o=>by
  rw[Pj ok A l (by omega),a]
  have e:sN m (λi=>ZR W b j i*Z (Xh b i))=sN p (λk=>z k*ZR W b k j):=by
   rw[SY (q:=p) v λk C D=>by rw[y,ku (by omega),b5]];exact Zh λk w=>by rw[y,kr w,f j k (by omega) (by omega),bG]
  rw[e,E j o];rfl
 have off:∀h,h<W.length->Z h≠0->gN W Z h=0:=λh s ne=>by
  have g:h≠b:=λz=>ne (by rw[z];exact l);have r:JN b h<p:=by refine Nat.not_le.mp λq=>ne ?_;rw[u,ku g,ku (by omega)]
  have:=n _ r;rw[R4 g] at this;exact this
 have up:=DK ok B (Y:=Z) A (λh s _ d=>by rw[off h s (by rw[l] at d;omega)];exact df _)
 have F:=DK ok B (Y:=λx=>(-1)*Z x) A (λh s _ d=>by
  simp only[l] at d;rw[Wx,off h s (by omega)];decide)
 have C:=up (Xh b k) (by rw[t];exact Xs (by omega));have D:=F (Xh b k) (by rw[t];exact Xs (by omega));simp only[l,y,kr w] at C D;omega
theorem OA{W:List (List Int)}(ok:ZQ W)(l:W3 W){b:Nat}(j:b<W.length)(c:Nat->Int) :
  ∃R:Nat->Int,R b=0/\(∀i,i<W.length-1->R (Xh b i)=(X9 (W.length-1) (VF W b c) (W.length-1)).1 i (W.length-1))/\∀h,h<W.length->h≠b->gN W R h = - ((X9 (W.length-1) (VF W b c) (W.length-1)).2*c h):=by
 have n:=ok.pos;have bk:=S3 ok l j c;obtain⟨R,d⟩:∃R:Nat->Int,∀h,R h=if h=b then 0 else(X9 (W.length-1) (VF W b c) (W.length-1)).1 (JN b h) (W.length-1):=⟨_,λ_=>rfl⟩
 have k:R b=0:=by rw[d,kr rfl]
 have f:∀i,R (Xh b i)=(X9 (W.length-1) (VF W b c) (W.length-1)).1 i (W.length-1):=λi=>by rw[d,ku (FJ b i),R3]
 refine⟨R,k,λi _=>f i,λh o a=>?_⟩;have g:JN b h<W.length-1:=FK (m:=W.length-1) (by omega) (by omega) a;have e:=Pj ok j k g;rw[R4 a] at e;have s:=He bk g;have x:VF W b c (JN b h) (W.length-1)=c h:=by unfold VF;rw[ku (by omega),R4 a]
 rw[x] at s;rw[e,<-s];congr 1;exact Zh λi _=>by rw[f]
theorem FL(l:List Int)(g:Int->Int):l.map g=(aE l.length).map λi=>g (Zn l i):=by refine WI (by simp) λi a=>?_;rw[aO] at a;rw[Ya (by omega)];simp[Zn,aG,aI a]
theorem KN{n:Nat}{ix:List Nat}{b:XL}{d:XT}{c:XE}{s:ZH}{l:List Int}(g:Int->Int)(a:b s=aA (iL l))(f:l.length<=1000)(h:∀x∈l,∃s1,Xm (.one 0) (.int x) (ZJ n ix s)=aA s1/\d s1=aA aC/\c s1=aA (.int (g x))) :
  Zr n ix b (.one 0) d c s=aA (.lst (iL (l.map g))):=by
 rw[ZX l (λ(x:Int)=>.int x) (λx=>.int (g x)) a (by omega) (λx e=>h x e)];simp
theorem Pk{l:List Int}(d:0<l.length)(a:l.length<=1000):Vw [pP l]=aA (pP (ZW l)):=by
 have c:Zr 1 [1] (T9 (Za 0)) (.one 0) Zy (Zi XN (Za 0) (Za 1)) [aA (pP l),aA (.int (XZ l))]=aA (.lst (iL (ZW l))):=by rw[show ZW l=l.map λx=>x-XZ l from(FL l λx=>x-XZ l).symm];exact KN (λx=>x-XZ l) (QA rfl) a λx e=>⟨_,rfl,rfl,by simp[ZJ]⟩
 have b:=De XZ (l:=l) (dt.mp d);simp[Vw,Jx,Yz,ZN,b,c]
theorem Hh{W:List (List Int)}{h m:Nat}{f:Nat->Nat}(ok:ZQ W)(a:h<W.length)(d:m<=6)(b:∀i,i<m->f i<W.length) :
  QO [wP W,.int (h:Int),.lst (iL (nL ((aE m).map f)))]=aA (pP (ZZ m λj=>if f j=h then(ZK W h).sum else-ent W h (f j))):=by
 refine Xe (ret (FD (c1 (XI (q:=λj=>.int ((f j:Nat):Int)) _ (by show aA (iL (nL ((aE m).map f)))=_;simp[nL]) (by omega) λj c=>⟨_,rfl,?_⟩) rfl)));by_cases q:f j=h
 ·rw[kr q];exact FF (xb ((Ac rfl rfl).trans (by rw[decide_eq_true (by omega)]))) (c2 rfl rfl (Kr a))
 ·rw[ku q];exact FG (xb ((Ac rfl rfl).trans (by rw[decide_eq_false (by omega)]))) (un1 (o2 (o2 rfl rfl (Us a)) rfl (Y1 (by rw[ok.sq h a];exact b j c))) rfl)
theorem WL{W:List (List Int)}{b:Nat}(ok:ZQ W)(k:b<W.length) :
  YW [wP W,.int (b:Int)]=aA (wP (Wa (W.length-1) (W.length-1) (ZR W b))):=by
 have l:=ok.pos;have j:=ok.few;obtain⟨m,e⟩:∃m,W.length=m+1:=⟨W.length-1,by omega⟩;have a:W.length-1=m:=by omega
 rw[a];have fo:∀i,i<m->Xh b i<W.length:=λi c=>by rw[e];exact Xs c
 have g:Zr 1 [1] (ZT [Zc YF [Za 0]]) (.one 0) (xB (Zi (Wg aC) (Za 0) (Za 1))) (eP (Za 0)) [aA (wP W),aA (.int (b:Int)),none]=aA (.lst (iL (nL ((aE m).map (Xh b))))):=by
  rw[Vu (aE W.length) (λ(i:Nat)=>.int (i:Int)) (λ(i:Nat)=>.int (i:Int)) (λh=>!decide (h=b)) (Z6 (n:=W.length) (by simp) (by omega)) (by simp;omega) λy o=>⟨[aA (.int (y:Int)),aA (.int (b:Int))],rfl,?_,λ_=>by simp⟩]
  ·rw[MZ j k,a];simp[nL]
  ·by_cases q:y=b
   ·simp[q]
   ·have d:¬(y:Int)=(b:Int):=by omega
    simp[q,d]
 exact Xe (sq (Zw g) (ret (ep (c1 (WK (w:=m) (ZR W b) (q:=λi=>.int ((Xh b i:Nat):Int)) (by show aA (iL (nL ((aE m).map (Xh b))))=_;simp[nL]) (by omega) λi c=>⟨_,rfl,c3 rfl rfl rfl (Hh (f:=Xh b) ok (fo i c) (by omega) fo)⟩) rfl) (V4 _))))
theorem DL{l:List Int}{b h:Nat}{x:Int}(c:b<=l.length)(d:h<l.length+1):Zn (l.take b++x::l.drop b) h=if h=b then x else Zn l (JN b h):=by
 unfold Zn JN;rw[aG,aG];by_cases q:h<b
 ·rw[ku (by omega),kr q,ah (by rw[bK];omega),di q]
 ·rw[bJ (by rw[bK];omega),bK,dJ c];by_cases a:h=b
  ·rw[kr a,a,Nat.sub_self];rfl
  ·rw[ku a,ku q,show h-b=(h-b-1)+1 by omega,List.getElem?_cons_succ,dS,show b+(h-b-1)=h-1 by omega]
theorem JP{f:Nat->Int}:∀{n:Nat},(∀i,i<n->0<=f i/\f i<=9)->0<=sN n f/\sN n f<=9*n
 | 0,_=>⟨df _,by show(0:Int)<=_;omega⟩
 | n+1,h=>by
  obtain⟨a,b⟩:=JP (n:=n) λi c=>h i (by omega);have:=h n (by omega);refine⟨?_,?_⟩
  ·show 0<=sN n f+f n;omega
  ·show sN n f+f n<=_;omega
theorem Hi{W:List (List Int)}(ok:ZQ W){b:Nat}{c:Nat->Int}{i j:Nat}(h:i<W.length-1)(e:j<W.length-1):(VF W b c i j).natAbs<=2^7:=by
 have l:=ok.pos;have k:=ok.few;have d:Xh b i<W.length:=by have:=Xs (b:=b) h;omega
 have g:Xh b j<W.length:=by have:=Xs (b:=b) e;omega
 unfold VF ZR;rw[kr e];split
 ·rw[UB ok d,Xd];obtain⟨a,b⟩:=JP (f:=λj=>ent W (Xh b i) j) (n:=W.length) λj e=>⟨ok.lo _ j d e,ok.hi _ j d e⟩;omega
 ·have:=ok.lo _ _ d g;have:=ok.hi _ _ d g;omega
noncomputable def OB(W:List (List Int))(D:List Int)(b:Nat):List Int:=
 (ZZ (W.length-1) λi=>((X9 (W.length-1) (VF W b (Zn D)) (W.length-1)).1 i (W.length-1)).fdiv (X9 (W.length-1) (VF W b (Zn D)) (W.length-1)).2).take b++0::(ZZ (W.length-1) λi=>((X9 (W.length-1) (VF W b (Zn D)) (W.length-1)).1 i (W.length-1)).fdiv (X9 (W.length-1) (VF W b (Zn D)) (W.length-1)).2).drop b
theorem FN{W:List (List Int)}{D:List Int}{b:Nat}(a:b<W.length):(OB W D b).length=W.length:=by unfold OB;rw[az,bK,bh,cE,ZE];omega
theorem FO{W:List (List Int)}{D:List Int}{b:Nat}(ok:ZQ W)(e:W3 W)(l:D.length=W.length)(c:b<W.length)(f:∀h,h<W.length->(Zn D h).natAbs<=2^208):Wk [wP W,pP D,.int (b:Int)]=aA (pP (OB W D b)):=by
 have m:=ok.few
 have k:D.take b++D.drop (b+1)=ZZ (W.length-1) λi=>VF W b (Zn D) i (W.length-1):=by
  refine WI (by rw[az,bK,cE,ZE];omega) λi a=>?_;have a:i<W.length-1:=by rw[az,bK,cE] at a;omega
  rw[YE a];unfold VF Xh Zn;rw[ku (by omega),aG,aG];by_cases q:i<b
  ·rw[kr q,ah (by rw[bK];omega),di q]
  ·rw[ku q,bJ (by rw[bK];omega),bK,dS];congr 2;omega
 have d:=Hg (by omega) (S3 ok e c (Zn D)) (λi j a g=>Hi ok a g) (λi a=>by
  unfold VF;rw[ku (by omega)];exact f _ (by have:=Xs (b:=b) a;omega))
 rw[<-k] at d;exact Xe (sq (Zw (FD (o2 (DB rfl rfl (by omega)) (DC rfl rfl (by omega)) (JH (by rw[bK,cE];omega))))) (sq (Zw (c2 (c2 rfl rfl (WL ok c)) rfl d)) (sq (Ae rfl rfl rfl (by omega) (by rw[ZE];omega)) (ret (FD (c1 rfl rfl))))))
theorem KO{W:List (List Int)}{D:List Int}{b:Nat}(ok:ZQ W)(k:W3 W)(s:D.length=W.length)(j:b<W.length)(t:∀h,h<W.length->(Zn D h).natAbs<=2^208) :
  ∃(S0:List Int) (d:Int) (R:Nat->Int),Wk [wP W,pP D,.int (b:Int)]=aA (pP S0)/\S0.length=W.length/\0<d/\R b=0/\Zn S0 b=0/\(∀h,h<W.length->d*Zn S0 h<=R h/\R h<d*Zn S0 h+d)/\∀h,h<W.length->h≠b->gN W R h = - (d*Zn D h):=by
 have v:=ok.few;obtain⟨R,o,u,p⟩:=OA ok k j (Zn D);have r:=(YJ (S3 ok k j (Zn D)) (aJ _)).nz;have run:=FO ok k s j t;have len:=FN (W:=W) (D:=D) j
 have a:∀h,h<W.length->Zn (OB W D b) h=if h=b then 0 else(R h).fdiv (X9 (W.length-1) (VF W b (Zn D)) (W.length-1)).2:=λh c=>by
  unfold OB;rw[DL (by rw[ZE];omega) (by rw[ZE];omega)];by_cases q:h=b
  ·rw[kr q,kr q]
  ·have i:=FK (m:=W.length-1) (by omega) (by omega) q;rw[ku q,ku q,YE i,<-u _ i,R4 q]
 generalize (X9 (W.length-1) (VF W b (Zn D)) (W.length-1)).2=d at *;generalize OB W D b=l at *;have f:Zn l b=0:=by rw[a b j,kr rfl]
 have a:∀h,h<W.length->Zn l h=(R h).fdiv d:=λh c=>by
  rw[a h c];split
  ·rename_i q;rw[q,o];simp
  ·rfl
 rcases eJ r with neg | pos
 ·refine⟨_,- d,λh=>- R h,run,len,by omega,by show-R b=0;rw[o];rfl,f,λh c=>?_,λh c n=>?_⟩
  ·have e:(R h).fdiv d=(- R h)/(- d):=by rw[<-kB,dQ _ (by omega)]
   rw[a h c,e];exact⟨jD (by omega),iD (by omega)⟩
  ·have:=Wx (W:=W) (-1) R h;rw[p h c n] at this;rw[Ul (Z:=λx=>(-1)*R x) c (λg _=>by show-R g=(-1)*R g;omega),this,bR d];omega
 ·refine⟨_,d,R,run,len,pos,o,f,λh c=>?_,p⟩;rw[a h c,dQ _ (by omega)];exact⟨jD (by omega),iD pos⟩
theorem FP{c:XT}{fb:XS}(g:Nat->ZH->Prop)(step:∀k st,g k st->c st=aA aB\/(c st=aA aC/\∃s2 k',fb st=aA (.nx s2)/\k'<k/\g k' s2)){k:Nat}{s:ZH}(m:g k s) :
  ∃f k',Xz c fb s=aA (.nx f)/\g k' f/\c f=aA aB:=by
 have gen:∀(n k:Nat)(st:ZH),k<n->g k st->∃f k',YC c fb n st=aA (.nx f)/\g k' f/\c f=aA aB:=by
  intro n
  induction n with
  | zero=>intro k st h;omega
  | succ n ih=>
   intro k st q l;rcases step k st l with i | ⟨i,s2,k',e,p,j⟩
   ·exact⟨st,k,by unfold YC;rw[i];rfl,l,i⟩
   ·obtain⟨f,o,a,b,d⟩:=ih k' s2 (by omega) j;refine⟨f,o,?_,b,d⟩;unfold YC;rw[i];simp only[e];exact a
 obtain⟨f,k',a,b,d⟩:=gen (k+1) k s (by omega) m;exact⟨f,k',Og a,b,d⟩
noncomputable def W6(n:Nat)(L:List Nat):List Int:=(aE n).map λh=>if h∈L then -1 else 0
theorem NW{W:List (List Int)}{L:List Nat}(b:W.length<=7):Xg [wP W,.lst (iL (nL L))]=aA (pP (W6 W.length L)):=by
 have a:Zr 1 [1] (ZT [Zc YF [Za 0]]) (.one 0) Zy (Ge (xB (Zi (Im aB) (Za 0) (Za 1))) (Gj Mo (eC (.int 1))) (eC (.int 0))) [aA (wP W),aA (.lst (iL (nL L)))]=aA (.lst (iL (W6 W.length L))):=by
  rw[XC (λh=>if h∈L then -1 else 0) (Z6 (n:=W.length) (by simp) (by omega)) (by omega) λi c=>⟨[aA (.int (i:Int)),aA (.lst (iL (nL L)))],rfl,rfl,?_⟩]
  ·rfl
  ·have g:=DA i L;have t:xB (Zi (Im aB) (Za 0) (Za 1)) [aA (.int (i:Int)),aA (.lst (iL (nL L)))]=aA (decide (i∈L)):=by rw[O7];show(Im aB (.int (i:Int)) (.lst (iL (nL L)))).bind blO=_;rw[g];rfl
   rw[O8,t];by_cases q:i∈L
   ·rw[kr q,decide_eq_true q];rfl
   ·rw[ku q,decide_eq_false q];rfl
 show(ZO _ [aA (wP W),aA (.lst (iL (nL L)))]).bind V3=_;have:Zc ZP [Zr 1 [1] (ZT [Zc YF [Za 0]]) (.one 0) Zy (Ge (xB (Zi (Im aB) (Za 0) (Za 1))) (Gj Mo (eC (.int 1))) (eC (.int 0)))] [aA (wP W),aA (.lst (iL (nL L)))]=aA (pP (W6 W.length L)):=by simp only[YH,ZD,Jp,a,aV,dM,Yy]
 rw[SU (v:=pP (W6 W.length L)) (by rw[O6,this];simp)];rfl
theorem DM{n:Nat}{L:List Nat}{h:Nat}(a:h<n):Zn (W6 n L) h=if h∈L then -1 else 0:=Ya a
theorem W7{W:List (List Int)}{D S:List Int}{h:Nat}(a:h<D.length):Zn (ZG W D S) h=Zn D h+gN W (Zn S) h:=by rw[Wt a,JO]
structure M0(W:List (List Int))(b:Nat)(n0:Nat->Int)(B:Nat->Int):Prop where
 pos:∀h,h<W.length->0<=B h
 base:B b=0
 free:∀h,h<W.length->h≠b->0<=n0 h-gN W B h
theorem DN{W:List (List Int)}(ok:ZQ W)(j:W3 W){b:Nat}(k:b<W.length)(d:Nat->Int):∃B,M0 W b d B:=by
 obtain⟨z,l,_,r⟩:=OA ok j k (λ_=>1);have u:=(YJ (S3 ok j k (λ_=>1)) (aJ _)).nz
 obtain⟨y,o,s⟩:∃y:Nat->Int,y b=0/\∀h,h<W.length->h≠b->gN W y h<=-1:=by
  rcases eJ u with neg | pos
  ·exact⟨λx=>(-1)*z x,by show(-1)*z b=0;rw[l];rfl,λh c a=>by rw[Wx,r h c a];omega⟩
  ·exact⟨z,l,λh c a=>by rw[r h c a];omega⟩
 have m:=DK ok j (Y:=y) k (λh c a _=>by have:=s h c a;omega);rw[o] at m;obtain⟨K,p⟩:∃K:Int,K=sN W.length (λh=>((d h).natAbs:Int)):=⟨_,rfl⟩;have t:0<=K:=by rw[p];exact Yk λi _=>by omega
 have g:∀h,h<W.length->- d h<=K:=λh c=>by
  have:∀n,h<n->- d h<=sN n (λh=>((d h).natAbs:Int)):=by
   intro n
   induction n with
   | zero=>intro q;omega
   | succ n ih=>
    intro q;show _<=sN n (λh=>((d h).natAbs:Int))+((d n).natAbs:Int);by_cases e:h=n
    ·subst e;have:=Yk (f:=λh=>((d h).natAbs:Int)) (n:=h) λi _=>by omega
     omega
    ·have:=ih (by omega);omega
  rw[p];exact this _ c
 refine⟨λx=>K*y x,λh c=>cL t (m h c),by rw[o,b5],λh c a=>?_⟩;rw[Wx];have v:=s h c a;have w:=eH v t;have A:=g h c;omega
theorem Hj{W:List (List Int)}(ok:ZQ W){b:Nat}{j B B':Nat->Int}(f:M0 W b j B')(k:∀h,h<W.length->B h<=B' h){h:Nat}(c:h<W.length)(a:h≠b)(i:j h-gN W B h<0):B h<B' h:=by
 refine Int.lt_iff_le_and_ne.mpr ⟨k h c,λe=>?_⟩;have m:=f.free h c a
 have n:gN W B h<=gN W B' h:=by
  have:0<=sN W.length (λg=>ent W h g*(B' g-B' h)+(-1)*(ent W h g*(B g-B h))):=Yk λg d=>by
   have l:ent W h g*(B' g-B' h)+(-1)*(ent W h g*(B g-B h))=ent W h g*(B' g-B g):=by rw[e,bR,cw,<-Int.sub_eq_add_neg,<-eD];congr 1;omega
   rw[l];exact cL (ok.lo h g c d) (by have:=k g d;omega)
  rw[Z3,ZA] at this;unfold gN;omega
 omega
structure R5(W:List (List Int))(b:Nat)(N:List Int)(F:List Nat):Prop where
 free:∀h,h<W.length->h≠b->0<=Zn N h
 burn:Burn W N b F
 stop:Xr W N F=none
 all:∀h,h<W.length->h∈F
theorem FQ{W:List (List Int)}{N:List Int}(ok:ZQ W)(O:W3 W){b:Nat}(X:b<W.length){j B R:Nat->Int}{d:Int}(P:0<d)(Z:R b=0)(H:∀h,h<W.length->0<=R h/\R h<d)(L:∀h,h<W.length->h≠b->gN W R h = - (d*j h))
  (Y:∀h,h<W.length->Zn N h=j h-gN W B h) (f:M0 W b j B) (k:∀B',M0 W b j B'->∀h,h<W.length->B h<=B' h) {F:List Nat} (A:Burn W N b F) (st:Xr W N F=none):∀h,h<W.length->h∈F:=by
 intro x v;refine bc λw=>?_;have G:=cI A.hd;obtain⟨T,m⟩:∃T:Nat->Int,∀h,T h=if h∈F then 0 else 1:=⟨_,λ_=>rfl⟩
 have D:T b=0:=by rw[m,kr G]
 have t:∀h,0<=T h/\T h<=1:=λh=>by rw[m];split<;>omega
 -- what the houses outside lend to those that burn
 have u:∀h,h<W.length->h∉F->gN W T h = - XG W h F:=λh c C=>by
  have I:gN W T h=(-1)*sN W.length (λg=>if g∈F then ent W h g else 0):=by
   rw[<-ZA];refine Zh λg s=>?_;rw[m,m];split
   ·rw[Int.zero_sub];omega
   ·simp
  have U:sN W.length (λg=>if g∈F then ent W h g else 0)=XG W h F:=by
   have gen:∀l:List Nat,l.Nodup->(∀x∈l,x<W.length)->sN W.length (λg=>if g∈l then ent W h g else 0)=(l.map λo=>ent W h o).sum:=by
    intro l
    induction l with
    | nil=>intro _ _;rw[Xc λi _=>by simp];rfl
    | cons a r ih=>
     intro y lt;rw[bN] at y;rw[dj,k4,<-ih y.2 λx v=>lt x (aT _ v)];have:ent W h a=sN W.length (λg=>if g=a then ent W h a else 0):=by rw[Z4 (lt a aZ) λi _ S=>ku S,kr rfl]
     rw[this,<-Z3];refine Zh λg s=>?_;by_cases q:g=a
     ·subst q;rw[kr aZ,ku y.1];omega
     ·by_cases p:g∈r
      ·rw[kr (aT _ p),kr p];omega
      ·rw[ku (λz=>(a9.mp z).elim q p),ku q,ku p];rfl
   exact gen F A.nd A.lt
  rw[I,U];omega
 have n:∀h,h<W.length->h∈F->0<=gN W T h:=λh c C=>Yk λg s=>by rw[show T h=0 by rw[m,kr C]];exact cL (ok.lo h g c s) (by have:=(t g).1;omega)
 have sub:∀h,gN W (λx=>B x+(-1)*T x) h=gN W B h-gN W T h:=λh=>by rw[Te,Wx];omega
 have free:∀h,h<W.length->h≠b->0<=j h-gN W (λx=>B x+(-1)*T x) h:=λh c e=>by
  rw[sub];by_cases q:h∈F
  ·have:=n h c q;have:=f.free h c e;omega
  ·have E:=u h c q;have M:=KD st c q;rw[Y h c] at M;omega
 have f2:M0 W b j (λx=>B x+(-1)*T x):=by
  refine⟨λh c=>?_,by show B b+(-1)*T b=0;rw[f.base,D];rfl,free⟩
  have up:=DK ok O X (λh c e _=>by
   rw[Te R (λx=>d*(B x+(-1)*T x)),Wx,L h c e];have:=free h c e;have Q:0<=d*(j h-gN W (λx=>B x+(-1)*T x) h):=cL (by omega) this;rw[eD] at Q;omega) h c
  rw[Z,f.base,D] at up;have:=(H h c).2;refine gk.mp λneg=>?_;have J:B h+(-1)*T h<=-1:=by omega
  have h5:d*(B h+(-1)*T h)<=d*(-1):=eH J (by omega);omega
 have E:=k _ f2 x v;rw[show T x=1 by rw[m,ku w]] at E;omega
theorem UD{W:List (List Int)}{D:List Int}{b:Nat}(ok:ZQ W)(cn:W3 W)(H:D.length=W.length)(E:b<W.length)(hD:∀h,h<W.length->(Zn D h).natAbs<=2^208) :
  ∃(S N:List Int) (F:List Nat),Yl [wP W,pP D,.int (b:Int)]=aA (.tup [pP (ZW S),pP N,.lst (iL (nL F))])/\S.length=W.length/\N=ZG W D S/\R5 W b N F:=by
 have hf:=ok.few;obtain⟨a,d,R,en,l0,d0,Rb,P,Rs,Rg⟩:=KO ok cn H E hD;obtain⟨u,w⟩:∃u:Nat->Int,∀h,u h=Zn D h+gN W (Zn a) h:=⟨_,λ_=>rfl⟩;obtain⟨Bs,fs⟩:=DN ok cn E u;have v:∀S:List Int,(ZG W D S).length=W.length:=λS=>by rw[Yd,H]
 let st:=λS n=>[aA (wP W),aA (pP D),aA (.int (b:Int)),aA (pP S),aA (pP (ZG W D S)),aA (.lst (iL (nL (Xv (ZG W D S) b)))),n];have r:∀(S:List Int)(B:Nat->Int),(∀h,h<W.length->Zn S h=Zn a h-B h)->∀h,h<W.length->Zn (ZG W D S) h=u h-gN W B h:=λS B e h j=>by rw[W7 (by omega),w,Ul (Z:=λx=>Zn a x+(-1)*B x) j (λg O=>by rw[e g O];omega),Te,Wx];omega
 let J:=λk s=>∃(S:List Int) (B:Nat->Int) (n:Option PV),s=st S n/\S.length=W.length/\(∀h,h<W.length->Zn S h=Zn a h-B h)/\(∀h,h<W.length->0<=B h)/\B b=0/\(∀B',M0 W b u B'->∀h,h<W.length->B h<=B' h)/\k=(sN W.length (λh=>Bs h-B h)).toNat;have j0:J (sN W.length (λh=>Bs h-0)).toNat (st a none):=⟨a,λ_=>0,none,rfl,l0,λh _=>by(show Zn a h=Zn a h-0);omega,λh _=>df 0,rfl,λB' f h j=>f.pos h j,rfl⟩
 obtain⟨s',k',w1,⟨S,B,n,rfl,lS,I,X,U,G,_⟩,w3⟩:=FP (c:=xB (Zi Li (Zc YF [Za 5]) (eC (.int 0)))) (fb:=(Zp (Zq 6 (Zc Xg [Za 0,Za 5]))
  (Zp (Zq 3 (Zc U1 [Za 3,Za 6]))
  (Zp (Zq 4 (Zc UO [Za 0,Za 4,Za 6]))
  (Zq 5 (Zc YV [Za 4,Za 2])))))) J (by
   rintro k s ⟨S,B,n,rfl,lS,I,X,U,G,rfl⟩;have M:xB (Zi Li (Zc YF [Za 5]) (eC (.int 0))) (st S n)=aA (decide ((0:Int)<((Xv (ZG W D S) b).length:Int))):=by show aA (decide ((0:Int)<((iL (nL (Xv (ZG W D S) b))).length:Int)))=_;simp[nL]
   by_cases q:Xv (ZG W D S) b=[]
   ·left;rw[M,q];rfl
   ·right;have ql:=dt.mpr q;refine⟨by rw[M,decide_eq_true (by omega)],?_⟩;generalize hL:Xv (ZG W D S) b=L at *;have p:∀h,h∈L↔h<W.length/\h≠b/\Zn (ZG W D S) h<0:=λh=>by rw[<-hL,FC,v]
    let m:=Ks S (W6 W.length L);have lb:(W6 W.length L).length=W.length:=by simp[W6]
    have Q:m.length=W.length:=by rw[Fu];exact lS
    have Y:Zq 6 (Zc Xg [Za 0,Za 5]) [aA (wP W),aA (pP D),aA (.int (b:Int)),aA (pP S),aA (pP (ZG W D S)),aA (.lst (iL (nL L))),n]=aA (.nx [aA (wP W),aA (pP D),aA (.int (b:Int)),aA (pP S),aA (pP (ZG W D S)),aA (.lst (iL (nL L))),aA (pP (W6 W.length L))]):=by have:Zc Xg [Za 0,Za 5] [aA (wP W),aA (pP D),aA (.int (b:Int)),aA (pP S),aA (pP (ZG W D S)),aA (.lst (iL (nL L))),n]=aA (pP (W6 W.length L)):=NW hf;rw[Yp,this];rfl
    have e2:Zq 3 (Zc U1 [Za 3,Za 6]) [aA (wP W),aA (pP D),aA (.int (b:Int)),aA (pP S),aA (pP (ZG W D S)),aA (.lst (iL (nL L))),aA (pP (W6 W.length L))]=aA (.nx [aA (wP W),aA (pP D),aA (.int (b:Int)),aA (pP m),aA (pP (ZG W D S)),aA (.lst (iL (nL L))),aA (pP (W6 W.length L))]):=by have:Zc U1 [Za 3,Za 6] [aA (wP W),aA (pP D),aA (.int (b:Int)),aA (pP S),aA (pP (ZG W D S)),aA (.lst (iL (nL L))),aA (pP (W6 W.length L))]=aA (pP m):=Dw (by omega) (by omega);rw[Yp,this];rfl
    have rr:ZG W (ZG W D S) (W6 W.length L)=ZG W D m:=JB H λi hi=>MQ (by omega)
    have e3:Zq 4 (Zc UO [Za 0,Za 4,Za 6]) [aA (wP W),aA (pP D),aA (.int (b:Int)),aA (pP m),aA (pP (ZG W D S)),aA (.lst (iL (nL L))),aA (pP (W6 W.length L))]=aA (.nx [aA (wP W),aA (pP D),aA (.int (b:Int)),aA (pP m),aA (pP (ZG W D m)),aA (.lst (iL (nL L))),aA (pP (W6 W.length L))]):=by
     have:Zc UO [Za 0,Za 4,Za 6] [aA (wP W),aA (pP D),aA (.int (b:Int)),aA (pP m),aA (pP (ZG W D S)),aA (.lst (iL (nL L))),aA (pP (W6 W.length L))]=aA (pP (ZG W D m)):=by rw[<-rr];exact Fo ok (v S) lb
     rw[Yp,this];rfl
    have e4:Zq 5 (Zc YV [Za 4,Za 2]) [aA (wP W),aA (pP D),aA (.int (b:Int)),aA (pP m),aA (pP (ZG W D m)),aA (.lst (iL (nL L))),aA (pP (W6 W.length L))]=aA (.nx (st m (aA (pP (W6 W.length L))))):=by have:Zc YV [Za 4,Za 2] [aA (wP W),aA (pP D),aA (.int (b:Int)),aA (pP m),aA (pP (ZG W D m)),aA (.lst (iL (nL L))),aA (pP (W6 W.length L))]=aA (.lst (iL (nL (Xv (ZG W D m) b)))):=Pe (by rw[v];omega);rw[Yp,this];rfl
    obtain⟨B',o⟩:∃B':Nat->Int,∀h,B' h=B h+(if h∈L then 1 else 0):=⟨_,λ_=>rfl⟩
    have less:∀C,M0 W b u C->∀h,h<W.length->B' h<=C h:=λC T h j=>by
     rw[o];by_cases z:h∈L
     ·rw[kr z];obtain⟨_,z2,z3⟩:=(p h).mp z;rw[r S B I h j] at z3;have:=Hj ok T (λg O=>G C T g O) j z2 z3;omega
     ·rw[ku z];have:=G C T h j;omega
    refine⟨st m (aA (pP (W6 W.length L))),(sN W.length (λh=>Bs h-B' h)).toNat,?_,?_,m,B',_,rfl,Q,λh j=>?_,λh j=>?_,?_,less,rfl⟩
    ·show Zp _ _ [aA (wP W),aA (pP D),aA (.int (b:Int)),aA (pP S),aA (pP (ZG W D S)),aA (.lst (iL (nL (Xv (ZG W D S) b)))),n]=_;rw[hL,Yr Y,Yr e2,Yr e3,e4]
    ·have p1:0<=sN W.length (λh=>Bs h-B' h):=Yk λh j=>by have:=less Bs fs h j;omega
     have p2:sN W.length (λh=>Bs h-B h)=sN W.length (λh=>Bs h-B' h)+sN W.length (λh=>if h∈L then 1 else 0):=by
      rw[<-Z3];exact Zh λh _=>by rw[o];omega
     have p3:0<sN W.length (λh=>if h∈L then(1:Int) else 0):=by refine Int.not_le.mp λz=>?_;obtain⟨x,hx⟩:=List.exists_mem_of_length_pos ql;have:=Uk (λi _=>by split<;>omega) z x ((p x).mp hx).1;rw[kr hx] at this;omega
     omega
    ·rw[MQ (by omega),DM j,I h j,o];split<;>omega
    ·have:=X h j;rw[o];split<;>omega
    ·rw[o,ku (λz=>((p b).mp z).2.1 rfl),U];rfl) j0
 have y:Xv (ZG W D S) b=[]:=by
  refine bc λq=>?_;have ql:=dt.mpr q;have M:xB (Zi Li (Zc YF [Za 5]) (eC (.int 0))) (st S n)=aA (decide ((0:Int)<((Xv (ZG W D S) b).length:Int))):=by show aA (decide ((0:Int)<((iL (nL (Xv (ZG W D S) b))).length:Int)))=_;simp[nL]
  rw[M,decide_eq_true (by omega)] at w3;cases w3
 have free:=debt_nil.mp y;rw[v] at free;have nr:=r S B I;have fB:M0 W b u B:=⟨X,U,λh j t=>by rw[<-nr h j];exact free h j t⟩;obtain⟨F,eF,Bu,A⟩:=FA ok (v S) E
 -- what the rounding left
 have all:=FQ ok cn E (R:=λh=>R h+(- d)*Zn a h) d0 (by show R b+(- d)*Zn a b=0;rw[Rb,P,b5];rfl)
  (λh j=>by
   have:=Rs h j;rw[bR];omega)
  (λh j t=>by rw[Te R (λx=>(- d)*Zn a x),Wx,Rg h j t,w,fS,bR];omega) nr fB G Bu A
 refine⟨S,ZG W D S,F,?_,lS,rfl,free,Bu,A,all⟩;have Y:Zq 3 (Zc Wk [Za 0,Za 1,Za 2]) [aA (wP W),aA (pP D),aA (.int (b:Int)),none,none,none,none]=aA (.nx [aA (wP W),aA (pP D),aA (.int (b:Int)),aA (pP a),none,none,none]):=by have:Zc Wk [Za 0,Za 1,Za 2] [aA (wP W),aA (pP D),aA (.int (b:Int)),none,none,none,none]=aA (pP a):=en;rw[Yp,this];rfl
 have e2:Zq 4 (Zc UO [Za 0,Za 1,Za 3]) [aA (wP W),aA (pP D),aA (.int (b:Int)),aA (pP a),none,none,none]=aA (.nx [aA (wP W),aA (pP D),aA (.int (b:Int)),aA (pP a),aA (pP (ZG W D a)),none,none]):=by have:Zc UO [Za 0,Za 1,Za 3] [aA (wP W),aA (pP D),aA (.int (b:Int)),aA (pP a),none,none,none]=aA (pP (ZG W D a)):=Fo ok H l0;rw[Yp,this];rfl
 have e3:Zq 5 (Zc YV [Za 4,Za 2]) [aA (wP W),aA (pP D),aA (.int (b:Int)),aA (pP a),aA (pP (ZG W D a)),none,none]=aA (.nx (st a none)):=by have:Zc YV [Za 4,Za 2] [aA (wP W),aA (pP D),aA (.int (b:Int)),aA (pP a),aA (pP (ZG W D a)),none,none]=aA (.lst (iL (nL (Xv (ZG W D a) b)))):=Pe (by rw[v];omega);rw[Yp,this];rfl
 show(Zp _ _ [aA (wP W),aA (pP D),aA (.int (b:Int)),none,none,none,none]).bind V3=_;rw[Yr Y,Yr e2,Yr e3,Yr w1];have g1:Zc Vw [Za 3] (st S n)=aA (pP (ZW S)):=Pk (by omega) (by omega);have g2:eP (Za 4) (st S n)=aA (pP (ZG W D S)):=by show(aA (pP (ZG W D S))).bind (λl=>if Yb l=aC then aA l else none)=_;simp
 have g3:Zc RQ [Za 0,Za 4,Za 2] (st S n)=aA (.lst (iL (nL F))):=eF;rw[SU (by rw[Mw,ZD,ZD,ZD,g1,g2,g3];rfl)];rfl
theorem M1{W:List (List Int)}{D S:List Int}{X Y:PV}(ok:ZQ W)(L:D.length=W.length)(v:∀k:Nat,k<W.length->ZM X (.int (k:Int))=aA (.int (Zn D k)))(t:∀k:Nat,k<W.length->ZM Y (.int (k:Int))=aA (.int (Zn S k))) :
  Ux [wP W,X,Y]=aA (pP (ZG W D S)):=by
 have N:=ok.few
 let fb:XS:=(Zp (Zq 5 (eP (Zc VZ [Zr 1 [0,4,2] (ZT [Zc YF [Za 0]]) (.one 0) Zy (Zi UH (Zi ZM (Zi ZM (Za 1) (Za 2)) (Za 0)) (Zi XN (Zi ZM (Za 3) (Za 2)) (Zi ZM (Za 3) (Za 0))))])))
  (WE 3 (eP (Zi XN (Zi ZM (Za 1) (Za 4)) (Za 5)))))
 obtain⟨J,f1,h,a,u⟩:=Wn (T:=.one 4) (fb:=fb) (ls:=Tr W.length) (s:=[aA (wP W),aA X,aA Y,aA (.lst (iL [])),none,none])
  (λi st=>∃h a,st=[aA (wP W),aA X,aA Y,aA (.lst (iL ((ZG W D S).take i))),h,a]) ⟨none,none,by simp⟩ (by
   rintro k l st E ⟨h,a,rfl⟩;obtain⟨c,rfl⟩:=V5 E
   have H:Zr 1 [0,4,2] (ZT [Zc YF [Za 0]]) (.one 0) Zy (Zi UH (Zi ZM (Zi ZM (Za 1) (Za 2)) (Za 0)) (Zi XN (Zi ZM (Za 3) (Za 2)) (Zi ZM (Za 3) (Za 0)))) [aA (wP W),aA X,aA Y,aA (.lst (iL ((ZG W D S).take k))),aA (.int (k:Int)),a]=aA (.lst (iL ((aE W.length).map λj=>ent W k j*(Zn S k-Zn S j)))):=by
    refine XC (λj=>ent W k j*(Zn S k-Zn S j)) (Z6 (n:=W.length) (by simp) (by omega)) (by omega) λj p=>⟨[aA (.int (j:Int)),aA (wP W),aA (.int (k:Int)),aA Y],rfl,rfl,?_⟩;have x:Zi ZM (Zi ZM (Za 1) (Za 2)) (Za 0) [aA (.int (j:Int)),aA (wP W),aA (.int (k:Int)),aA Y]=aA (.int (ent W k j)):=by have A:=Us (W:=W) c;have I:=Y1 (l:=ZK W k) (k:=j) (by rw[ok.sq k c];exact p);have w:Zi ZM (Za 1) (Za 2) [aA (.int (j:Int)),aA (wP W),aA (.int (k:Int)),aA Y]=aA (pP (ZK W k)):=A;rw[Tv,w];exact I
    have y:Zi ZM (Za 3) (Za 2) [aA (.int (j:Int)),aA (wP W),aA (.int (k:Int)),aA Y]=aA (.int (Zn S k)):=t k c;have G:Zi ZM (Za 3) (Za 0) [aA (.int (j:Int)),aA (wP W),aA (.int (k:Int)),aA Y]=aA (.int (Zn S j)):=t j p;have lo:=ok.lo k j c p;have M:=ok.hi k j c p;exact vC (C:=CMul) (op:=(· * ·)) x (vI y G) (LV (by omega) (by omega))
   have b:Zc VZ [Zr 1 [0,4,2] (ZT [Zc YF [Za 0]]) (.one 0) Zy (Zi UH (Zi ZM (Zi ZM (Za 1) (Za 2)) (Za 0)) (Zi XN (Zi ZM (Za 3) (Za 2)) (Zi ZM (Za 3) (Za 0))))] [aA (wP W),aA X,aA Y,aA (.lst (iL ((ZG W D S).take k))),aA (.int (k:Int)),a]=aA (.int (((aE W.length).map λj=>ent W k j*(Zn S k-Zn S j)).sum)):=by simp only[YH,ZD,Jp,H,aV,dM];exact Qy _
   generalize B:((aE W.length).map λj=>ent W k j*(Zn S k-Zn S j)).sum=o at b
   have d:Zn D k-o=Zn (ZG W D S) k:=by
    rw[Wt (by omega),<-B,Xd,JO];unfold gN
    have:sN W.length (λj=>ent W k j*(Zn S k-Zn S j))=(-1)*sN W.length (λg=>ent W k g*(Zn S g-Zn S k)):=by
     rw[<-ZA];exact Zh λj _=>by rw[cG];congr 1;omega
    rw[this];omega
   have q:Zq 5 (eP (Zc VZ [Zr 1 [0,4,2] (ZT [Zc YF [Za 0]]) (.one 0) Zy (Zi UH (Zi ZM (Zi ZM (Za 1) (Za 2)) (Za 0)) (Zi XN (Zi ZM (Za 3) (Za 2)) (Zi ZM (Za 3) (Za 0))))])) [aA (wP W),aA X,aA Y,aA (.lst (iL ((ZG W D S).take k))),aA (.int (k:Int)),a]=aA (.nx [aA (wP W),aA X,aA Y,aA (.lst (iL ((ZG W D S).take k))),aA (.int (k:Int)),aA (.int o)]):=by rw[Yp,vP b];rfl
   have r:Zi ZM (Za 1) (Za 4) [aA (wP W),aA X,aA Y,aA (.lst (iL ((ZG W D S).take k))),aA (.int (k:Int)),aA (.int o)]=aA (.int (Zn D k)):=v k c;have e:=vP (vI (op:=(· - ·)) r (show(Za 5:XE) [aA (wP W),aA X,aA Y,aA (.lst (iL ((ZG W D S).take k))),aA (.int (k:Int)),aA (.int o)]=aA (.int o) from rfl));rw[d] at e;refine⟨_,_,rfl,?_,aA (.int (k:Int)),aA (.int o),rfl⟩;show Zp _ _ [aA (wP W),aA X,aA Y,aA (.lst (iL ((ZG W D S).take k))),aA (.int (k:Int)),a]=_;rw[Yr q,QB (m:=iL ((ZG W D S).take k)) (l:=.int (Zn (ZG W D S) k)) e rfl (by simp;omega)];have f:k<(ZG W D S).length:=by rw[Yd];omega
   have:(ZG W D S).take (k+1)=(ZG W D S).take k++[Zn (ZG W D S) k]:=by rw[fj f];simp[Zn,aG,aI f]
   rw[this];simp)
 subst u;rw[Tz,b0 (by rw[Yd];omega)] at f1;have q:Zq 3 (T8 []) [aA (wP W),aA X,aA Y,none,none,none]=aA (.nx [aA (wP W),aA X,aA Y,aA (.lst (iL [])),none,none]):=rfl;have F:Xn [3] (ZT [Zc YF [Za 0]]) (.one 4) fb [aA (wP W),aA X,aA Y,aA (.lst (iL [])),none,none]=aA (.nx [aA (wP W),aA X,aA Y,aA (.lst (iL (ZG W D S))),h,a]):=by show(ZT [Zc YF [Za 0]] (YB [3] [aA (wP W),aA X,aA Y,aA (.lst (iL [])),none,none])).bind _=_;rw[Z6 (n:=W.length) (by simp[YB]) (by omega)];exact f1
 show Yz 6 Nh _=_;unfold Nh;show(Zp _ _ [aA (wP W),aA X,aA Y,none,none,none]).bind V3=_;rw[Yr q,Yr F];generalize ZG W D S=z;simp
theorem FR{n:Nat}{l:List Int}(h:l.length=n):∀k:Nat,k<n->ZM (pP l) (.int (k:Int))=aA (.int (Zn l k)):=λk a=>Y1 (by omega)
theorem Zap{n:Nat}{l:List Int}(h:l.length=n):∀k:Nat,k<n->ZM (.lst (iL l)) (.int (k:Int))=aA (.int (Zn l k)):=λk a=>Y1 (by omega)
theorem M3{l:List Int}{n:Nat}(h:l.length=n)(a:n<=1000):RS [pP l,.int (n:Int)]=aA (.bl aC):=by subst h;exact Fp a
theorem DO(Y:Nat->Int){n:Nat}(h:0<n):∃h,h<n/\∀g,g<n->Y g<=Y h:=by obtain⟨x,b,c⟩:=Ph (λi=>- Y i) h;exact⟨x,b,λg a=>by have:=c g a;omega⟩
theorem DP{W:List (List Int)}(ok:ZQ W){h:Nat}(k:h<W.length){P:Nat->Prop}[DecidablePred P]:∀{l:List Nat},l.Nodup->(∀x∈l,x<W.length/\¬P x)->XG W h l<=sN W.length (λg=>if P g then 0 else ent W h g):=by
 intro l b f
 have gen:∀l:List Nat,l.Nodup->(∀x∈l,x<W.length)->sN W.length (λg=>if g∈l then ent W h g else 0)=(l.map λo=>ent W h o).sum:=by
  intro l
  induction l with
  | nil=>intro _ _;rw[Xc λi _=>by simp];rfl
  | cons a r ih=>
   intro b lt;rw[bN] at b;rw[dj,k4,<-ih b.2 λx d=>lt x (aT _ d)];have:ent W h a=sN W.length (λg=>if g=a then ent W h a else 0):=by rw[Z4 (lt a aZ) λi _ j=>ku j,kr rfl]
   rw[this,<-Z3];refine Zh λg e=>?_;by_cases q:g=a
   ·subst q;rw[kr aZ,ku b.1];omega
   ·by_cases c:g∈r
    ·rw[kr (aT _ c),kr c];omega
    ·rw[ku (λz=>(a9.mp z).elim q c),ku q,ku c];rfl
 unfold XG;rw[<-gen l b λx d=>(f x d).1]
 have:0<=sN W.length (λg=>(if P g then 0 else ent W h g)+(-1)*(if g∈l then ent W h g else 0)):=Yk λg e=>by
  have:=ok.lo h g k e;by_cases q:g∈l
  ·rw[ku (f g q).2];omega
  ·rw[ku q];split<;>omega
 rw[Z3,ZA] at this;omega
theorem JQ{W:List (List Int)}{N M:List Int}{b:Nat}{F:List Nat}(ok:ZQ W)(R:b<W.length){T:Nat->Int}(B:Burn W N b F)(all:∀h,h<W.length->h∈F)(L:∀h,h<W.length->Zn M h=Zn N h+gN W T h)(fr:∀h,h<W.length->h≠b->0<=Zn M h):∀h,h<W.length->T h<=T b:=by
 intro x A;refine gk.mp λD=>?_;obtain⟨m,w,r⟩:=DO T (n:=W.length) (by omega);have v:T b<T m:=by have:=r x A;omega
 -- the first of the greatest that burns
 have J:∀k:Nat,(∃j,j<k/\∃h,F[j]?=aA h/\T h=T m)\/∀j,j<k->∀h,F[j]?=aA h->T h≠T m:=by
  intro k;by_cases q:∃j,j<k/\∃h,F[j]?=aA h/\T h=T m
  ·exact .inl q
  ·exact .inr λj c h a e=>q ⟨j,c,h,a,e⟩
 have first:∀k:Nat,(∃h,F[k]?=aA h/\T h=T m)->∃k h:Nat,F[k]?=aA h/\T h=T m/\∀j,j<k->∀h,F[j]?=aA h->T h≠T m:=by
  intro k
  induction k using kH with
  | ind k ih=>
   rintro⟨h,e,t⟩;rcases J k with⟨j,c,q⟩ | q
   ·exact ih j c q
   ·exact⟨k,h,e,t,q⟩
 obtain⟨C,l,E⟩:=fH (all m w);obtain⟨k,h,i,s,d⟩:=first C ⟨m,by rw[aI l,E],rfl⟩
 have G:1<=k:=by
  refine gG.mp λq=>?_;have:k=0:=by omega
  subst this;rw[B.hd] at i;cases i;omega
 have H:=(aU.mp i).1;have a:=B.lt h (cI i);have st:=B.st k G H;rw[i] at st;obtain⟨_,_,lt⟩:=Pd st;have o:h≠b:=λz=>by rw[z] at s;omega
 have I:(F.take k).Nodup:=B.nd.sublist (jf _ _);have O:=DP ok a I λy u=>by refine⟨B.lt y (gO u),λz=>?_⟩;obtain⟨j,c,e⟩:=fH u;rw[bK] at c;exact d j (by omega) y (by rw[<-di (show j<k by omega),aI (by rw[bK];exact c),e]) z
 have Q:gN W T h<=- sN W.length (λg=>if T g=T m then 0 else ent W h g):=by
  have:0<=sN W.length (λg=>(-1)*(if T g=T m then 0 else ent W h g)+(-1)*(ent W h g*(T g-T h))):=Yk λg p=>by
   have lo:=ok.lo h g a p;have P:=r g p;rw[s];by_cases q:T g=T m
   ·rw[q];simp
   ·rw[ku q];have:0<=ent W h g*(T m-T g-1):=cL lo (by omega);have e:ent W h g*(T m-T g-1)=(-1)*ent W h g+(-1)*(ent W h g*(T g-T m)):=by rw[eD,eD,eD];omega
    omega
  rw[Z3,ZA,ZA] at this;unfold gN;omega
 have f:=fr h a o;rw[L h a] at f;omega
theorem M4{W:List (List Int)}{N M:List Int}{b:Nat}{F G:List Nat}(ok:ZQ W)(a:b<W.length){T:Nat->Int}(s1:R5 W b N F)(s2:R5 W b M G)(c:∀h,h<W.length->Zn M h=Zn N h+gN W T h):∀h,h<W.length->T h=T b:=by intro h d;have f:=JQ ok a s1.burn s1.all c s2.free h d;have g:=JQ (T:=λx=>(-1)*T x) ok a s2.burn s2.all (λx e=>by rw[c x e,Wx];omega) s1.free h d;omega
theorem M5{W:List (List Int)}{T:Nat->Int}{c:Int}(e:∀h,h<W.length->T h=c){h:Nat}(b:h<W.length):gN W T h=0:=Xc λg a=>by rw[e g a,e h b];simp
theorem Hk{W:List (List Int)}{D S N:List Int}{b:Nat}{F:List Nat}(ok:ZQ W)(r:W3 W)(k:D.length=W.length)(p:b<W.length)(t:∀h,h<W.length->(Zn D h).natAbs<=2^208)
  (E:S.length=W.length) (q:N=ZG W D S) (st:R5 W b N F):Yl [wP W,pP D,.int (b:Int)]=aA (.tup [pP (ZW S),pP N,.lst (iL (nL F))]):=by
 obtain⟨g,j,u,e,v,d,a⟩:=UD ok r k p t;have A:N.length=W.length:=by rw[q,Yd,k]
 have w:j.length=W.length:=by rw[d,Yd,k]
 have f:∀h,h<W.length->Zn N h=Zn j h+gN W (λx=>Zn S x+(-1)*Zn g x) h:=λh B=>by rw[q,d,W7 (by omega),W7 (by omega),Te (Zn S) (λx=>(-1)*Zn g x),Wx];omega
 have o:=M4 ok p a st f;obtain⟨c,C⟩:∃c,c=Zn S b+(-1)*Zn g b:=⟨_,rfl⟩;have m:N=j:=WI (by omega) λi y=>by rw[f i (by omega),M5 o (by omega)];omega
 have z:ZW S=ZW g:=Rl c (by omega) (by omega) λi y=>by have:=o i (by omega);omega
 have s:F=u:=by have l:=st.burn;have n:=st.stop;rw[m] at l n;exact Burn.uniq l a.burn n a.stop
 rw[e,z,m,s]
theorem NX{f:Nat->Int}{M:Nat}:∀{n:Nat},(∀i,i<n->(f i).natAbs<=M)->(sN n f).natAbs<=n*M
 | 0,_=>by show(0:Int).natAbs<=_;simp
 | n+1,h=>by have a:=NX (n:=n) λi b=>h i (by omega);have c:=h n (by omega);show(sN n f+f n).natAbs<=_;rw[jE,jF];omega
theorem Um(l:List Int):l.sum=sN l.length (Zn l):=by rw[<-Xd,OP]
end PW
namespace PM
open PW
noncomputable def mul(m:Nat)(A B:Mt):Mt:=λi j=>sN m λk=>A i k*B k j
noncomputable def one:Mt:=λi j=>if i=j then 1 else 0
noncomputable def EqM(m:Nat)(A B:Mt):Prop:=∀i j,i<m->j<m->A i j=B i j
theorem DQ(c:Int)(f:Nat->Int)(n:Nat):sN n (λi=>f i*c)=sN n f*c:=by rw[bG,<-ZA];exact Zh λi _=>bG _ _
theorem XW(m:Nat)(A B C:Mt)(i j:Nat):mul m (mul m A B) C i j=mul m A (mul m B C) i j:=by show sN m (λk=>sN m (λl=>A i l*B l k)*C k j)=sN m (λl=>A i l*sN m (λk=>B l k*C k j));rw[Zh (g:=λk=>sN m (λl=>A i l*B l k*C k j)) λk _=>(DQ _ _ _).symm];rw[TM (λk l=>A i l*B l k*C k j)];refine Zh λl _=>?_;rw[<-ZA];exact Zh λk _=>bZ _ _ _
theorem mul_one{m:Nat}{A:Mt}{i j:Nat}(a:j<m):mul m A one i j=A i j:=by
 show sN m (λk=>A i k*one k j)=_;rw[Z4 a]
 ·unfold one;rw[kr rfl,gJ]
 ·intro k _ h;unfold one;rw[ku h,b5]
theorem one_mul{m:Nat}{A:Mt}{i j:Nat}(a:i<m):mul m one A i j=A i j:=by
 show sN m (λk=>one i k*A k j)=_;rw[Z4 a]
 ·unfold one;rw[kr rfl,cw]
 ·intro k _ h;unfold one;rw[ku (λz=>h z.symm),bp]
theorem ZF{m:Nat}{A A' B B':Mt}{i j:Nat}(h:∀k,k<m->A i k=A' i k)(b:∀k,k<m->B k j=B' k j):mul m A B i j=mul m A' B' i j:=Zh λk a=>by rw[h k a,b k a]
theorem EqM.mulL{m:Nat}{A A' B:Mt}(h:EqM m A A'):EqM m (mul m A B) (mul m A' B):=λi j b c=>ZF (λk a=>h i k b a) λ_ _=>rfl
theorem EqM.mulR{m:Nat}{A B B':Mt}(h:EqM m B B'):EqM m (mul m A B) (mul m A B'):=λi j c b=>ZF (λ_ _=>rfl) λk a=>h k j a b
theorem EqM.trans{m:Nat}{A B C:Mt}(h:EqM m A B)(c:EqM m B C):EqM m A C:=λi j b a=>(h i j b a).trans (c i j b a)
noncomputable def tr(A:Mt):Mt:=λi j=>A j i
theorem S4(m:Nat)(A B:Mt)(i j:Nat):tr (mul m A B) i j=mul m (tr B) (tr A) i j:=Zh λk _=>bG _ _
theorem R6{m:Nat}{A A' B B':Mt}(h:EqM m (mul m A A') one)(b:EqM m (mul m B B') one):EqM m (mul m (mul m A B) (mul m B' A')) one:=λi j d c=>by
 rw[XW];have e:mul m A (mul m B (mul m B' A')) i j=mul m A A' i j:=ZF (λ_ _=>rfl) λk a=>by rw[<-XW,ZF (A':=one) (B':=A') (λl f=>b k l a f) (λ_ _=>rfl),one_mul a]
 rw[e];exact h i j d c
structure RT(m p:Nat)(E E':Mt):Prop where
 ex:∃U V:Mt,EqM m (mul m U V) one/\EqM m (mul m V U) one/\(∀i j,i<m->E' i j=mul m U E i j)/\(∀i k,p<=i->i<m->k<p->U i k=0/\V i k=0)
 up:∀i j,i<p->E' i j=E i j
 low:∀i j,m<=i->E' i j=E i j
theorem RT.refl{m p:Nat}{E:Mt}:RT m p E E:=⟨⟨one,one,λi j b a=>mul_one a,λi j b a=>mul_one a,λi j b=>(one_mul b).symm,λi k c e d=>by unfold one;rw[ku (by omega)];exact⟨rfl,rfl⟩⟩,λ_ _ _=>rfl,λ_ _ _=>rfl⟩
theorem JR{m p:Nat}{U a:Mt}(g:p<=m)(h:∀i k,p<=i->i<m->k<p->U i k=0)(e:∀i k,p<=i->i<m->k<p->a i k=0):∀i k,p<=i->i<m->k<p->mul m U a i k=0:=λi k c f d=>Xc λl b=>by
 by_cases q:l<p
 ·rw[h i l c f q,bp]
 ·rw[e l k (by omega) b d,b5]
theorem RT.trans{m p:Nat}{E e b:Mt}(c:p<=m)(h:RT m p E e)(d:RT m p e b):RT m p E b:=by obtain⟨U,V,r,w,B,f⟩:=h.ex;obtain⟨t,s,q,v,u,g⟩:=d.ex;refine⟨⟨mul m t U,mul m V s,R6 q r,R6 w v,λi j a=>?_,λi k n o l=>⟨JR c (λi k x y z=>(g i k x y z).1) (λi k x y z=>(f i k x y z).1) i k n o l,JR c (λi k x y z=>(f i k x y z).2) (λi k x y z=>(g i k x y z).2) i k n o l⟩⟩,λi j a=>(d.up i j a).trans (h.up i j a),λi j a=>(d.low i j a).trans (h.low i j a)⟩;rw[u i j a,XW];exact ZF (λ_ _=>rfl) λk A=>B k j A
theorem RT.back{m p:Nat}{E c:Mt}(h:RT m p E c):RT m p c E:=by obtain⟨U,V,n,g,o,d⟩:=h.ex;refine⟨⟨V,U,g,n,λi j a=>?_,λi k f l e=>⟨(d i k f l e).2,(d i k f l e).1⟩⟩,λi j a=>(h.up i j a).symm,λi j a=>(h.low i j a).symm⟩;rw[ZF (A':=V) (B':=mul m U E) (λ_ _=>rfl) (λk b=>o k j b),<-XW,ZF (A':=one) (B':=E) (λk b=>g i k a b) (λ_ _=>rfl),one_mul a]
theorem KP{c:Int}{f:Nat->Int}:∀{n:Nat},(∀i,i<n->c∣f i)->c∣sN n f
 | 0,_=>cU c
 | n+1,h=>Int.dvd_add (KP λi a=>h i (by omega)) (h n (by omega))
theorem RT.dvd{m p:Nat}{E a:Mt}(h:RT m p E a){c:Int}{j:Nat}(g:∀i,p<=i->i<m->c∣E i j):∀i,p<=i->i<m->c∣a i j:=λi e b=>by
 obtain⟨U,V,n,o,l,d⟩:=h.ex;rw[l i j b];refine KP λk f=>?_;by_cases q:k<p
 ·rw[(d i k e b q).1,bp];exact cU c
 ·exact iE (g k (by omega) f)
theorem RT.sub{m p a b:Nat}{q:Int}{E:Mt}(G:p<=a)(v:a<m)(H:p<=b)(o:b<m)(ne:a≠b):RT m p E (λi j=>if i=a then E i j-q*E b j else E i j):=by
 have f:∀(c:Int)(i:Nat)(F:Mt)(j:Nat),i<m->mul m (λi k=>one i k+(if i=a/\k=b then c else 0)) F i j=F i j+(if i=a then c*F b j else 0):=λc i F j e=>by
  show sN m (λk=>(one i k+(if i=a/\k=b then c else 0))*F k j)=_;rw[Zh (g:=λk=>one i k*F k j+(if i=a/\k=b then c else 0)*F k j) λk _=>iu _ _ _,Z3];have n:sN m (λk=>one i k*F k j)=F i j:=one_mul (A:=F) e;rw[n];congr 1;by_cases z:i=a
  ·rw[kr z,Z4 o]
   ·rw[kr ⟨z,rfl⟩]
   ·intro k _ u;rw[ku (λw=>u w.2),bp]
  ·rw[ku z];exact Xc λk _=>by rw[ku (λw=>z w.1),bp]
 have l:∀(c d:Int)(i j:Nat),c = - d->(one i j+(if i=a/\j=b then d else 0))+(if i=a then c*(one b j+(if b=a/\j=b then d else 0)) else 0)=one i j:=λc d i j h=>by
  have s:=aw ne;by_cases z:i=a
  ·simp only[z,true_and,if_true,s,false_and,if_false,f9];by_cases w:j=b
   ·subst w;simp[one];omega
   ·have r:¬b=j:=λx=>w x.symm;simp[one,w,r]
  ·simp[z]
 refine⟨⟨λi k=>one i k+(if i=a/\k=b then -q else 0),λi k=>one i k+(if i=a/\k=b then q else 0),λi j e y=>?_,λi j e y=>?_,λi j e=>?_,λi k D B C=>?_⟩,λi j e=>?_,λi j e=>?_⟩
 ·exact(f _ i _ j e).trans (l (-q) q i j (by omega))
 ·exact(f _ i _ j e).trans (l q (-q) i j (by omega))
 ·rw[f _ i _ j e];by_cases z:i=a
  ·rw[kr z,kr z,bR];omega
  ·rw[ku z,ku z];omega
 ·have n:¬i=k:=by omega
  have t:¬k=b:=by omega
  simp[one,n,t]
 ·show(if i=a then _ else _)=_;rw[ku (by omega)]
 ·show(if i=a then _ else _)=_;rw[ku (by omega)]
noncomputable def sw(a b i:Nat):Nat:=if i=a then b else if i=b then a else i
theorem Zaq(a b i:Nat):sw a b (sw a b i)=i:=by unfold sw;split<;>(try split)<;>(try split)<;>omega
theorem sw_lt{a b i m:Nat}(e:a<m)(c:b<m)(d:i<m):sw a b i<m:=by unfold sw;split<;>(try split)<;>omega
theorem RT.swap{m p a b:Nat}{E:Mt}(l:p<=a)(f:a<m)(n:p<=b)(e:b<m):RT m p E (λi j=>E (sw a b i) j):=by
 have d:∀(F:Mt)(i j:Nat),i<m->mul m (λi k=>one (sw a b i) k) F i j=F (sw a b i) j:=λF i j c=>one_mul (A:=F) (sw_lt f e c);have inv:EqM m (mul m (λi k=>one (sw a b i) k) (λi k=>one (sw a b i) k)) one:=λi j c o=>by rw[d _ i j c,Zaq]
 refine⟨⟨_,_,inv,inv,λi j c=>(d E i j c).symm,λi k h q g=>?_⟩,λi j c=>?_,λi j c=>?_⟩
 ·have:one (sw a b i) k=0:=by
   unfold one sw;rw[ku];split<;>(try split)<;>omega
  exact⟨this,this⟩
 ·show E (sw a b i) j=_;unfold sw;rw[ku (by omega),ku (by omega)]
 ·show E (sw a b i) j=_;unfold sw;rw[ku (by omega),ku (by omega)]
theorem RT.neg{m p a:Nat}{E:Mt}(l:p<=a)(d:a<m):RT m p E (λi j=>if i=a then-E i j else E i j):=by
 have c:∀(F:Mt)(i j:Nat),i<m->mul m (λi k=>if i=a then-one i k else one i k) F i j=if i=a then-F i j else F i j:=λF i j b=>by
  have e:sN m (λk=>one i k*F k j)=F i j:=one_mul (A:=F) b;by_cases z:i=a
  ·show sN m (λk=>(if i=a then-one i k else one i k)*F k j)=_;rw[kr z,<-e,Zh (g:=λk=>(-1)*(one i k*F k j)) λk _=>by rw[kr z,bR];omega,ZA];omega
  ·show sN m (λk=>(if i=a then-one i k else one i k)*F k j)=_;rw[ku z,<-e];exact Zh λk _=>by rw[ku z]
 have inv:EqM m (mul m (λi k=>if i=a then-one i k else one i k) (λi k=>if i=a then-one i k else one i k)) one:=λi j b n=>by
  rw[c _ i j b];split
  ·omega
  ·rfl
 refine⟨⟨_,_,inv,inv,λi j b=>(c E i j b).symm,λi k h o f=>?_⟩,λi j b=>?_,λi j b=>?_⟩
 ·have:one i k=0:=by unfold one;rw[ku (by omega)]
  simp only[this];split<;>exact⟨rfl,rfl⟩
 ·show(if i=a then _ else _)=_;rw[ku (by omega)]
 ·show(if i=a then _ else _)=_;rw[ku (by omega)]
structure Adm(m:Nat)(A0 E:Mt):Prop where
 ex:∃L' R':Mt,EqM m (mul m (λi k=>E i (m+k)) L') one/\EqM m (mul m L' (λi k=>E i (m+k))) one/\EqM m (mul m (λi k=>E (m+i) k) R') one/\EqM m (mul m R' (λi k=>E (m+i) k)) one
 val:EqM m (mul m (λi k=>E i (m+k)) (mul m A0 (λi k=>E (m+i) k))) E
 nil:∀i j,i<m->j<m->E (m+i) (m+j)=0
theorem Adm.rt{m p:Nat}{e E c:Mt}(h:Adm m e E)(r:RT m p E c):Adm m e c:=by obtain⟨U,V,q,w,l,x⟩:=r.ex;obtain⟨t,o,n,v,u,s⟩:=h.ex;have f:EqM m (λi k=>c i (m+k)) (mul m U (λi k=>E i (m+k))):=λi j a b=>l i (m+j) a;have d:EqM m (λi k=>c (m+i) k) (λi k=>E (m+i) k):=λi j a b=>r.low _ _ (by omega);refine⟨⟨mul m t V,o,(f.mulL).trans (R6 q n),(f.mulR).trans (R6 v w),(d.mulL).trans u,(d.mulR).trans s⟩,λi j a b=>?_,λi j a b=>by rw[r.low _ _ (by omega)];exact h.nil i j a b⟩;rw[l i j a,f.mulL i j a b,XW];refine ZF (λ_ _=>rfl) λk g=>?_;rw[EqM.mulR (A:=λi k=>E i (m+k)) (EqM.mulR (A:=e) d) k j g b];exact h.val k j g b
theorem Adm.tr{m:Nat}{c E:Mt}(h:Adm m c E):Adm m (tr c) (tr E):=by
 obtain⟨g,f,l,r,p,n⟩:=h.ex
 have d:EqM m (PM.tr one) one:=λi j _ _=>by
  unfold PM.tr one;by_cases q:i=j
  ·rw[kr q,kr q.symm]
  ·rw[ku q,ku (λz=>q z.symm)]
 refine⟨⟨PM.tr f,PM.tr g,λi j a b=>?_,λi j a b=>?_,λi j a b=>?_,λi j a b=>?_⟩,λi j a b=>?_,λi j a b=>h.nil j i b a⟩
 ·exact((S4 m f (λi k=>E (m+i) k) i j).symm.trans (n j i b a)).trans (d i j a b)
 ·exact((S4 m (λi k=>E (m+i) k) f i j).symm.trans (p j i b a)).trans (d i j a b)
 ·exact((S4 m g (λi k=>E i (m+k)) i j).symm.trans (r j i b a)).trans (d i j a b)
 ·exact((S4 m (λi k=>E i (m+k)) g i j).symm.trans (l j i b a)).trans (d i j a b)
 ·have e:=h.val j i b a;show mul m (λi k=>E (m+k) i) (mul m (PM.tr c) (λi k=>E k (m+i))) i j=E j i;rw[<-e,<-XW];have q:=S4 m (λi k=>E i (m+k)) (mul m c (λi k=>E (m+i) k)) i j;have o:mul m (PM.tr (mul m c (λi k=>E (m+i) k))) (PM.tr (λi k=>E i (m+k))) i j=mul m (mul m (λi k=>E (m+k) i) (PM.tr c)) (λi k=>E k (m+i)) i j:=ZF (λk _=>S4 m c (λi k=>E (m+i) k) i k) λ_ _=>rfl;exact(q.trans o).symm
theorem Adm.div{m:Nat}{f b E:Mt}{D:Int}(h:Adm m f E)(r:EqM m (mul m b f) (λi j=>D*one i j)){c:Int}{j:Nat}(q:j<m)(u:∀i,i<m->c∣E i j):c∣D:=by
 obtain⟨d,a,v,t,w,s⟩:=h.ex
 have e:mul m (mul m a (mul m b d)) E j j=D:=by
  have s1:mul m (mul m a (mul m b d)) E j j=mul m a (mul m (mul m b d) E) j j:=XW ..;rw[s1]
  have s2:∀k,k<m->mul m (mul m b d) E k j=D*E (m+k) j:=λk o=>by
   rw[XW];rw[ZF (A':=b) (B':=mul m f (λi k=>E (m+i) k)) (λ_ _=>rfl) (λl n=>?_)]
   ·rw[<-XW,ZF (A':=λi j=>D*one i j) (B':=λi k=>E (m+i) k) (λl n=>r k l o n) (λ_ _=>rfl)];show sN m (λl=>D*one k l*E (m+l) j)=_;rw[Zh (g:=λl=>D*(one k l*E (m+l) j)) λl _=>bZ _ _ _,ZA];congr 1;exact one_mul (A:=λi k=>E (m+i) k) o
   ·rw[ZF (A':=d) (B':=mul m (λi k=>E i (m+k)) (mul m f (λi k=>E (m+i) k))) (λ_ _=>rfl) (λi p=>(h.val i j p q).symm),<-XW,ZF (A':=one) (B':=mul m f (λi k=>E (m+i) k)) (λi p=>t l i n p) (λ_ _=>rfl),one_mul n]
  rw[ZF (A':=a) (B':=λk j=>D*E (m+k) j) (λ_ _=>rfl) s2];show sN m (λk=>a j k*(D*E (m+k) j))=D;rw[Zh (g:=λk=>D*(a j k*E (m+k) j)) λk _=>by rw[<-bZ,bG (a j k),bZ],ZA];have:sN m (λk=>a j k*E (m+k) j)=1:=by have:=s j j q q;unfold one at this;rw[kr rfl] at this;exact this
  rw[this,gJ]
 rw[<-e];exact KP λk o=>iE (u k o)
noncomputable def US(i c:Nat):Nat:=if c<i then c else c+1
theorem FT(f:Nat->Int):∀n,sN (n+1) f=f 0+sN n λj=>f (j+1)
 | 0=>by show 0+f 0=f 0+0;omega
 | n+1=>by show sN (n+1) f+f (n+1)=f 0+(sN n (λj=>f (j+1))+f (n+1));rw[FT f n];omega
theorem FU(r s:Nat):US (r+1) (s+1)=US r s+1:=by unfold US;split<;>split<;>omega
theorem M6:∀{n:Nat}{A:Mt}{i:Nat},i<n+1->Yf (n+1) (YZ 0 (λc=>if c=i then 1 else 0) A)=sg i*Yf n (λr c=>A (r+1) (US i c))
 | n,A,0,_=>by
  rw[Yq,Z4 (k:=0) (by omega)]
  ·rw[Z5,kr rfl];show 1*1*Yf n _=1*Yf n _;rw[cw,cw];rw[cw];exact ZU λr c _ _=>by show YZ 0 _ A (if r<0 then r else r+1) (c+1)=A (r+1) (US 0 c);rw[ku (by omega),Y2 _ _ (by omega)];rfl
  ·intro r a g;rw[TN (k:=0) (by omega) λc b=>?_,b5];show YZ 0 _ A (if 0<r then 0 else 0+1) (c+1)=0;rw[kr (by omega),Z5,ku (by omega)]
 | 0,A,i+1,h=>by omega
 | n+1,A,i+1,h=>by
  rw[Yq,FT];have z:sg 0*YZ 0 (λc=>if c=i+1 then 1 else 0) A 0 0*Yf (n+1) (VR 0 (YZ 0 (λc=>if c=i+1 then 1 else 0) A))=0:=by rw[Z5,ku (by omega),b5,bp]
  rw[z,jn,Yq,<-ZA];refine Zh λr a=>?_
  have e:Yf (n+1) (VR (r+1) (YZ 0 (λc=>if c=i+1 then 1 else 0) A))=Yf (n+1) (YZ 0 (λc=>if c=i then 1 else 0) (VR (r+1) A)):=ZU λs c f b=>by
   by_cases q:s=0
   ·subst q;show YZ 0 _ A (if 0<r+1 then 0 else 0+1) (c+1)=_;rw[kr (by omega),Z5,Z5];by_cases w:c=i
    ·rw[kr w,kr (by omega)]
    ·rw[ku w,ku (by omega)]
   ·rw[Y2 _ _ q];show YZ 0 _ A (if s<r+1 then s else s+1) (c+1)=A (if s<r+1 then s else s+1) (c+1);rw[Y2];split<;>omega
  rw[e,M6 (n:=n) (i:=i) (by omega),Y2 _ _ (by omega)];have d:Yf n (λs c=>VR (r+1) A (s+1) (US i c))=Yf n (VR r (λr c=>A (r+1) (US (i+1) c))):=ZU λs c _ _=>by show A (US (r+1) (s+1)) (US i c+1)=A (US r s+1) (US (i+1) (c+1));rw[FU,FU]
  rw[d];show-sg r*A (r+1) 0*(sg i*_) = - sg i*(sg r*A (r+1) 0*_);rw[bR,bR,bR,cG]
theorem DR{n:Nat}{A:Mt}:Yf (n+1) A=sN (n+1) λi=>sg i*A 0 i*Yf n (λr c=>A (r+1) (US i c)):=by have h:=JE (n:=n+1) (A:=A) (j:=0) (by omega) (A 0);rw[MT] at h;rw[<-h];refine Zh λi a=>?_;unfold NT;rw[M6 a,<-bZ,bG (A 0 i)]
theorem NY:∀{n:Nat}{A:Mt},Yf n (tr A)=Yf n A
 | 0,_=>rfl
 | n+1,A=>by rw[Yq,DR];refine Zh λi a=>?_;have e:Yf n (VR i (tr A))=Yf n (tr λr c=>A (r+1) (US i c)):=rfl;rw[e,NY];rfl
theorem pig:∀(m:Nat)(ρ:Nat->Nat)(j:Nat),(∀a,a<j->ρ a<m)->m<j->∃a b,a<b/\b<j/\ρ a=ρ b
 | 0,ρ,j,h,hj=>by have:=h 0 hj;omega
 | m+1,ρ,0,h,hj=>by omega
 | m+1,ρ,j+1,h,hj=>by
  by_cases q:∃a,a<j/\ρ a=ρ j
  ·obtain⟨a,d,f⟩:=q;exact⟨a,j,d,by omega,f⟩
  ·have ne:∀a,a<j->ρ a≠ρ j:=λa e z=>q ⟨a,e,z⟩
   obtain⟨a,b,d,f,c⟩:=pig m (λa=>if ρ a=m then ρ j else ρ a) j (λa e=>by
    have d:=h a (by omega);have f:=h j (by omega);have c:=ne a e;show(if ρ a=m then ρ j else ρ a)<m;split<;>omega) (by omega)
   refine⟨a,b,d,by omega,?_⟩;have g:=ne a (by omega);have i:=ne b (by omega);have c:(if ρ a=m then ρ j else ρ a)=if ρ b=m then ρ j else ρ b:=c
   split at c<;>split at c<;>omega
theorem OC{m k j:Nat}{E:Mt}{d h:Nat->Nat}(e:∀a,a<j->k<=d a/\d a<m)(l:m-k<j):Yf j (λa b=>E (d a) (h b))=0:=by
 obtain⟨a,b,o,g,f⟩:=pig (m-k) (λa=>d a-k) j (λa n=>by have:=e a n;show d a-k<m-k;omega) l;have p:=e a (by omega);have q:=e b g;have f:d a-k=d b-k:=f;exact Uj (i:=a) (j:=b) (by omega) g (by omega) λc _=>by rw[show d a=d b by omega]
noncomputable def Mn(m k T:Nat)(E:Mt):Prop:=∀(j:Nat)(ρ σ:Nat->Nat),(∀a,a<j->k<=ρ a/\ρ a<m)->(∀a,a<j->k<=σ a/\σ a<m)->(Yf j (λa b=>E (ρ a) (σ b))).natAbs<=T
theorem Mn.tr{m k T:Nat}{E:Mt}(h:Mn m k T E):Mn m k T (PM.tr E):=λj c d f g=>by have e:Yf j (λa b=>PM.tr E (c a) (d b))=Yf j (PM.tr λa b=>E (d a) (c b)):=rfl;rw[e,NY];exact h j d c g f
theorem Mn.up{m k T a:Nat}{E:Mt}(h:Mn m k T E)(l:T<=a):Mn m k a E:=λj d e b c=>aQ (h j d e b c) l
theorem Mn.ab{m k T:Nat}{E:Mt}(h:Mn m k T E){i j:Nat}(a:k<=i)(d:i<m)(b:k<=j)(c:j<m):(E i j).natAbs<=T:=by
 have:=h 1 (λ_=>i) (λ_=>j) (λ_ _=>⟨a,d⟩) (λ_ _=>⟨b,c⟩);have e:Yf 1 (λ_ _=>E i j)=E i j:=by show 0+1*E i j*1=_;omega
 rwa [e] at this
theorem Mn.rows{m k T:Nat}{E:Mt}(h:Mn m k T E)(f:Nat->Nat)(g:∀i,k<=i->i<m->k<=f i/\f i<m):Mn m k T (λi j=>E (f i) j):=λj e l b d=>h j (λa=>f (e a)) l (λa c=>g _ (b a c).1 (b a c).2) d
theorem KQ:∀i,(sg i).natAbs=1
 | 0=>rfl
 | i+1=>by show(- sg i).natAbs=1;rw[fu];exact KQ i
theorem Mn.turn{m k T:Nat}{E g:Mt}{q:Nat->Int}(h7:m<=7)(hk:k<m)(h:Mn m k T E)(nz:E k k≠0)(e:∀i j,k<=i->i<m->g i j=E i j-q i*E k j)(r:∀i,k<=i->i<m->(g i k).natAbs<=(E k k).natAbs):Mn m k (8*T) g:=λj v f t G=>by
 by_cases A:m-k<j
 ·rw[OC t A];exact cP _
 obtain⟨R,D⟩:∃R:Nat->Nat,∀a,R a=if a=0 then k else v (a-1):=⟨_,λ_=>rfl⟩
 obtain⟨S,P⟩:∃S:Nat->Nat,∀a,S a=if a=0 then k else f (a-1):=⟨_,λ_=>rfl⟩
 have o:R 0=k:=by rw[D,kr rfl]
 have x:S 0=k:=by rw[P,kr rfl]
 have z:∀a,R (a+1)=v a:=λa=>by rw[D,ku (by omega),j6]
 have u:∀a,S (a+1)=f a:=λa=>by rw[P,ku (by omega),j6]
 have n:∀a,a<j+1->k<=R a/\R a<m:=λa l=>by
  cases a with
  | zero=>rw[o];omega
  | succ a=>rw[z];exact t a (by omega)
 have Y:∀a,a<j+1->k<=S a/\S a<m:=λa l=>by
  cases a with
  | zero=>rw[x];omega
  | succ a=>rw[u];exact G a (by omega)
 obtain⟨X,M⟩:∃X:Mt,X=λa b=>if a=0 then E k (S b) else g (R a) (S b):=⟨_,rfl⟩
 have C:∀b,X 0 b=E k (S b):=λb=>by rw[M];exact kr rfl
 have w:∀a b,a≠0->X a b=g (R a) (S b):=λa b h=>by rw[M];exact ku h
 have W:Yf (j+1) X=Yf (j+1) (λa b=>E (R a) (S b)):=Q9 (q:=0) (k:=λa=>- q (R a)) (by omega) (λc B=>by rw[C,o]) λa c l B H=>by rw[w a c H,o,e _ _ (n a l).1 (n a l).2,bR];omega
 have p:=h (j+1) R S n Y;rw[<-W,Yq,FT] at p;have Z:X 0 0=E k k:=by rw[C,x]
 have Q:Yf j (VR 0 X)=Yf j (λa b=>g (v a) (f b)):=ZU λa b _ _=>by
  show X (US 0 a) (b+1)=_;have y:US 0 a=a+1:=by unfold US;rw[ku (by omega)]
  rw[y,w _ _ (by omega),z,u]
 have Ys:(sN j λi=>sg (i+1)*X (i+1) 0*Yf j (VR (i+1) X)).natAbs<=j*((E k k).natAbs*T):=NX λi N=>by
  rw[cB,cB,KQ,jF];refine cC ?_ ?_
  ·rw[w _ _ (by omega),z,x];exact r _ (t i N).1 (t i N).2
  ·have I:US (i+1) 0=0:=by unfold US;rw[kr (by omega)]
   have U:Yf j (VR (i+1) X)=Yf j (λa b=>E (R (US (i+1) a)) (f b)):=Q9 (q:=0) (k:=λa=>- q (R (US (i+1) a))) (by omega) (λc B=>by
    show X (US (i+1) 0) (c+1)=E (R (US (i+1) 0)) (f c)
    rw[I,C,o,u]) λa c l B H=>by
    have y:US (i+1) a≠0:=by unfold US;split<;>omega
    have F:US (i+1) a<j+1:=by unfold US;split<;>omega
    show X (US (i+1) a) (c+1)=E (R (US (i+1) a)) (f c) + - q (R (US (i+1) a))*E (R (US (i+1) 0)) (f c);rw[w _ _ y,I,o,u,e _ _ (n _ F).1 (n _ F).2,bR];omega
   rw[U];refine h j (λa=>R (US (i+1) a)) f (λa l=>n _ ?_) G;unfold US;split<;>omega
 rw[Q,Z] at p;generalize Yf j (λa b=>g (v a) (f b))=d at p ⊢;generalize (sN j λi=>sg (i+1)*X (i+1) 0*Yf j (VR (i+1) X))=s at p Ys;have J:1<=(E k k).natAbs:=by omega
 have L:(E k k*d).natAbs<=T+j*((E k k).natAbs*T):=by
  have O:(sg 0*E k k*d)=E k k*d:=by show 1*E k k*d=_;rw[cw]
  rw[O] at p;omega
 rw[cB] at L;refine Nat.le_of_mul_le_mul_left (aQ L ?_) J;have O:T<=(E k k).natAbs*T:=gA _ J;have h3:j*((E k k).natAbs*T)<=7*((E k k).natAbs*T):=cK _ (by omega);rw[eh (E k k).natAbs 8 T];omega
noncomputable def fct:Nat->Nat
 | 0=>1
 | n+1=>(n+1)*fct n
theorem JS{B:Nat}:∀{j:Nat}{A:Mt},(∀a b,a<j->b<j->(A a b).natAbs<=B)->(Yf j A).natAbs<=fct j*B^j
 | 0,_,_=>aJ _
 | j+1,A,h=>by
  rw[Yq]
  have:=NX (n:=j+1) (f:=λi=>sg i*A i 0*Yf j (VR i A)) (M:=B*(fct j*B^j)) λi c=>by
   rw[cB,cB,KQ,jF];refine cC (h i 0 c (by omega)) (JS λa b e d=>h _ _ ?_ (by omega));split<;>omega
  refine aQ this ?_;show(j+1)*(B*(fct j*B^j))<=(j+1)*fct j*B^(j+1);rw[dh,dm,eh B,cp B];exact aJ _
theorem M7{B:Nat}(a:1<=B):∀{n j:Nat},j<=n->fct j*B^j<=fct n*B^n
 | 0,j,h=>by rw[show j=0 by omega];exact aJ _
 | n+1,j,h=>by
  by_cases q:j=n+1
  ·rw[q];exact aJ _
  ·refine aQ (M7 a (n:=n) (by omega)) ?_;refine cC (gA _ (by omega)) (jG a (by omega))
theorem Mn.ent{m k n B:Nat}{E:Mt}(l:1<=B)(o:m-k<=n)(h:∀i j,k<=i->i<m->k<=j->j<m->(E i j).natAbs<=B):Mn m k (fct n*B^n) E:=λj p q d e=>by
 by_cases c:m-k<j
 ·rw[OC d c];exact cP _
 ·exact aQ (JS λa b g f=>h _ _ (d a g).1 (d a g).2 (e b f).1 (e b f).2) (M7 l (by omega))
theorem Mn.same{m k T:Nat}{E n:Mt}{q:Nat->Int}(h:Mn m k T E)(y:q k=0)(e:∀i j,k<=i->i<m->n i j=E i j-q i*E k j)(z:∀i,k<i->i<m->n i k=0)(v:∀j,k<j->j<m->E k j=0):Mn m k T n:=λj d f g r=>by
 by_cases t:∃a,a<j/\d a=k
 ·obtain⟨a,l,s⟩:=t
  rw[Q9 (q:=a) (A:=λa b=>E (d a) (f b)) (k:=λb=>- q (d b)) l (λc p=>by show n (d a) (f c)=E (d a) (f c);rw[e _ _ (g a l).1 (g a l).2,s,y];simp) λb c o p _=>by
   show n (d b) (f c)=E (d b) (f c) + - q (d b)*E (d a) (f c);rw[e _ _ (g b o).1 (g b o).2,s,bR];omega]
  exact h j d f g r
 ·have lo:∀a,a<j->k<d a:=λa l=>dX (g a l).1 λw=>t ⟨a,l,w.symm⟩;by_cases p:∃b,b<j/\f b=k
  ·obtain⟨b,o,u⟩:=p
   have x:Yf j (λa b=>n (d a) (f b))=0:=by
    rw[<-NY];exact TN (k:=b) o λc p=>by show n (d c) (f b)=0;rw[u];exact z _ (lo c p) (g c p).2
   rw[x];exact cP _
  ·rw[ZU (B:=λa b=>E (d a) (f b)) λa b l o=>by
    have:k<f b:=dX (r b o).1 λw=>p ⟨b,o,w.symm⟩;show n (d a) (f b)=E (d a) (f b);rw[e _ _ (g a l).1 (g a l).2,v _ this (r b o).2];simp]
   exact h j d f g r
theorem Mn.less{m k u T:Nat}{E g:Mt}(J:k<u)(D:u<m)(h:Mn m k T E)(I:∀j,g k j=E k j-1*E u j)(x:∀i j,i≠k->g i j=E i j)(z:∀i,k<i->i<m->E i k=0)(H:∀j,k<j->j<m->E k j=0):Mn m k T g:=λj e d p q=>by
 by_cases G:∃a,a<j/\e a=k
 ·obtain⟨a,s,C⟩:=G;by_cases F:∃b,b<j/\b≠a/\e b=k
  ·obtain⟨b,f,n,A⟩:=F;have t:Yf j (λa b=>g (e a) (d b))=0:=Uj f s n λc _=>by show g (e b) (d c)=g (e a) (d c);rw[C,A]
   rw[t];exact cP _
  ·have only:∀b,b<j->b≠a->e b≠k:=λb f n w=>F ⟨b,f,n,w⟩;obtain⟨R,v⟩:∃R:Nat->Nat,∀b,R b=if b=a then u else e b:=⟨_,λ_=>rfl⟩
   have r:Yf j (λa b=>g (e a) (d b))=1*Yf j (λa b=>E (e a) (d b))+(-1)*Yf j (λa b=>E (R a) (d b)):=NS (k:=a) s (λb c f l n=>by
    refine⟨?_,?_⟩
    ·show E (e b) (d c)=g (e b) (d c);rw[x _ _ (only b f n)]
    ·show E (R b) (d c)=g (e b) (d c)
     rw[v,ku n,x _ _ (only b f n)]) λc l=>by
    show g (e a) (d c)=1*E (e a) (d c)+(-1)*E (R a) (d c);rw[C,v,kr rfl,I];omega
   by_cases l:∃b,b<j/\d b=k
   ·obtain⟨b,f,A⟩:=l
    have t:Yf j (λa b=>E (R a) (d b))=0:=by
     rw[<-NY]
     exact TN (k:=b) f λc l=>by
      show E (R c) (d b)=0;rw[A,v];by_cases w:c=a
      ·rw[kr w];exact z u J D
      ·rw[ku w];exact z _ (dX (p c l).1 λy=>only c l w y.symm) (p c l).2
    rw[r,t,cw,b5,f9];exact h j e d p q
   ·have t:Yf j (λa b=>E (e a) (d b))=0:=TN (k:=a) s λc o=>by show E (e a) (d c)=0;rw[C];exact H _ (dX (q c o).1 λw=>l ⟨c,o,w.symm⟩) (q c o).2
    rw[r,t]
    have:=h j R d (λb f=>by
     rw[v];split
     ·omega
     ·exact p b f) q
    omega
 ·rw[ZU (B:=λa b=>E (e a) (d b)) λa b s f=>x _ _ λw=>G ⟨a,s,w⟩];exact h j e d p q
theorem FV{x p:Int}(d:0<=x)(c:0<p):(x.fdiv p).natAbs=x.natAbs/p.natAbs/\(x-x.fdiv p*p).natAbs=x.natAbs%p.natAbs/\0<=(x-x.fdiv p*p)*p:=by
 obtain⟨a,rfl⟩:=iK d;obtain⟨b,rfl⟩:=iK (gZ c);have e:(a:Int).fdiv (b:Int)=((a/b:Nat):Int):=by rw[dQ _ (gZ c)];exact(Int.natCast_ediv a b).symm
 have r:(a:Int)-((a/b:Nat):Int)*(b:Int)=((a%b:Nat):Int):=by
  have:=kK a b;have h:(b:Int)*((a/b:Nat):Int)+((a%b:Nat):Int)=(a:Int):=by exact_mod_cast this
  rw[bG] at h;omega
 rw[e,r];exact⟨rfl,rfl,cL (j7 _) (j7 _)⟩
theorem DS{x p:Int}(h:0<=x*p)(d:p≠0):(x.fdiv p).natAbs=x.natAbs/p.natAbs/\(x-x.fdiv p*p).natAbs=x.natAbs%p.natAbs/\0<=(x-x.fdiv p*p)*p:=by
 rcases eJ d with c | a
 ·have f:x<=0:=by refine gk.mp λz=>?_;have:=Int.mul_neg_of_pos_of_neg z c;omega
  have:=FV (x:=-x) (p:=-p) (by omega) (by omega);rw[kB,fu,fu] at this;refine⟨this.1,?_,?_⟩
  ·rw[<-this.2.1,<-fu];congr 1;rw[gw];omega
  ·have b:=this.2.2;have e:(-x-x.fdiv p * -p) * -p=(x-x.fdiv p*p)*p:=by rw[gw,<-bR,gw];congr 1;omega
   rw[e] at b;exact b
 ·refine FV (gk.mp λz=>?_) a;have:=gv z a;omega
theorem fd_any{x p:Int}(h:p≠0):(x-x.fdiv p*p).natAbs<p.natAbs/\0<=(x-x.fdiv p*p)*p/\(x.fdiv p).natAbs<=x.natAbs+1:=by
 have e:x-x.fdiv p*p=x.fmod p:=by have:=Int.mul_fdiv_add_fmod x p;rw[bG] at this;omega
 have r:(x.fmod p).natAbs<p.natAbs/\0<=x.fmod p*p:=by
  rcases eJ h with j | a
  ·have c:=iW (-x) (b:=-p) (by omega);have f:=j8 (-x) (b:=-p) (by omega);rw[Int.neg_fmod_neg] at c f;refine⟨by omega,?_⟩;have:=cL c (show 0<=-p by omega);rw[Int.neg_mul_neg] at this;exact this
  ·have c:=iW x (b:=p) a;have f:=j8 x (b:=p) a;exact⟨by omega,cL c (by omega)⟩
 rw[e];refine⟨r.1,r.2,?_⟩;have g:x.fdiv p*p=x-x.fmod p:=by omega
 have k:(x.fdiv p).natAbs*p.natAbs<=x.natAbs+(x.fmod p).natAbs:=by rw[<-cB,g];exact gx _ _
 refine gG.mp λz=>?_;have d:1<=p.natAbs:=by omega
 have i:(x.natAbs+2)*p.natAbs<=(x.fdiv p).natAbs*p.natAbs:=cK _ z;rw[jE] at i;have l:x.natAbs*1<=x.natAbs*p.natAbs:=bV _ d;omega
noncomputable def Bo(m k j N:Nat)(E:Mt):Prop:=∀i,k<=i->i<m->(E i j).natAbs<=N
structure Fst(m k:Nat)(E:Mt)(f:Nat):Prop where
 lo:k<f
 hi:f<m
 ne:E f k≠0
 ze:∀i,k<i->i<f->E i k=0
noncomputable def red(m k:Nat)(E:Mt):Mt:=λi j=>if k<i/\i<m then E i j-(E i k).fdiv (E k k)*E k j else E i j
theorem red_k{m k j:Nat}{E:Mt}:red m k E k j=E k j:=by unfold red;rw[ku (by omega)]
theorem TQ{m k i j:Nat}{E:Mt}(h:k<i)(a:i<m):red m k E i j=E i j-(E i k).fdiv (E k k)*E k j:=by unfold red;rw[kr ⟨h,a⟩]
theorem RT.many{m k:Nat}{E:Mt}(q:Nat->Int)(d:k<m):RT m k E (λi j=>if k<i/\i<m then E i j-q i*E k j else E i j):=by
 have f:∀t,t<=m->RT m k E (λi j=>if k<i/\i<t then E i j-q i*E k j else E i j):=by
  intro t
  induction t with
  | zero=>intro _;rw[show(λi j=>if k<i/\i<0 then E i j-q i*E k j else E i j)=E from funext λi=>funext λj=>ku (by omega)];exact RT.refl
  | succ t ih=>
   intro h;have c:=ih (by omega);by_cases z:k<t
   ·refine c.trans (by omega) ?_;have g:=RT.sub (m:=m) (p:=k) (a:=t) (b:=k) (q:=q t) (E:=λi j=>if k<i/\i<t then E i j-q i*E k j else E i j) (by omega) (by omega) (aJ _) d (by omega)
    have e:(λi j=>if k<i/\i<t+1 then E i j-q i*E k j else E i j)=(λi j=>if i=t then(if k<i/\i<t then E i j-q i*E k j else E i j)-q t*(if k<k/\k<t then E k j-q k*E k j else E k j) else if k<i/\i<t then E i j-q i*E k j else E i j):=by
     funext i j;rw[ku (show ¬(k<k/\k<t) by omega)];by_cases w:i=t
     ·subst w;rw[kr ⟨z,by omega⟩,kr rfl,ku (by omega)]
     ·rw[ku w];by_cases y:k<i/\i<t
      ·rw[kr y,kr ⟨y.1,by omega⟩]
      ·rw[ku y,ku (by omega)]
    rw[e];exact g
   ·have e:(λi j=>if k<i/\i<t+1 then E i j-q i*E k j else E i j)=(λi j=>if k<i/\i<t then E i j-q i*E k j else E i j):=by funext i j;rw[ku (by omega),ku (by omega)]
    rw[e];exact c
 exact f m (aJ _)
theorem rt_red{m k:Nat}{E:Mt}(a:k<m):RT m k E (red m k E):=RT.many (λi=>(E i k).fdiv (E k k)) a
open Classical in
noncomputable def pre(k f:Nat)(E:Mt):Mt:=if E k k=0\/(E f k).natAbs<(E k k).natAbs then λi j=>E (sw k f i) j else E
theorem rt_pre{m k f:Nat}{E:Mt}(a:k<m)(h:k<f)(b:f<m):RT m k E (pre k f E):=by
 unfold pre;split
 ·exact RT.swap (aJ _) a (by omega) b
 ·exact RT.refl
theorem KR(a b:Nat):sw a b a=b:=by unfold sw;rw[kr rfl]
theorem Af{a b:Nat}(h:a≠b):sw a b b=a:=by unfold sw;rw[ku (λz=>h z.symm),kr rfl]
theorem sw_c{a b i:Nat}(h:i≠a)(c:i≠b):sw a b i=i:=by unfold sw;rw[ku h,ku c]
structure Hyp(m k:Nat)(E:Mt)(j N M P:Nat):Prop where
 bo:Bo m k j N E
 one:1<=P
 piv:E k k≠0->(E k k).natAbs<=P
 nil:E k k=0->∀i,k<i->i<m->(E i k).natAbs<=P
 col:(∀i,k<=i->i<m->(E i k).natAbs<=M)\/(m=k+2/\E k j=0/\E k k≠0/\(E k k).natAbs<=M)
structure Aft(m k:Nat)(E0 E:Mt):Prop where
 nz:E k k≠0
 sg:∀i,k<i->i<m->(E i k).natAbs<(E k k).natAbs/\0<=E i k*E k k
 dv:E0 k k≠0->(∀i,k<i->i<m->E0 k k∣E0 i k)->E=red m k E0
 pv:∀P,(E0 k k≠0->(E0 k k).natAbs<=P)->(E0 k k=0->∀i,k<i->i<m->(E0 i k).natAbs<=P)->(E k k).natAbs<=P
 po:∀j N M P,Hyp m k E0 j N M P->∃N',Bo m k j N' E/\N'<=2*(N*(M+2)*P^3)/\∀f,Fst m k E f->N'*(E k k).natAbs*((E k k).natAbs*(E f k).natAbs)<=N*(M+2)*P^3
 mn:∀T P,m<=7->Mn m k T E0->1<=P->(E0 k k≠0->(E0 k k).natAbs<=P)->(E0 k k=0->∀i,k<i->i<m->(E0 i k).natAbs<=P)->∃T',Mn m k T' E/\T'<=64*(T*P^6)/\∀f,Fst m k E f->T'*((E k k).natAbs*(E f k).natAbs)^3<=8*(T*P^6)
theorem KS{x y q:Int}{N Q:Nat}(d:x.natAbs<=N)(c:y.natAbs<=N)(a:q.natAbs<=Q):(x-q*y).natAbs<=N*(1+Q):=by have b:=gx x (q*y);rw[cB] at b;have e:q.natAbs*y.natAbs<=Q*N:=cC a c;rw[Nat.mul_add,Nat.mul_one,cp N Q];omega
theorem Mn.red{m k T:Nat}{E:Mt}(e:m<=7)(d:k<m)(h:Mn m k T E)(b:E k k≠0):Mn m k (8*T) (PM.red m k E):=
 h.turn (q:=λi=>if k<i/\i<m then(E i k).fdiv (E k k) else 0) e d b (λi j c a=>by
  show PM.red m k E i j=E i j-(if k<i/\i<m then(E i k).fdiv (E k k) else 0)*E k j;by_cases q:k<i
  ·rw[TQ q a,kr ⟨q,a⟩]
  ·rw[ku (λw=>q w.1),show i=k by omega,red_k];omega) λi c a=>by
  by_cases q:k<i
  ·rw[TQ q a];have:=(fd_any (x:=E i k) b).1;omega
  ·rw[show i=k by omega,red_k];exact aJ _
theorem Mn.pre{m k f T:Nat}{E:Mt}(c:k<m)(d:k<f)(a:f<m)(h:Mn m k T E):Mn m k T (PM.pre k f E):=by
 unfold PM.pre;split
 ·exact h.rows (sw k f) λi b e=>by unfold sw;split<;>(try split)<;>omega
 ·exact h
theorem Zar(p v:Nat):(p*v)^3=p^3*v^3:=Nat.mul_pow p v 3
theorem Aft.first{m k f:Nat}{E:Mt}(l:k<m)(F:Fst m k E f):Aft m k E (red m k (pre k f E)):=by
 have D:=F.lo
 have b:pre k f E k k≠0:=by
  unfold pre;split
  ·show E (sw k f k) k≠0;rw[KR];exact F.ne
  ·rename_i h;exact λz=>h (.inl z)
 have pv:∀P,(E k k≠0->(E k k).natAbs<=P)->(E k k=0->∀i,k<i->i<m->(E i k).natAbs<=P)->(pre k f E k k).natAbs<=P:=λP piv nil=>by
   unfold pre;split
   ·rename_i h;show(E (sw k f k) k).natAbs<=P;rw[KR];rcases h with z | z
    ·exact nil z f F.lo F.hi
    ·have:=piv (by omega);omega
   ·rename_i h;exact piv λz=>h (.inl z)
 refine⟨by rw[red_k];exact b,λi c a=>?_,λt C=>?_,λP piv nil=>by rw[red_k];exact pv P piv nil,λj N M P H=>?_,λT P B L v piv nil=>?_⟩
 ·rw[red_k,TQ c a];have:=fd_any (x:=pre k f E i k) b;exact⟨this.1,this.2.1⟩
 ·have:pre k f E=E:=by
   unfold pre;rw[ku];rintro(z | z)
   ·exact t z
   ·have:=cQ.mpr (C f F.lo F.hi);have:=fM (by have:=F.ne;omega) this;omega
  rw[this]
 ·have pP:=pv P H.piv H.nil
  have I:Bo m k j (N*(M+2)) (red m k (pre k f E)):=λi c a=>by
   have d:N<=N*(M+2):=bI N (by omega);by_cases e:i=k
   ·subst e;rw[red_k];refine aQ ?_ d;unfold pre;split
    ·show(E (sw i f i) j).natAbs<=N;rw[KR];exact H.bo f (by omega) F.hi
    ·exact H.bo i c a
   ·rw[TQ (by omega) a]
    have p:(pre k f E i j).natAbs<=N:=by
     unfold pre;split
     ·show(E (sw k f i) j).natAbs<=N;unfold sw;split
      ·exact H.bo f (by omega) F.hi
      ·split
       ·exact H.bo k (by omega) l
       ·exact H.bo i c a
     ·exact H.bo i c a
    have n:(pre k f E k j).natAbs<=N:=by
     unfold pre;split
     ·show(E (sw k f k) j).natAbs<=N;rw[KR];exact H.bo f (by omega) F.hi
     ·exact H.bo k (by omega) l
    rcases H.col with w | ⟨U,t,S,Q⟩
    ·have q:=(fd_any (x:=pre k f E i k) b).2.2
     have r:(pre k f E i k).natAbs<=M:=by
      unfold pre;split
      ·show(E (sw k f i) k).natAbs<=M;exact w _ (by unfold sw;split<;>(try split)<;>omega) (sw_lt l F.hi a)
      ·exact w i c a
     have:=KS p n (aQ q (jH r 1));rw[show M+2=1+(M+1) by omega];exact this
    ·have A:i=f:=by have:=F.hi;omega
     subst A;by_cases s:E k k=0\/(E i k).natAbs<(E k k).natAbs
     ·have q:=(fd_any (x:=pre k i E i k) b).2.2;have r:(pre k i E i k).natAbs<=M:=by unfold pre;rw[kr s];show(E (sw k i i) k).natAbs<=M;rw[Af (by omega)];exact Q
      have:=KS p n (aQ q (jH r 1));rw[show M+2=1+(M+1) by omega];exact this
     ·have O:pre k i E k j=0:=by unfold pre;rw[ku s];exact t
      rw[O,b5,js];exact aQ p d
  have v:=H.one;have c3:1<=P^3:=fC _ _ v;refine⟨_,I,aQ (bI _ c3) (gA _ (by omega)),λg G=>?_⟩;have o:(red m k (pre k f E) k k).natAbs<=P:=by rw[red_k];exact pP
  have u:(red m k (pre k f E) g k).natAbs<=P:=by rw[TQ G.lo G.hi];have:=(fd_any (x:=pre k f E g k) b).1;omega
  rw[dm,show P^3=P*(P*P) by rw[dh,dh,Nat.pow_one];rw[dm]];exact bV _ (cC o (cC o u))
 ·have pP:=pv P piv nil;have R:1<=P^6:=fC _ _ v;have W:T<=T*P^6:=bI _ R;refine⟨8*T,(L.pre l F.lo F.hi).red B l b,by omega,λg G=>?_⟩;have o:(red m k (pre k f E) k k).natAbs<=P:=by rw[red_k];exact pP
  have u:(red m k (pre k f E) g k).natAbs<=P:=by rw[TQ G.lo G.hi];have:=(fd_any (x:=pre k f E g k) b).1;omega
  have y:=gX (cC o u) 3;have J:(P*P)^3=P^6:=by rw[Zar,<-gP]
  rw[J] at y;rw[dm];exact bV _ (bV _ y)
theorem Aft.next{m k f:Nat}{E0 E:Mt}(O:k<m)(A:Aft m k E0 E)(F:Fst m k E f):Aft m k E0 (red m k (pre k f E))/\(red m k (pre k f E) k k).natAbs<(E k k).natAbs:=by
 have Z:=F.lo;have I:=A.sg f F.lo F.hi;have ep:pre k f E=λi j=>E (sw k f i) j:=by unfold pre;rw[kr (.inr I.1)]
 rw[ep];have U:∀j,(λi j=>E (sw k f i) j:Mt) k j=E f j:=λj=>by show E (sw k f k) j=_;rw[KR]
 obtain⟨a,C⟩:∃a,a=(E k k).natAbs:=⟨_,rfl⟩;obtain⟨b,s⟩:∃b,b=(E f k).natAbs:=⟨_,rfl⟩;have l:0<b:=by have:=F.ne;omega
 have hab:b<a:=by omega
 -- the entries of the column ahead of the turn
 have J:∀i,k<i->i<m->(E (sw k f i) k).natAbs<=a/\0<=E (sw k f i) k*E f k:=λi n d=>by
  by_cases e:i=f
  ·subst e;rw[Af (by omega)];exact⟨by omega,by rw[bG];exact I.2⟩
  ·rw[sw_c (by omega) e];have:=A.sg i n d;refine⟨by omega,?_⟩;have h3:=cL this.2 I.2;have e1:E i k*E k k*(E f k*E k k)=E i k*E f k*(E k k*E k k):=by rw[bZ,bZ];congr 1;rw[<-bZ,bG (E k k) (E f k),bZ]
   rw[e1] at h3;have nz:=A.nz
   have sq:0<E k k*E k k:=by
    rcases eJ nz with h | h
    ·exact Int.mul_pos_of_neg_of_neg h h
    ·exact Int.mul_pos h h
   refine gk.mp λz=>?_;have:=gv z sq;omega
 have ent:∀i,k<i->i<m->∀j,red m k (λi j=>E (sw k f i) j) i j=E (sw k f i) j-(E (sw k f i) k).fdiv (E f k)*E f j:=λi n d j=>by rw[TQ n d,KR]
 have piv:∀j,red m k (λi j=>E (sw k f i) j) k j=E f j:=λj=>by rw[red_k];exact U j
 have q:∀i,k<i->i<m->(red m k (λi j=>E (sw k f i) j) i k).natAbs=(E (sw k f i) k).natAbs%b/\0<=red m k (λi j=>E (sw k f i) j) i k*E f k/\((E (sw k f i) k).fdiv (E f k)).natAbs<=a/b:=λi n d=>by rw[ent i n d];have v:=J i n d;have:=DS v.2 F.ne;rw[<-s] at this;exact⟨this.2.1,this.2.2,by rw[this.1];exact Nat.div_le_div_right v.1⟩
 have two:∀g,Fst m k (red m k (λi j=>E (sw k f i) j)) g->2*(red m k (λi j=>E (sw k f i) j) g k).natAbs<=a:=λg p=>by
   have B:=(q f F.lo F.hi).1;rw[Af (by omega),<-C] at B;have da:=kK a b;have d1:1<=a/b:=(Nat.one_le_div_iff l).mpr (by omega);have d2:b*1<=b*(a/b):=bV _ d1;have ml:=j9 a l;by_cases e:g=f
   ·subst e;rw[B];omega
   ·have gf:f<g:=by
     refine dX (gG.mp λz=>?_) (λz=>e z.symm);refine p.ne ?_;have w:=(q g p.lo p.hi).1;rw[sw_c (by have:=p.lo;omega) e,F.ze g p.lo z] at w;have:(red m k (λi j=>E (sw k f i) j) g k).natAbs=0:=by rw[w];simp
     omega
    have Y:=p.ze f F.lo gf;rw[Y] at B;have r0:a%b=0:=by rw[<-B];rfl
    have r1:=(q g p.lo p.hi).1;have r2:=j9 (E (sw k f g) k).natAbs l
    have d3:2<=a/b:=by
     refine gG.mp λz=>?_;have:a/b=1:=by omega
     rw[this] at da;omega
    have d4:b*2<=b*(a/b):=bV _ d3;omega
 refine⟨⟨by rw[piv];exact F.ne,λi n d=>?_,λS Q=>?_,λP n d=>by rw[piv];have:=A.pv P n d;omega,λj N M P H=>?_,λT P R W hP n d=>?_⟩,by rw[piv];omega⟩
 ·have r:=q i n d;rw[piv,r.1];exact⟨by rw[<-s];exact j9 _ l,r.2.1⟩
 ·exfalso;have e:=A.dv S Q;have:=F.ne;rw[e,TQ F.lo F.hi] at this;obtain⟨c,hc⟩:=Q f F.lo F.hi;rw[hc,dk _ S,bG c] at this;exact this (by omega)
 ·obtain⟨o,x,L,y⟩:=A.po j N M P H;have t:=y f F;rw[<-C,<-s] at t;generalize N*(M+2)*P^3=G at t L y ⊢
  have nb:Bo m k j (o*(1+a/b)) (red m k (λi j=>E (sw k f i) j)):=λi n d=>by
   by_cases e:i=k
   ·subst e;rw[piv];exact aQ (x f (by omega) F.hi) (bI _ (aa Nat.one_pos (dw 1 _)))
   ·rw[ent i (by omega) d];refine KS (x _ ?_ (sw_lt O F.hi d)) (x f (by omega) F.hi) (q i (by omega) d).2.2;unfold sw;split<;>(try split)<;>omega
  have n1:o*(1+a/b)*b<=2*(o*a):=by rw[dm,jE,jF,eh];refine bV _ ?_;have:=Nat.div_mul_le_self a b;omega
  have n2:o*a<=G:=by refine aQ ?_ t;exact bI _ (Nat.mul_pos (by omega) l)
  refine⟨_,nb,?_,λg p=>?_⟩
  ·have:o*(1+a/b)<=o*(1+a/b)*b:=bI _ l;omega
  ·rw[piv,<-s];have two:=two g p;generalize (red m k (λi j=>E (sw k f i) j) g k).natAbs=v at two ⊢;have s1:o*(1+a/b)*b*(b*v)<=2*(o*a)*(b*v):=cK _ n1;have s2:2*(o*a)*(b*v)=o*a*(b*(2*v)):=by rw[cp 2,dm,eh 2 b v]
   have X:o*a*(b*(2*v))<=o*a*(b*a):=bV _ (bV _ two);rw[cp b a] at X;omega
 ·obtain⟨u,x,L,y⟩:=A.mn T P R W hP n d;have t:=y f F;rw[<-C,<-s] at t;have D:1<=(a*b)^3:=fC _ _ (Nat.mul_pos (by omega) l);have t1:u<=u*(a*b)^3:=bI _ D;have m1:=x.rows (sw k f) λi n d=>by have:=F.hi;unfold sw;split<;>(try split)<;>omega
  refine⟨8*u,m1.red R O (by show E (sw k f k) k≠0;rw[KR];exact F.ne),by omega,λg p=>?_⟩;have two:=two g p;rw[piv,<-s];generalize (red m k (λi j=>E (sw k f i) j) g k).natAbs=v at two ⊢
  have s1:(2*(b*v))^3<=(a*b)^3:=gX (by
   rw[eh,cp a b];exact bV _ two) 3
  rw[Zar 2] at s1;have s2:8*u*(b*v)^3=u*(2^3*(b*v)^3):=by rw[cp 8,dm]
  rw[s2];exact aQ (bV _ s1) t
structure CL(m k:Nat)(E0 E:Mt):Prop where
 rt:RT m k E0 E
 z:∀i,k<i->i<m->E i k=0
 same:E0 k k≠0->(∀i,k<i->i<m->E0 k k∣E0 i k)->∀i j,i<m->E i j=red m k E0 i j
 bd:∀j N M P,Hyp m k E0 j N M P->Bo m k j (2*(N*(M+2)*P^3)) E
 mn:∀T P,m<=7->Mn m k T E0->1<=P->(E0 k k≠0->(E0 k k).natAbs<=P)->(E0 k k=0->∀i,k<i->i<m->(E0 i k).natAbs<=P)->Mn m k (64*(T*P^6)) E
theorem CL.aft{m k:Nat}{E0 E:Mt}(r:RT m k E0 E)(A:Aft m k E0 E)(z:∀i,k<i->i<m->E i k=0):CL m k E0 E:=
 ⟨r,z,λh f i j _=>by rw[A.dv h f],λj N M P H=>by
  obtain⟨n,a,b,_⟩:=A.po j N M P H
  exact λi c d=>aQ (a i c d) b,λT P e g l c d=>by
  obtain⟨o,a,b,_⟩:=A.mn T P e g l c d;exact a.up b⟩
theorem CL.refl{m k:Nat}{E:Mt}(z:∀i,k<i->i<m->E i k=0):CL m k E E:=
 ⟨RT.refl,z,λh _ i j g=>by
  unfold red;split
  ·rename_i q;rw[z i q.1 q.2,Int.zero_fdiv,bp,js]
  ·rfl,λj N M P H i a e=>by
  refine aQ (H.bo i a e) ?_;have c3:1<=P^3:=fC _ _ H.one;have:N<=N*(M+2):=bI N (by omega);have:N*(M+2)<=N*(M+2)*P^3:=bI _ c3
  omega,λT P f b c _ _=>b.up (by
  have d:1<=P^6:=fC _ _ c;have l:T<=T*P^6:=bI _ d;omega)⟩
structure Bs(m:Nat)(A0:Mt)(D:Int):Prop where
 sym:EqM m (tr A0) A0
 z:∃Z0,EqM m (mul m Z0 A0) (λi j=>D*one i j)
 nz:D≠0
 m7:m<=7
theorem Adm.trs{m:Nat}{b E:Mt}(d:EqM m (PM.tr b) b)(h:Adm m b E):Adm m b (PM.tr E):=by have a:=h.tr;exact⟨a.ex,λi j f c=>(ZF (λ_ _=>rfl) λk e=>(d.mulL k j e c).symm).trans (a.val i j f c),a.nil⟩
structure Cr(m k:Nat)(A0 E:Mt):Prop where
 adm:Adm m A0 E
 d1:∀i j,i<k->j<m->j≠i->E i j=0/\E j i=0
 d2:∀i,i<k->1<=E i i
 d3:∀i a b,i<k->i<=a->i<=b->a<m->b<m->E i i∣E a b
theorem Cr.rt{m k:Nat}{o E n:Mt}(c:Cr m k o E)(r:RT m k E n):Cr m k o n:=by
 refine⟨c.adm.rt r,λi j d h l=>⟨by rw[r.up i j d];exact(c.d1 i j d h l).1,?_⟩,λi d=>by rw[r.up i i d];exact c.d2 i d,λi a b d t p f e=>?_⟩
 ·by_cases q:j<k
  ·rw[r.up j i q];exact(c.d1 i j d h l).2
  ·exact g6.mp (r.dvd (c:=0) (λx s g=>g6.mpr (c.d1 i x d g (by omega)).2) j (by omega) h)
 ·rw[r.up i i d];by_cases q:a<k
  ·rw[r.up a b q];exact c.d3 i a b d t p f e
  ·exact r.dvd (λx s g=>c.d3 i x b d (by omega) p g e) a (by omega) f
theorem Cr.tr{m k:Nat}{e E:Mt}{D:Int}(b:Bs m e D)(c:Cr m k e E):Cr m k e (PM.tr E):=
 ⟨c.adm.trs b.sym,λi j d l h=>⟨(c.d1 i j d l h).2,(c.d1 i j d l h).1⟩,c.d2,λi a b d o n f g=>c.d3 i b a d n o g f⟩
theorem Cr.col{m k:Nat}{d E:Mt}{D:Int}(b:Bs m d D)(c:Cr m k d E){j:Nat}{x:Int}(l:k<=j)(a:j<m)(h:∀i,k<=i->i<m->x∣E i j):x∣D:=by
 obtain⟨g,f⟩:=b.z;refine c.adm.div f a λi e=>?_;by_cases q:i<k
 ·rw[(c.d1 i j q a (by omega)).1];exact cU x
 ·exact h i (by omega) e
theorem Cr.piv{m k:Nat}{a E:Mt}{D:Int}(b:Bs m a D)(c:Cr m k a E)(d:k<m)(z:∀i,k<i->i<m->E i k=0):E k k≠0/\E k k∣D:=by
 have:E k k∣D:=c.col b (aJ k) d λi f e=>by
  by_cases q:i=k
  ·rw[q];exact gC _
  ·rw[z i (by omega) e];exact cU _
 exact⟨λh=>b.nz (g6.mp (h▸this)),this⟩
theorem Zck{a b:Int}(h:a∣b)(f:b≠0)(n:¬b∣a):2*a.natAbs<=b.natAbs:=by
 obtain⟨c,d⟩:=h;have e:b.natAbs=a.natAbs*c.natAbs:=by rw[d,cB]
 have g:c.natAbs≠0:=λz=>f (by rw[d,Int.natAbs_eq_zero.mp z,b5])
 have c1:c.natAbs≠1:=λz=>n (by
  refine cQ.mp ?_;rw[e,z,Nat.mul_one];exact Nat.dvd_refl _)
 have:a.natAbs*2<=a.natAbs*c.natAbs:=bV _ (by omega);omega
structure RZ(m k e β γ:Nat)(A0 E:Mt):Prop where
 cr:Cr m k A0 E
 nz:E k k≠0
 pb:(E k k).natAbs<=2^e
 rz:∀j,k<j->j<m->E k j=0
 mb:Mn m k (2^β) E
 lb:∀i j,i<m->j<m->(E i (m+j)).natAbs<=2^γ
 rb:∀i j,i<m->j<m->(E (m+i) j).natAbs<=2^γ
theorem RZ.ab{m k e a d:Nat}{c E:Mt}(h:RZ m k e a d c E):∀i j,k<=i->i<m->k<=j->j<m->(E i j).natAbs<=2^a:=λi j b l f g=>h.mb.ab b l f g
theorem pw2{a b:Nat}(h:a<=b):2^a<=2^b:=jG (by omega) h
theorem bits3(g u e:Nat):2*(2^g*(2^u+2)*(2^e)^3)<=2^(g+u+3*e+3):=by
 have a:2^u+2<=2^(u+2):=by have:=bz (n:=u);rw[dh,dh];omega
 have d:(2^e)^3=2^(3*e):=by rw[<-Nat.pow_mul,cp]
 rw[d];have b:2^g*(2^u+2)*2^(3*e)<=2^g*2^(u+2)*2^(3*e):=cK _ (bV _ a);rw[<-gP,<-gP] at b;have c:2^(g+u+3*e+3)=2*2^(g+(u+2)+3*e):=by rw[show g+u+3*e+3=(g+(u+2)+3*e)+1 by omega,dh];omega
 rw[c];omega
theorem CL.beside{m k e u a:Nat}{E b:Mt}(c:CL m k E b)(l:1<=2^e)(pv:E k k≠0->(E k k).natAbs<=2^e)(o:E k k=0->∀i,k<i->i<m->(E i k).natAbs<=2^e)(n:∀i,k<=i->i<m->(E i k).natAbs<=2^u)
  (d:∀i j,i<m->j<m->(E i (m+j)).natAbs<=2^a):∀i j,i<m->j<m->(b i (m+j)).natAbs<=2^(a+u+3*e+3):=λi j f g=>by
 by_cases q:i<k
 ·rw[c.rt.up i _ q];exact aQ (d i j f g) (pw2 (by omega))
 ·exact aQ (c.bd (m+j) (2^a) (2^u) (2^e) ⟨λx p h=>d x j h g,l,pv,o,.inl n⟩ i (by omega) f) (bits3 _ _ _)
theorem HS{m k e p s:Nat}{o:Nat->Nat}{t E a:Mt}{D:Int}(b:Bs m t D)(x:k<m)(h:RZ m k e (o e) p t E)(c:CL m k E a)(J:o e+3*e+3<=s)(I:∀f,e=f+1->Mn m k (2^(o f)) a) :
  (RZ m k e (o e) (p+s) t a/\RZ m k e (o e) (p+s) t (tr a)/\∀i,k<i->i<m->E k k∣E i k)\/
   (∃f,e=f+1/\RZ m k f (o f) (p+s) t (tr a)/\¬ ∀i,k<i->i<m->E k k∣E i k):=by
 have v:=h.cr.rt c.rt
 have A:∀i j,i<m->j<m->(a i (m+j)).natAbs<=2^(p+s):=λi j g l=>
  aQ (c.beside (e:=e) (u:=o e) bz (λ_=>h.pb) (λz=>absurd z h.nz) (λi n d=>h.ab i k n d (aJ _) x) h.lb i j g l) (pw2 (by omega))
 have y:∀i j,i<m->j<m->(a (m+i) j).natAbs<=2^(p+s):=λi j g l=>by rw[c.rt.low _ _ (by omega)];exact aQ (h.rb i j g l) (pw2 (by omega))
 by_cases all:∀i,k<i->i<m->E k k∣E i k
 ·refine .inl ?_;have H:=c.same h.nz all;have r:∀j,a k j=E k j:=λj=>by rw[H k j x,red_k]
  have C:Mn m k (2^(o e)) a:=h.mb.same (q:=λi=>if k<i/\i<m then(E i k).fdiv (E k k) else 0) (by show(if k<k/\k<m then _ else _:Int)=0;rw[ku (by omega)]) (λi j n d=>by
   rw[H i j d];show red m k E i j=E i j-(if k<i/\i<m then(E i k).fdiv (E k k) else 0)*E k j;by_cases q:k<i
   ·rw[TQ q d,kr ⟨q,d⟩]
   ·rw[ku (λw=>q w.1),show i=k by omega,red_k];omega) c.z h.rz
  exact⟨⟨v,by rw[r];exact h.nz,by rw[r];exact h.pb,λj n d=>by rw[r];exact h.rz j n d,C,A,y⟩,
   ⟨v.tr b,by show a k k≠0;rw[r];exact h.nz,by show(a k k).natAbs<=_;rw[r];exact h.pb,λj n d=>c.z j n d,C.tr,λi j g l=>y j i l g,λi j g l=>A j i l g⟩,all⟩
 ·refine .inr ?_;have pv:=v.piv b x c.z
  have G:∀i,k<=i->i<m->a k k∣E i k:=c.rt.back.dvd λi n d=>by
   by_cases q:i=k
   ·rw[q];exact gC _
   ·rw[c.z i (by omega) d];exact cU _
  have M:2*(a k k).natAbs<=(E k k).natAbs:=Zck (G k (aJ _) x) h.nz λz=>all λi n d=>Int.dvd_trans z (G i (by omega) d);have F:=h.pb;have L:1<=(a k k).natAbs:=by have:=pv.1;omega
  obtain⟨f,rfl⟩:∃f,e=f+1:=by
   cases e with
   | zero=>exfalso;rw[Nat.pow_zero] at F;omega
   | succ f=>exact⟨f,rfl⟩
  have B:(a k k).natAbs<=2^f:=by rw[dh] at F;omega
  exact⟨f,rfl,⟨v.tr b,pv.1,B,λj n d=>c.z j n d,(I f rfl).tr,λi j g l=>y j i l g,λi j g l=>A j i l g⟩,all⟩
structure Bv(m k e0:Nat)(s β:Nat->Nat)(A0:Mt):Prop where
 hs:∀e,e<=e0->β e+3*e+3<=s e
 cl:∀e γ E E',e<e0->RZ m k (e+1) (β (e+1)) γ A0 E->CL m k E E'->Mn m k (2^(β e)) E'
theorem HV{m k e l g:Nat}{s f:Nat->Nat}{a E d:Mt}{D:Int}(b:Bs m a D)(B:Bv m k l s f a)(p:k<m)(n:e<=l)(h:RZ m k e (f e) g a E)(c:CL m k E d) :
  (RZ m k e (f e) (g+s e) a d/\RZ m k e (f e) (g+s e) a (tr d)/\∀i,k<i->i<m->E k k∣E i k)\/
   (∃j,e=j+1/\RZ m k j (f j) (g+s e) a (tr d)/\¬ ∀i,k<i->i<m->E k k∣E i k):=
 HS b p h c (B.hs e n) λj o=>by subst o;exact B.cl j g E d (by omega) h c
noncomputable def f1(s:Nat->Nat):Nat->Nat
 | 0=>0
 | e+1=>f1 s e+s e+s (e+1)
noncomputable def f2(s:Nat->Nat):Nat->Nat
 | 0=>0
 | e+1=>f2 s e+s e+s (e+1)+(2*s e+1)
theorem f1_mono(s:Nat->Nat){a b:Nat}(h:a<=b):f1 s a<=f1 s b:=by
 induction b with
 | zero=>rw[show a=0 by omega];exact aJ _
 | succ b ih=>
  by_cases q:a=b+1
  ·rw[q];exact aJ _
  ·have:=ih (by omega);show f1 s a<=f1 s b+s b+s (b+1);omega
theorem f2_step(s:Nat->Nat){a b:Nat}(h:a<b):f2 s a+f1 s b+2*s a+1<=f2 s b+f1 s a:=by
 induction b with
 | zero=>omega
 | succ b ih=>
  show f2 s a+(f1 s b+s b+s (b+1))+2*s a+1<=f2 s b+s b+s (b+1)+(2*s b+1)+f1 s a;by_cases q:a=b
  ·subst q;omega
  ·have:=ih (by omega);omega
theorem f2_ge(s:Nat->Nat)(a:Nat):f1 s a<=f2 s a:=by
 induction a with
 | zero=>exact aJ _
 | succ a ih=>
  show f1 s a+s a+s (a+1)<=f2 s a+s a+s (a+1)+(2*s a+1);omega
theorem f2_le(s:Nat->Nat){a b:Nat}(h:a<=b):f2 s a+f1 s b<=f2 s b+f1 s a:=by
 by_cases q:a=b
 ·subst q;omega
 ·have:=f2_step s (show a<b by omega);omega
theorem turnV{m k e v n:Nat}{s g:Nat->Nat}{f E F o:Mt}{D:Int}(b:Bs m f D)(B:Bv m k v s g f)(r:k<m)(u:e<=v)(h:RZ m k e (g e) n f (tr E))(c:CL m k (tr E) F)(w:CL m k (tr F) o) :
  (∃e' γ',e'<=e/\γ'+f1 s e'<=n+f1 s e+2*s e'/\RZ m k e' (g e') γ' f o/\RZ m k e' (g e') γ' f (tr o)/\((¬ ∀i,k<i->i<m->E k k∣E k i)->e'<e))\/
   (∃e' γ',e'<e/\γ'+f1 s e'<=n+f1 s e/\RZ m k e' (g e') γ' f (tr o)):=by
 rcases HV b B r u h c with⟨q,A,l⟩ | ⟨j,rfl,q,t⟩
 ·rcases HV b B r u A w with⟨d,p,_⟩ | ⟨a,rfl,d,t⟩
  ·exact .inl ⟨e,_,aJ _,by omega,d,p,λz=>absurd l z⟩
  ·exfalso;refine t λi x y=>?_;have:tr F i k=0:=q.rz i x y;rw[this];exact cU _
 ·rcases HV b B r (by omega) q w with⟨d,p,_⟩ | ⟨a,rfl,d,_⟩
  ·refine .inl ⟨j,_,by omega,?_,d,p,λ_=>by omega⟩;show _<=n+(f1 s j+s j+s (j+1))+2*s j;omega
  ·refine .inr ⟨a,_,by omega,?_,d⟩;show _<=n+(f1 s a+s a+s (a+1)+s (a+1)+s (a+1+1));omega
end PM
namespace PW
open L2 VL
structure SInv(m:Nat)(A E:Mt)(d:Int)(p:Nat):Prop where
 dp:0<d
 off:∀i j,p<=i->i<m->p<=j->j<m->i≠j->E i j<=0
 row:∀i,p<=i->i<m->0<=sN m λj=>if j<p then 0 else E i j
 dia:∀i,p<=i->i<m->E i i<=d*A i i
theorem SInv.piv{m p:Nat}{A E:Mt}{d:Int}(S:SInv m A E d p)(a:p<m):0<=E p p:=by
 have h:=S.row p (aJ p) a;have e:=Z4 (n:=m) (f:=λj=>if j=p then E p p else 0) a λi _ ne=>ku ne
 have l:=Yk (n:=m) (f:=λj=>(if j=p then E p p else 0)+(-1)*(if j<p then 0 else E p j)) λj b=>by
  by_cases q:j=p
  ·subst q;rw[kr rfl,ku (by omega)];omega
  ·rw[ku q];split
   ·omega
   ·have:=S.off p j (aJ p) a (by omega) b (λz=>q z.symm);omega
 rw[Z3,ZA,e,kr rfl] at l;omega
theorem SInv.step{m p:Nat}{A X E:Mt}{d:Int}(ok:DF m A X)(f:p<m)(I:DG m A X p E d)(S:SInv m A E d p):SInv m A (λi j=>if i=p then E i j else(E p p*E i j-E i p*E p j).fdiv d) (E p p) (p+1):=by
 obtain⟨s,t⟩:=Tc ok f I;have h:0<E p p:=by have:=S.piv f;have:=s.nz;omega
 have n:=S.dp;have k:∀i j,p+1<=i->i<m->j<m->d*(if i=p then E i j else(E p p*E i j-E i p*E p j).fdiv d)=E p p*E i j-E i p*E p j:=λi j c b l=>by obtain⟨q,e⟩:=t i j b (by omega) (by omega);rw[ku (by omega),e,dk _ (by omega)]
 have o:∀i j,p+1<=i->i<m->p+1<=j->j<m->0<=E i p*E p j:=λi j c b l g=>
  Int.mul_nonneg_of_nonpos_of_nonpos (S.off i p (by omega) b (aJ p) f (by omega)) (S.off p j (aJ p) f (by omega) g (by omega))
 refine⟨h,λi j c b l g ne=>?_,λi c b=>?_,λi c b=>?_⟩
 ·refine fF (a:=d) ?_ n;rw[k i j c b g,b5];have:=Int.mul_nonpos_of_nonneg_of_nonpos (gZ h) (S.off i j (by omega) b (by omega) g ne);have:=o i j c b l g;omega
 ·refine fF (a:=d) ?_ n;rw[b5,<-ZA]
  have e:(sN m λj=>d*(if j<p+1 then 0 else if i=p then E i j else(E p p*E i j-E i p*E p j).fdiv d))=sN m λj=>E p p*(if j<p then 0 else E i j)+(- E i p)*(if j<p then 0 else E p j):=Zh λj u=>by
   by_cases q:j<p
   ·rw[kr (by omega),kr q,kr q];simp
   ·rw[ku q,ku q];by_cases r:j=p
    ·subst r;rw[kr (by omega),bR,bG (E i j)];omega
    ·rw[ku (by omega),k i j c b u,bR];omega
  rw[e,Z3,ZA,ZA];have:=cL (gZ h) (S.row i (by omega) b);have:=cL (a:=- E i p) (by have:=S.off i p (by omega) b (aJ p) f (by omega);omega) (S.row p (aJ p) f);omega
 ·refine fF (a:=d) ?_ n;rw[k i i c b b];have:=o i i c b c b;have:=eH (S.dia i (by omega) b) (gZ h);rw[cG] at this;omega
noncomputable def prN(A:Mt):Nat->Int
 | 0=>1
 | p+1=>prN A p*A p p
theorem FW{m:Nat}{A X:Mt}(ok:DF m A X)(o:∀i j,i<m->j<m->i≠j->A i j<=0)(r:∀i,i<m->0<=sN m (A i))(a:∀i,i<m->0<=A i i):∀{p:Nat},p<=m->SInv m A (X9 m X p).1 (X9 m X p).2 p/\(X9 m X p).2<=prN A p
 | 0,_=>⟨⟨by show(0:Int)<1;decide,λi j _ b _ c ne=>by show X i j<=0;rw[ok.ext i j b c];exact o i j b c ne,λi _ b=>by
   rw[Zh (g:=A i) λj c=>by rw[ku (by omega)];exact ok.ext i j b c];exact r i b,λi _ b=>by show X i i<=1*A i i;rw[ok.ext i i b b];omega⟩,df _⟩
 | p+1,h=>by obtain⟨S,l⟩:=FW ok o r a (p:=p) (by omega);refine⟨S.step ok (by omega) (YJ ok (by omega)),?_⟩;have d:=S.dia p (aJ p) (by omega);exact Int.le_trans d (Int.mul_le_mul_of_nonneg_right l (a p (by omega)))
end PW
namespace PM
open PW
theorem CG(g e:Nat):64*(2^g*(2^e)^6)=2^(g+6*e+6):=by rw[<-Nat.pow_mul,<-gP,gP 2 _ 6,cp 64,cp e 6]
noncomputable def ad:Nat->Nat
 | 0=>0
 | n+1=>ad n+(6*(n+1)+6)
theorem DT{a b:Nat}(h:a<=b):ad a<=ad b:=by
 induction b with
 | zero=>rw[show a=0 by omega];exact aJ _
 | succ b ih=>
  by_cases q:a=b+1
  ·rw[q];exact aJ _
  ·have:=ih (by omega);show ad a<=ad b+_;omega
noncomputable def be(t e0 e:Nat):Nat:=t+(ad e0-ad e)
noncomputable def sB(β:Nat->Nat)(e:Nat):Nat:=β e+3*e+3
theorem Bv.gen{m k d t:Nat}{f:Mt}{D:Int}(b:Bs m f D):Bv m k d (sB (be t d)) (be t d) f:=
 ⟨λe _=>aJ _,λe j E i l h c=>by
  refine(c.mn _ (2^(e+1)) b.m7 h.mb bz (λ_=>h.pb) λz=>absurd z h.nz).up ?_;rw[CG];refine pw2 ?_;unfold be;have g:ad (e+1)=ad e+(6*(e+1)+6):=rfl;have n:=DT (a:=e+1) (b:=d) (by omega);omega⟩
noncomputable def bE(t e:Nat):Nat:=if 20<=e then t else 210
theorem Bv.end{m k t:Nat}{g:Mt}{D:Int}(b:Bs m g D)(A:k<m)(r:D.natAbs<=2^20)(M:m<=k+2):Bv m k 20 (sB (bE t)) (bE t) g:=by
 refine⟨λe _=>aJ _,λe L E o C h c=>?_⟩;have l:∀{x:Int},x∣D->x.natAbs<=2^20:=λ{x} d=>aQ (fM (by have:=b.nz;omega) (cQ.mpr d)) r;have u:=h.cr.rt c.rt
 have ent:∀i j,k<=i->i<m->k<=j->j<m->(o i j).natAbs<=2^103:=λi j s f I a=>by
  by_cases v:j=k
  ·subst v;by_cases q:i=j
   ·rw[q];exact aQ (l (u.piv b A c.z).2) (pw2 (by omega))
   ·rw[c.z i (by omega) f];exact cP _
  ·have y:m=k+2:=by omega
   have G:j=k+1:=by omega
   have w:∀i,k<=i->i<m->(E i j).natAbs<=2^20:=λi B J=>by
    by_cases q:i=k
    ·rw[q,h.rz j (by omega) a];exact cP _
    ·have p:i=j:=by omega
     rw[p];refine l (h.cr.col b (by omega) a λx F H=>?_);by_cases q:x=k
     ·rw[q,h.rz j (by omega) a];exact cU _
     ·rw[show x=j by omega];exact gC _
   exact aQ (c.bd j (2^20) (2^(e+1)) (2^(e+1)) ⟨w,bz,λ_=>h.pb,λz=>absurd z h.nz,.inr ⟨y,h.rz j (by omega) a,h.nz,h.pb⟩⟩ i s f) (aQ (bits3 _ _ _) (pw2 (by omega)))
 refine(Mn.ent (n:=2) bz (by omega) ent).up ?_;unfold bE;rw[ku (by omega)];decide
theorem f2_top{s:Nat->Nat}{S:Nat}:∀{n:Nat},(∀e,e<=n->s e<=S)->f2 s n<=n*(4*S+1)
 | 0,_=>cP _
 | n+1,h=>by have a:=f2_top (n:=n) λe c=>h e (by omega);have d:=h n (by omega);have b:=h (n+1) (aJ _);show f2 s n+s n+s (n+1)+(2*s n+1)<=_;rw[jE];omega
theorem f2_end(t:Nat):f2 (sB (bE t)) 20<=t+23000:=by
 have a:=f2_top (s:=sB (bE t)) (S:=273) (n:=19) λe c=>by unfold sB bE;rw[ku (by omega)];omega
 show f2 (sB (bE t)) 19+sB (bE t) 19+sB (bE t) 20+(2*sB (bE t) 19+1)<=_;have d:sB (bE t) 19=270:=rfl;have b:sB (bE t) 20=t+3*20+3:=rfl;omega
structure Pl(m k a γ:Nat)(A0 E:Mt):Prop where
 cr:Cr m k A0 E
 mb:Mn m k (2^a) E
 lb:∀i j,i<m->j<m->(E i (m+j)).natAbs<=2^γ
 rb:∀i j,i<m->j<m->(E (m+i) j).natAbs<=2^γ
theorem Pl.ab{m k a d:Nat}{c E:Mt}(h:Pl m k a d c E):∀i j,k<=i->i<m->k<=j->j<m->(E i j).natAbs<=2^a:=λi j b g e f=>h.mb.ab b g e f
theorem Pl.first{m k a w s f:Nat}{v:Nat->Nat}{o E d:Mt}{D:Int}(b:Bs m o D)(g:k<m)(h:Pl m k a w o E)(c:CL m k E d)(z:(d k k).natAbs<=2^f)(t:7*a+6<=v f)(A:4*a+3<=s):RZ m k f (v f) (w+s) o (tr d):=by
 have y:=h.cr.rt c.rt;have col:∀i,k<=i->i<m->(E i k).natAbs<=2^a:=λi n r=>h.ab i k n r (aJ _) g;refine⟨y.tr b,(y.piv b g c.z).1,z,λj n r=>c.z j n r,?_,λi j p q=>?_,λi j p q=>?_⟩
 ·refine((c.mn _ (2^a) b.m7 h.mb bz (λ_=>col k (aJ _) g) λ_ x t l=>col x (by omega) l).up ?_).tr;rw[CG];exact pw2 (by omega)
 ·show(d (m+j) i).natAbs<=_;rw[c.rt.low _ _ (by omega)];exact aQ (h.rb j i q p) (pw2 (by omega))
 ·show(d j (m+i)).natAbs<=_;exact aQ (c.beside (e:=a) (u:=a) bz (λ_=>col k (aJ _) g) (λ_ x t l=>col x (by omega) l) col h.lb j i q p) (pw2 (by omega))
theorem Pl.small{m k a o X:Nat}{g E f:Mt}{D:Int}(b:Bs m g D)(j:k<m)(h:Pl m k a o g E)(c:CL m k E f)(r:∀i,k<=i->i<m->(E i k).natAbs<=X):(f k k).natAbs<=X/\(f k k).natAbs<=D.natAbs:=by
 have p:=h.cr.rt c.rt;have pv:=p.piv b j c.z;refine⟨?_,fM (by have:=b.nz;omega) (cQ.mpr pv.2)⟩
 have l:∀i,k<=i->i<m->f k k∣E i k:=c.rt.back.dvd λi e d=>by
  by_cases q:i=k
  ·rw[q];exact gC _
  ·rw[c.z i (by omega) d];exact cU _
 obtain⟨i,e,d,s⟩:∃i,k<=i/\i<m/\E i k≠0:=by refine bc λn=>pv.1 ?_;refine g6.mp (c.rt.dvd (c:=0) (λi e d=>?_) k (aJ _) j);refine g6.mpr (bc λz=>n ⟨i,e,d,z⟩)
 have:=fM (by omega) (cQ.mpr (l i e d));have:=r i e d;omega
theorem RZ.unfit{m k e s d u:Nat}{l E:Mt}{D:Int}(b:Bs m l D)(y:k<m)(h:RZ m k e s d l E)(t:RZ m k e s d l (tr E))(v:k<u)(c:u<m):RZ m k e s (d+1) l (tr (λi j=>if i=k then E i j-1*E u j else E i j)):=by
 have r:=RT.sub (m:=m) (p:=k) (a:=k) (b:=u) (q:=1) (E:=E) (aJ _) y (by omega) c (by omega);have x:E u k=0:=t.rz u v c;have p2:2^d+2^d=2^(d+1):=by rw[dh];omega
 have kk:(if k=k then E k k-1*E u k else E k k)=E k k:=by rw[kr rfl,x];omega
 refine⟨(h.cr.rt r).tr b,?_,?_,λj g o=>?_,?_,λi j f n=>?_,λi j f n=>?_⟩
 ·show(if k=k then E k k-1*E u k else E k k)≠0;rw[kk];exact h.nz
 ·show(if k=k then E k k-1*E u k else E k k).natAbs<=_;rw[kk];exact h.pb
 ·show(if j=k then E j k-1*E u k else E j k)=0;rw[ku (by omega)];exact t.rz j g o
 ·exact(h.mb.less v c (λj=>kr rfl) (λi j w=>ku w) (λi g o=>t.rz i g o) h.rz).tr
 ·show(if m+j=k then E (m+j) i-1*E u i else E (m+j) i).natAbs<=_;rw[ku (by omega)];exact aQ (h.rb j i n f) (pw2 (by omega))
 ·show(if j=k then E j (m+i)-1*E u (m+i) else E j (m+i)).natAbs<=_;split
  ·have g:=h.lb j i n f;have o:=h.lb u i c f;have:=gx (E j (m+i)) (1*E u (m+i));omega
  ·exact aQ (h.lb j i n f) (pw2 (by omega))
theorem Mn.next{m k T:Nat}{E l:Mt}(h:Mn m k T E)(e:∀i j,k<i->k<j->l i j=E i j):Mn m (k+1) T l:=λj g n d f=>by rw[ZU (B:=λa b=>E (g a) (n b)) λa b c o=>e _ _ (d a c).1 (f b o).1];exact h j g n (λa c=>⟨by have:=(d a c).1;omega,(d a c).2⟩) (λa c=>⟨by have:=(f a c).1;omega,(f a c).2⟩)
theorem RZ.next{m k e v y:Nat}{x E:Mt}(H:k<m)(h:RZ m k e v y x E)(B:RZ m k e v y x (tr E))(F:∀i j,k<i->i<m->j<m->E k k∣E i j):Pl m (k+1) v y x (λi j=>if i=k/\E k k<0 then-E i j else E i j):=by
 have l:∀i j,k<=i->i<m->k<=j->j<m->E k k∣E i j:=λi j G C I A=>by
  by_cases q:i=k
  ·rw[q];by_cases D:j=k
   ·rw[D];exact gC _
   ·rw[h.rz j (by omega) A];exact cU _
  ·exact F i j (by omega) C A
 by_cases s:E k k<0
 ·have r:=RT.neg (m:=m) (p:=k) (a:=k) (E:=E) (aJ _) H
  have e:(λi j=>if i=k/\E k k<0 then-E i j else E i j)=(λi j=>if i=k then-E i j else E i j):=by
   funext i j;by_cases q:i=k
   ·rw[kr ⟨q,s⟩,kr q]
   ·rw[ku (λz=>q z.1),ku q]
  rw[e];have c:=h.cr.rt r;refine⟨⟨c.adm,λi j n g u=>?_,λi n=>?_,λi a b n o t f d=>?_⟩,h.mb.next λi j G C=>ku (by omega),λi j n g=>?_,λi j n g=>?_⟩
  ·by_cases q:i=k
   ·subst q;refine⟨?_,?_⟩
    ·show(if i=i then _ else _)=_;rw[kr rfl];by_cases w:j<i
     ·have:=(h.cr.d1 j i w (by omega) (by omega)).2;rw[this];rfl
     ·rw[h.rz j (by omega) g];rfl
    ·show(if j=i then _ else _)=_;rw[ku u];by_cases w:j<i
     ·exact(h.cr.d1 j i w (by omega) (by omega)).1
     ·exact B.rz j (by omega) g
   ·exact c.d1 i j (by omega) g u
  ·by_cases q:i=k
   ·subst q;show 1<=(if i=i then _ else _);rw[kr rfl];omega
   ·exact c.d2 i (by omega)
  ·by_cases q:i=k
   ·subst q;show(if i=i then-E i i else E i i)∣(if a=i then-E a b else E a b);rw[kr rfl,Int.neg_dvd];split
    ·exact Int.dvd_neg.mpr (l a b o f t d)
    ·exact l a b o f t d
   ·exact c.d3 i a b (by omega) o t f d
  ·show(if i=k then-E i (m+j) else E i (m+j)).natAbs<=_;split
   ·rw[fu];exact h.lb i j n g
   ·exact h.lb i j n g
  ·show(if m+i=k then _ else _:Int).natAbs<=_;rw[ku (by omega)];exact h.rb i j n g
 ·have e:(λi j=>if i=k/\E k k<0 then-E i j else E i j)=E:=by funext i j;rw[ku (λz=>s z.2)]
  rw[e];refine⟨⟨h.cr.adm,λi j n g u=>?_,λi n=>?_,λi a b n o t f d=>?_⟩,h.mb.next λi j _ _=>rfl,h.lb,h.rb⟩
  ·by_cases q:i=k
   ·subst q;by_cases w:j<i
    ·have:=h.cr.d1 j i w (by omega) (by omega);exact⟨this.2,this.1⟩
    ·exact⟨h.rz j (by omega) g,B.rz j (by omega) g⟩
   ·exact h.cr.d1 i j (by omega) g u
  ·by_cases q:i=k
   ·subst q;have:=h.nz;omega
   ·exact h.cr.d2 i (by omega)
  ·by_cases q:i=k
   ·subst q;exact l a b o f t d
   ·exact h.cr.d3 i a b (by omega) o t f d
end PM
namespace PW
open PySem L2 VL VX
theorem JT{F:XS}{x:XT}{s:ZH}{k:Nat}(J:Nat->ZH->Prop)(f:J k s)(st:∀k s,J k s->x s=aA aB\/(x s=aA aC/\Ww F s λs2=>∃k',k'<k/\J k' s2)):Ww (Xz x F) s λd=>∃k,J k d/\x d=aA aB:=by
 obtain⟨d,k',a,b,c⟩:=FP (c:=x) (fb:=F) J (λk s h=>by
  rcases st k s h with z | ⟨z,s2,e,k',g,i⟩
  ·exact .inl z
  ·exact .inr ⟨z,s2,k',e,g,i⟩) f
 exact⟨d,a,k',b,c⟩
noncomputable def cR(w:Nat)(f:Nat->Int):PV:=.cst (iL (ZZ w f))
noncomputable def bL(w:Nat)(E:Mt):List PV:=(aE w).map λi=>cR w (E i)
section
variable {w m k i j a:Nat} {E E':Mt} {f g h:XE} {s:ZH}
theorem Tf:(bL w E).length=w:=by simp[bL]
theorem KU(a:i<w):(bL w E)[i]?=aA (cR w (E i)):=by unfold bL;rw[aW,bM a];rfl
theorem VG(f:Nat->Int):Yb (cR w f)=aC:=Yc _
theorem NZ:ZL (bL w E)=aC:=by rw[Xx,ao];intro x a;obtain⟨i,_,rfl⟩:=bj.mp a;exact VG _
theorem Ag{v:Nat->Int}(c:a<w):(bL w E).set a (cR w v)=bL w (YZ a v E):=by
 apply cq;intro i;rw[au,Tf];by_cases b:i<w
 ·rw[KU (E:=YZ a v E) b];by_cases q:a=i
  ·subst q;rw[kr rfl,kr b,Z5]
  ·rw[ku q,KU b,Y2 _ _ (λz=>q z.symm)]
 ·rw[bY (l:=bL w (YZ a v E)) (by rw[Tf];omega),ku (by omega)];exact bY (by rw[Tf];omega)
theorem PL(a:i<w)(q:f s=aA (.lst (bL w E)))(b:g s=aA (.int (i:Int))):Zi ZM f g s=aA (cR w (E i)):=o2 q b (Vj (KU a))
theorem Zat{v:Nat->Int}(b:j<w)(q:f s=aA (cR w v))(a:g s=aA (.int (j:Int))):Zi ZM f g s=aA (.int (v j)):=o2 q a (Pf b)
theorem TR(d:i<w)(c:j<w)(q:f s=aA (.lst (bL w E)))(b:g s=aA (.int (i:Int)))(a:h s=aA (.int (j:Int))):Zi ZM (Zi ZM f g) h s=aA (.int (E i j)):=Zat c (PL d q b) a
theorem M8{v:Nat->Int}{c:Nat}(b:a<w)(q:f s=aA (.int (a:Int)))(e:g s=aA (cR w v))(d:Iu s c=aA (bL w E)):Xo c f g s=aA (.nx (s.set c (aA (.lst (bL w (YZ a v E)))))):=by rw[Om e q d NZ (VG _) (Ut (by rw[Tf];exact b)),Ag b]
theorem S5{v:Nat->Int}(q:f s=aA (.lst (iL (ZZ w v)))):PD f s=aA (cR w v):=by unfold PD;rw[q];show(XY (iL (ZZ w v))).map _=_;rw[Xf];rfl
theorem FX{u v:Nat->Int}:Vo (iL (ZZ w u)) (iL (ZZ w v))=(aE w).map λj=>.tup [.int (u j),.int (v j)]:=by rw[YO _ _ (by simp[ZE]),aO,ZE];refine aq λi a=>?_;have a:=aR.mp a;rw[YD _ i (by rw[ZE];exact a),YD _ i (by rw[ZE];exact a),YE a,YE a]
theorem FY{x:Int}{G:Nat}(h:x.natAbs<2^G)(a:0<G):x.natAbs.log2<G:=by
 by_cases z:x.natAbs=0
 ·rw[z];have:Nat.log2 0=0:=by decide
  omega
 ·exact(jC z).mpr h
theorem FZ{x y:Int}{G:Nat}(h:x.natAbs<2^G)(b:y.natAbs<2^G)(a:0<G)(c:G<=67000000):CMulW x y:=⟨by have:=FY h a;omega,by have:=FY b a;omega⟩
theorem JU{u v:Nat->Int}{q:Int}(c:w<=100)(a:∀j,j<w->CMulW q (v j)):Sm [cR w u,cR w v,.int q]=aA (.lst (iL (ZZ w λj=>u j-q*v j))):=by refine Xe (ret (XI (q:=λj=>.tup [.int (u j),.int (v j)]) (λj=>u j-q*v j) ?_ c λj b=>⟨_,rfl,vP (vI rfl (vC (C:=CMulW) (op:=(· * ·)) rfl rfl (a j b)))⟩));show aA (Vo (iL (ZZ w u)) (iL (ZZ w v)))=_;rw[FX]
noncomputable def bw(m k:Nat)(E:Mt):List Nat:=((aE (m-(k+1))).map λi=>k+1+i).filter λi=>decide (E i k≠0)
theorem mem_bw{x:Nat}:x∈bw m k E↔k<x/\x<m/\E x k≠0:=by
 unfold bw;rw[gQ,bj];constructor
 ·rintro⟨⟨i,b,rfl⟩,h⟩;have:=aR.mp b;exact⟨by omega,by omega,of_decide_eq_true h⟩
 ·rintro⟨c,d,a⟩;exact⟨⟨x-(k+1),aR.mpr (by omega),by omega⟩,decide_eq_true a⟩
theorem CH:(bw m k E).Pairwise (· < ·):=by unfold bw;refine List.Pairwise.filter _ (List.pairwise_map.mpr ?_);exact List.Pairwise.imp (λh=>by omega) List.pairwise_lt_range
theorem F0{x:Nat}{r:List Nat}(e:bw m k E=x::r):PM.Fst m k E x:=by
 have a:=mem_bw.mp (show x∈bw m k E by rw[e];exact aZ);refine⟨a.1,a.2.1,a.2.2,λi c d=>bc λz=>?_⟩;have b:i∈bw m k E:=mem_bw.mpr ⟨c,by omega,z⟩;have up:=CH (m:=m) (k:=k) (E:=E);rw[e] at b up;rcases a9.mp b with q | q
 ·omega
 ·have:=List.rel_of_pairwise_cons up q;omega
theorem Uo(c:m<=w)(f:w<=100)(d:k<m):Xb [.lst (bL w E),.int (m:Int),.int (k:Int)]=aA (.lst (iL (nL (bw m k E)))):=by
 have e:iL (nL (bw m k E))=(bw m k E).map λ(i:Nat)=>PV.int (i:Int):=by simp[nL]
 rw[e];refine Xe (ret (Vu ((aE (m-(k+1))).map λi=>k+1+i) (λ(i:Nat)=>PV.int (i:Int)) (λ(i:Nat)=>PV.int (i:Int)) (λi=>decide (E i k≠0)) ?_ (by simp;omega) λi b=>?_))
 ·rw[Se (i:=(k:Int)+1) (j:=(m:Int)) (vad rfl rfl) rfl (by omega) (by omega)];unfold UZ;rw[dD,show((m:Int)-((k:Int)+1)).toNat=m-(k+1) by omega];congr 1
 ·obtain⟨x,a,rfl⟩:=bj.mp b;have:=aR.mp a;refine⟨_,rfl,xb (o2 (TR (by omega) (by omega) rfl rfl rfl) rfl ?_),λ_=>vP rfl⟩;rw[LS];simp
end
abbrev Aw(w m k:Nat)(E0 E:Mt)(x5 x6 x7:Option PV):ZH:=[aA (.lst (bL w E0)),aA (.int (m:Int)),aA (.int (k:Int)),aA (.lst (bL w E)),aA (.lst (iL (nL (bw m k E)))),x5,x6,x7]
theorem F1(x:Int):LK [.int x]=aA (.int (x.natAbs:Int)):=by
 show aA (PV.int (if x<0 then -x else x))=_;congr 2;split<;>omega
theorem DU{k f:Nat}{E:Mt}(h:k≠f):YZ f (E k) (YZ k (E f) E)=λi j=>E (PM.sw k f i) j:=by
 funext i;unfold YZ PM.sw;by_cases q:i=f
 ·rw[kr q,ku (by omega),kr q]
 ·rw[ku q];by_cases a:i=k
  ·rw[kr a,kr a]
  ·rw[ku a,ku a,ku q]
noncomputable def PN(X:List Nat)(k:Nat)(E:Mt):Mt:=λi j=>if i∈X then E i j-(E i k).fdiv (E k k)*E k j else E i j
theorem DV{w m k:Nat}{E0 E a:Mt}{d f x7:Option PV}{G:Nat}(H:w<=100)(L:m<=w)(D:k<m)(I:0<G)(A:G<=60000000)(p:∀i j,k<=i->i<m->j<w->(a i j).natAbs<2^G)(r:a k k≠0) :
  Ww (Xn [3] (Vb (Za 4)) (.one 7) (Xo 3 (Za 7) (PD (Zc Sm [Zi ZM (Za 3) (Za 7),Zi ZM (Za 3) (Za 2),Zi GW (Zi ZM (Zi ZM (Za 3) (Za 7)) (Za 2)) (Zi ZM (Zi ZM (Za 3) (Za 2)) (Za 2))]))))
   [aA (.lst (bL w E0)),aA (.int (m:Int)),aA (.int (k:Int)),aA (.lst (bL w a)),aA (.lst (iL (nL (bw m k E)))),d,f,x7]
   λs=>∃x7,s=[aA (.lst (bL w E0)),aA (.int (m:Int)),aA (.int (k:Int)),aA (.lst (bL w (PN (bw m k E) k a))),aA (.lst (iL (nL (bw m k E)))),d,f,x7]:=by
 refine DD (Zan (X:=bw m k E) (λt s=>∃x7,s=[aA (.lst (bL w E0)),aA (.int (m:Int)),aA (.int (k:Int)),aA (.lst (bL w (PN ((bw m k E).take t) k a))),aA (.lst (iL (nL (bw m k E)))),d,f,x7]) rfl ⟨x7,?_⟩ ?_) ?_
 ·rw[jA,show PN [] k a=a from funext λi=>funext λj=>ku (dA)]
 ·rintro t s g ⟨x7,rfl⟩;have o:=mem_bw.mp (dB (l:=bw m k E) g);obtain⟨x,u⟩:∃x,x=(bw m k E)[t]:=⟨_,rfl⟩;rw[<-u] at o ⊢
  have xn:x∉(bw m k E).take t:=λz=>by
   obtain⟨i,J,e⟩:=List.mem_take_iff_getElem.mp z;have h:i<t:=by omega
   have:=(List.pairwise_iff_getElem.mp (CH (m:=m) (k:=k) (E:=E))) i t (by omega) g h;omega
  have B:k∉(bw m k E).take t:=λz=>by have:=(mem_bw.mp (gO z)).1;omega
  have n:PN ((bw m k E).take t) k a x=a x:=funext λj=>ku xn;have b:PN ((bw m k E).take t) k a k=a k:=funext λj=>ku B;refine Hz (M8 (v:=λj=>a x j-(a x k).fdiv (a k k)*a k j) (by omega) rfl (S5 (c3 (PL (by omega) rfl rfl) (PL (by omega) rfl rfl) (vC (C:=λ_ j=>j≠0) (op:=jB) (TR (by omega) (by omega) rfl rfl rfl) (TR (by omega) (by omega) rfl rfl rfl) ?_) ?_)) rfl) ⟨aA (.int (x:Int)),?_⟩
  ·rw[b];exact r
  ·rw[n,b];refine JU H λj F=>?_;have q:=(PM.fd_any (x:=a x k) r).2.2;have c:=p x k (by omega) o.2.1 (by omega);refine FZ (G:=G+1) ?_ (aa (p k j (aJ _) D F) (PM.pw2 (by omega))) (by omega) (by omega);rw[dh];omega
  ·show [aA (PV.lst (bL w E0)),aA (.int (m:Int)),aA (.int (k:Int)),aA (.lst (bL w (YZ x (λj=>a x j-(a x k).fdiv (a k k)*a k j) (PN ((bw m k E).take t) k a)))),aA (.lst (iL (nL (bw m k E)))),d,f,aA (.int (x:Int))]=_;congr 4;congr 2;congr 1;funext i;unfold YZ;have tk:∀y,y∈(bw m k E).take (t+1)↔y∈(bw m k E).take t\/y=x:=λy=>by rw[fj g,bg,ag,<-u]
   by_cases q:i=x
   ·rw[kr q,q];funext j;unfold PN;rw[kr ((tk x).mpr (.inr rfl))]
   ·rw[ku q];funext j;unfold PN;by_cases c:i∈(bw m k E).take t
    ·rw[kr c,kr ((tk i).mpr (.inl c))]
    ·rw[ku c,ku (λz=>by rcases(tk i).mp z with z | z;exact c z;exact q z)]
 ·rintro s ⟨x7,rfl⟩;rw[dy];exact⟨x7,rfl⟩
theorem DW{w m k f:Nat}{E:Mt}(F:PM.Fst m k E f)(d:k<m):PN (bw m k E) k (PM.pre k f E)=PM.red m k (PM.pre k f E):=by
 funext i j;unfold PN PM.red;by_cases q:i∈bw m k E
 ·have:=mem_bw.mp q;rw[kr q,kr ⟨this.1,this.2.1⟩]
 ·rw[ku q];by_cases c:k<i/\i<m
  ·rw[kr c];have z:E i k=0:=bc λz=>q (mem_bw.mpr ⟨c.1,c.2,z⟩)
   have e:PM.pre k f E i k=0:=by
    unfold PM.pre;split
    ·show E (PM.sw k f i) k=0;rw[PM.sw_c (a:=k) (b:=f) (by omega) (λy=>F.ne (by rw[<-y];exact z))];exact z
    ·exact z
   rw[e,Int.zero_fdiv,bp,js]
  ·rw[ku c]
theorem OD{w m k G:Nat}{E0:Mt}(U:w<=100)(S:m<=w)(l:k<m)(hG:0<G)(D:G<=60000000)(Y:∀j,j<w->∃N M P,PM.Hyp m k E0 j N M P/\2*(N*(M+2)*P^3)<2^G):∃E,ZS [.lst (bL w E0),.int (m:Int),.int (k:Int)]=aA (.lst (bL w E))/\PM.CL m k E0 E:=by
 suffices g:Y3 VJ (ZN 8 [.lst (bL w E0),.int (m:Int),.int (k:Int)]) λv=>∃E,v = .lst (bL w E)/\PM.CL m k E0 E by obtain⟨v,e,E,rfl,r⟩:=Rq g;exact⟨E,e,r⟩
 have J:∀{N M P:Nat},1<=P->N<=2*(N*(M+2)*P^3):=λ{N M P} h=>by have c3:1<=P^3:=fC _ _ h;have:N<=N*(M+2):=bI N (by omega);have:N*(M+2)<=N*(M+2)*P^3:=bI _ c3;omega
 refine Z2 (Zw (c1 rfl (by rw[Qz,kr NZ]))) (Z2 (Zw (c3 rfl rfl rfl (Uo S U l))) ?_)
 obtain⟨I,O⟩:∃I,∀f,PM.Fst m k E0 f->(PM.red m k (PM.pre k f E0) k k).natAbs<I:=by
  by_cases q:∃f,PM.Fst m k E0 f
  ·obtain⟨f,F⟩:=q;refine⟨(PM.red m k (PM.pre k f E0) k k).natAbs+1,λg C=>?_⟩
   have:g=f:=by
    rcases jr g f with z | z | z
    ·exact absurd (F.ze g C.lo z) C.ne
    ·exact z
    ·exact absurd (C.ze f F.lo z) F.ne
   rw[this];omega
  ·exact⟨0,λf F=>absurd ⟨f,F⟩ q⟩
 refine Rr (JT (λn st=>∃E o d x7,st=Aw w m k E0 E o d x7/\PM.RT m k E0 E/\((E=E0/\n=I)\/(PM.Aft m k E0 E/\n=(E k k).natAbs))) ⟨E0,none,none,none,rfl,.refl,.inl ⟨rfl,rfl⟩⟩ ?_) ?_
 ·rintro n st ⟨E,o,d,x7,rfl,rt,y⟩;have a:(iL (nL (bw m k E))).length=(bw m k E).length:=by simp[nL]
  have c:xB (Zi Li (Zc YF [Za 4]) (eC (.int 0))) (Aw w m k E0 E o d x7)=aA (decide (0<(bw m k E).length)):=xb (vgt (b:=0) (c1 rfl (by rw[LR,a])) rfl)
  cases e:bw m k E with
  | nil=>exact .inl (c.trans (by rw[e];rfl))
  | cons f r=>
   refine .inr ⟨c.trans (by rw[e];rfl),?_⟩;have F:=F0 e;have Z:=F.lo
   -- the bounds
   have W:∀i j,k<=i->i<m->j<w->(E i j).natAbs<2^G:=λi j t p B=>by
    obtain⟨N,M,P',H,x⟩:=Y j B;rcases y with⟨rfl,_⟩ | ⟨A,_⟩
    ·exact ar (H.bo i t p) (ar (J H.one) x)
    ·obtain⟨N',X,b2,_⟩:=A.po j N M P' H;exact ar (X i t p) (ar b2 x)
   have Q:PM.Aft m k E0 (PM.red m k (PM.pre k f E))/\(PM.red m k (PM.pre k f E) k k).natAbs<n:=by
    rcases y with⟨rfl,rfl⟩ | ⟨A,rfl⟩
    ·exact⟨PM.Aft.first l F,O f F⟩
    ·exact A.next l F
   have pz:PM.pre k f E k k≠0:=by have:=Q.1.nz;rwa [PM.red_k] at this
   have L:∀i j,k<=i->i<m->j<w->(PM.pre k f E i j).natAbs<2^G:=λi j t p B=>by
    unfold PM.pre;split
    ·exact W _ j (by unfold PM.sw;split<;>(try split)<;>omega) (PM.sw_lt l F.hi p) B
    ·exact W i j t p B
   have u:∀o:Option PV,ES (xB (Zi (Wg aB) (Zi ZM (Zi ZM (Za 3) (Za 2)) (Za 2)) (eC (.int 0)))) (xB (Zi Hv (Zc LK [Zi ZM (Zi ZM (Za 3) (Za 5)) (Za 2)]) (Zc LK [Zi ZM (Zi ZM (Za 3) (Za 2)) (Za 2)]))) (Aw w m k E0 E (aA (.int (f:Int))) d x7)=aA (decide (E k k=0) || decide ((E f k).natAbs<(E k k).natAbs)):=λ_=>xo (xb (Ac (TR (by omega) (by omega) rfl rfl rfl) rfl)) (xb (vlt (c1 (TR (by have:=F.hi;omega) (by omega) rfl rfl rfl) (F1 _)) (c1 (TR (by omega) (by omega) rfl rfl rfl) (F1 _))));have hf:ZM (.lst (iL (nL (bw m k E)))) (.int 0)=aA (.int (f:Int)):=by rw[e];exact Vj (j:=0) rfl
   refine UR (Zw (ep (o2 rfl rfl hf))) (CC (R:=λs=>∃d,s=[aA (.lst (bL w E0)),aA (.int (m:Int)),aA (.int (k:Int)),aA (.lst (bL w (PM.pre k f E))),aA (.lst (iL (nL (bw m k E)))),aA (.int (f:Int)),d,x7]) (CD (u o) (λz=>?_) λz=>?_) ?_)
   ·have T:E k k=0\/(E f k).natAbs<(E k k).natAbs:=by simpa using z
    refine UR (Zw (ep (PL (by omega) rfl rfl) (VG _))) (UR (M8 (by omega) rfl (PL (by have:=F.hi;omega) rfl rfl) rfl) (Hz (M8 (v:=E k) (by have:=F.hi;omega) rfl rfl rfl) ⟨aA (cR w (E k)),?_⟩));show [aA (PV.lst (bL w E0)),aA (.int (m:Int)),aA (.int (k:Int)),aA (.lst (bL w (YZ f (E k) (YZ k (E f) E)))),aA (.lst (iL (nL (bw m k E)))),aA (.int (f:Int)),aA (cR w (E k)),x7]=_;rw[DU (by omega),show PM.pre k f E=λi j=>E (PM.sw k f i) j by unfold PM.pre;rw[kr T]]
   ·have T:¬(E k k=0\/(E f k).natAbs<(E k k).natAbs):=by simpa using z
    exact Hz rfl ⟨d,by rw[show PM.pre k f E=E by unfold PM.pre;rw[ku T]];rfl⟩
   ·rintro s ⟨y6,rfl⟩;refine CC (DV U S l hG D L pz) ?_;rintro s ⟨y7,rfl⟩;rw[DW (w:=w) F l];exact Hz (Zw (c3 rfl rfl rfl (Uo S U l))) ⟨_,Q.2,_,_,_,_,rfl,(rt.trans (by omega) (PM.rt_pre l F.lo F.hi)).trans (by omega) (PM.rt_red l),.inr ⟨Q.1,rfl⟩⟩
 ·rintro st ⟨n,⟨E,o,d,x7,rfl,rt,y⟩,q⟩;have a:(iL (nL (bw m k E))).length=(bw m k E).length:=by simp[nL]
  have c:xB (Zi Li (Zc YF [Za 4]) (eC (.int 0))) (Aw w m k E0 E o d x7)=aA (decide (0<(bw m k E).length)):=xb (vgt (b:=0) (c1 rfl (by rw[LR,a])) rfl);have q0:=of_decide_eq_false (ay (c.symm.trans q));have nil:bw m k E=[]:=List.eq_nil_of_length_eq_zero (by omega);have z:∀i,k<i->i<m->E i k=0:=λi t p=>bc λz=>by have:=mem_bw.mpr ⟨t,p,z⟩;rw[nil] at this;exact dA this
  refine W4 rfl ⟨E,rfl,?_⟩;rcases y with⟨rfl,_⟩ | ⟨A,_⟩
  ·exact .refl z
  ·exact .aft rt A z
section
variable {w m k:Nat} {E:Mt}
theorem Up(b:w<=100):YI [.lst (bL w E)]=aA (.lst (bL w (PM.tr E))):=by refine Xe (ret (ZX (aE w) (λ(i:Nat)=>PV.int (i:Int)) (λi=>cR w (PM.tr E i)) (Z6 (c1 rfl (by rw[LR,Tf])) (by omega)) (by simp;omega) λi a=>⟨_,rfl,rfl,ep (S5 ?_) (VG _)⟩));have a:=aR.mp a;exact XI (q:=λr=>cR w (E r)) (λr=>E r i) rfl b λr c=>⟨_,rfl,vP (Zat a rfl rfl)⟩
noncomputable def beside(m k:Nat)(E:Mt):Bool:=((aE (m-(k+1))).map λi=>E k (k+1+i)).any λz=>z != 0
theorem Hl(h:beside m k E=aB):∀j,k<j->j<m->E k j=0:=λj a b=>by have:=fT.mp h (E k j) (bj.mpr ⟨j-(k+1),aR.mpr (by omega),by rw[show k+1+(j-(k+1))=j by omega]⟩);simpa using this
theorem KW(h:∀j,k<j->j<m->E k j=0):beside m k E=aB:=fT.mpr λx a=>by obtain⟨i,b,rfl⟩:=bj.mp a;have:=aR.mp b;rw[h _ (by omega) (by omega)];simp
theorem DX{l:List Int}{a b:Nat}(d:a<=l.length)(c:b<=l.length):Wm (iL l) (aA (a:Int)) (aA (b:Int))=iL ((l.drop a).take (b-a)):=by unfold Wm;rw[HT.sIx_nat,HT.sIx_nat,aO,dJ d,dJ c,<-jT,<-jS]
theorem R7{v:Nat->Int}{a b:Nat}(c:a<=b)(d:b<=w):((ZZ w v).drop a).take (b-a)=(aE (b-a)).map λi=>v (a+i):=by
 apply cq;intro i;rw[List.getElem?_take];by_cases h:i<b-a
 ·rw[kr h,dS,aW,bM h];unfold ZZ;rw[aW,bM (by omega)];rfl
 ·rw[ku h,bY (by simp;omega)]
theorem JV{s:ZH}{f g h:XE}(d:m<=w)(j:k<m)(q:f s=aA (.lst (bL w E)))(c:g s=aA (.int (k:Int)))(e:h s=aA (.int (m:Int))):xB (Zc QQ [RI UK (Zi ZM f g) (UJ (Zi Yj g (eC (.int 1)))) (UJ h)]) s=aA (beside m k E):=by
 refine xb (c1 (a:=.lst (iL ((aE (m-(k+1))).map λi=>E k (k+1+i)))) ?_ ?_)
 ·rw[Wh,PL (by omega) q c];simp only[aV];unfold UJ;rw[vad (a:=(k:Int)) (b:=1) c rfl,e];simp only[aV];show aA (PV.lst (Wm (iL (ZZ w (E k))) (aA ((k:Int)+1)) (aA (m:Int))))=_;rw[show((k:Int)+1)=((k+1:Nat):Int) from rfl,DX (by rw[ZE];omega) (by rw[ZE];omega),R7 (by omega) d]
 ·show(XY (iL _)).map _=_;rw[Xf];rfl
end
theorem Ah{m k e a d G:Nat}{g E:Mt}(l:k<m)(h:PM.RZ m k e a d g E)(o:d+2*a+3*e+3<G):∀j,j<m+m->∃N M P,PM.Hyp m k E j N M P/\2*(N*(M+2)*P^3)<2^G:=λj p=>by
 have lt:∀{x},x<=d+2*a+3*e+3->2^x<2^G:=λ{x} n=>cW (by omega) (by omega);have col:∀i,k<=i->i<m->(E i k).natAbs<=2^a:=λi c b=>h.ab i k c b (aJ _) l;by_cases q:j<m
 ·refine⟨2^a,2^a,2^e,⟨λi c b=>?_,bz,λ_=>h.pb,λz=>absurd z h.nz,.inl col⟩,ar (PM.bits3 _ _ _) (lt (by omega))⟩;by_cases f:j<k
  ·rw[(h.cr.d1 j i f b (by omega)).2];exact cP _
  ·exact h.ab i j c b (by omega) q
 ·refine⟨2^d,2^a,2^e,⟨λi c b=>?_,bz,λ_=>h.pb,λz=>absurd z h.nz,.inl col⟩,ar (PM.bits3 _ _ _) (lt (by omega))⟩;have:=h.lb i (j-m) b (by omega)
  rwa [show m+(j-m)=j by omega] at this
theorem Pm{m k e c d G:Nat}{g E:Mt}(i:m<=50)(b:k<m)(h:PM.RZ m k e c d g E)(f:d+2*c+3*e+3<G)(a:G<=60000000):∃E',ZS [.lst (bL (m+m) E),.int (m:Int),.int (k:Int)]=aA (.lst (bL (m+m) E'))/\PM.CL m k E E':=
 OD (G:=G) (by omega) (by omega) b (by omega) a (Ah b h f)
theorem Ai{m k e f g:Nat}{a E:Mt}{D:Int}(b:PM.Bs m a D)(h:PM.RZ m k e f g a (PM.tr E))(z:∀j,k<j->j<m->E k j=0):PM.RZ m k e f g a E:=
 ⟨h.cr.tr b,h.nz,h.pb,z,h.mb.tr,λi j d c=>h.rb j i c d,λi j d c=>h.lb j i c d⟩
abbrev stX(w m k:Nat)(B:List PV)(E:Mt):ZH:=[aA (.lst B),aA (.int (m:Int)),aA (.int (k:Int)),aA (.lst (bL w E))]
theorem TU{m k e I w G sx bx:Nat}{s l:Nat->Nat}{o E:Mt}{B:List PV}{D:Int}(b:PM.Bs m o D)(T:PM.Bv m k I s l o)(Q:m<=50)(u:k<m)(he:e<=I)(Y:I<=20)(h:PM.RZ m k e (l e) w o (PM.tr E))(H:∀e,e<=I->l e<=bx/\s e<=sx)
  (hG:w+PM.f1 s e+sx+2*bx+70<G) (p:G<=60000000) :
  Y3 (Zp (Xz (xB (Zc QQ [RI UK (Zi ZM (Za 3) (Za 2)) (UJ (Zi Yj (Za 2) (eC (.int 1)))) (UJ (Za 1))])) (Zp (Zq 3 (Zc YI [Zc ZS [Zc YI [Za 3],Za 1,Za 2]])) (Zq 3 (Zc ZS [Za 3,Za 1,Za 2])))) (ZO (Za 3)))
   (stX (m+m) m k B E) λv=>∃E' e' γ',v = .lst (bL (m+m) E')/\e'<=e/\γ'+PM.f1 s e'<=w+PM.f1 s e+2*s e'/\PM.RZ m k e' (l e') γ' o E'/\PM.RZ m k e' (l e') γ' o (PM.tr E')/\((¬ ∀i,k<i->i<m->E k k∣E k i)->e'<e):=by
 refine Rr (JT (λn st=>∃d a c,st=stX (m+m) m k B d/\((n=a+1/\a<=e/\c+PM.f1 s a<=w+PM.f1 s e/\PM.RZ m k a (l a) c o (PM.tr d)/\(a=e->d=E))\/(n=0/\a<=e/\c+PM.f1 s a<=w+PM.f1 s e+2*s a/\PM.RZ m k a (l a) c o d/\PM.RZ m k a (l a) c o (PM.tr d)/\((¬ ∀i,k<i->i<m->E k k∣E k i)->a<e)))) ⟨E,e,w,rfl,.inl ⟨rfl,aJ _,aJ _,h,λ_=>rfl⟩⟩ ?_) ?_
 ·rintro n st ⟨d,a,c,rfl,O⟩;have j:xB (Zc QQ [RI UK (Zi ZM (Za 3) (Za 2)) (UJ (Zi Yj (Za 2) (eC (.int 1)))) (UJ (Za 1))]) (stX (m+m) m k B d)=aA (beside m k d):=JV (by omega) u rfl rfl rfl
  cases q:beside m k d with
  | false=>exact .inl (j.trans (by rw[q]))
  | true=>
   refine .inr ⟨j.trans (by rw[q]),?_⟩;rcases O with⟨rfl,f,R,g,t⟩ | ⟨_,_,_,g,_⟩
   ·have b1:=H a (by omega);obtain⟨F,W,S⟩:=Pm (G:=G) Q u g (by omega) p
    have c2:∃A,ZS [.lst (bL (m+m) (PM.tr F)),.int (m:Int),.int (k:Int)]=aA (.lst (bL (m+m) A))/\PM.CL m k (PM.tr F) A:=by
     rcases PM.HV b T u (by omega) g S with⟨_,y,_⟩ | ⟨x,rfl,y,_⟩
     ·exact Pm (G:=G) Q u y (by omega) p
     ·have:=H x (by omega);exact Pm (G:=G) Q u y (by omega) p
    obtain⟨A,L,J⟩:=c2;refine UR (Zw (c1 (c3 (c1 rfl (Up (by omega))) rfl rfl W) (Up (by omega)))) (Hz (Zw (c3 rfl rfl rfl L)) ?_);rcases PM.turnV b T u (by omega) g S J with⟨x,r,Z,X,C,M,P⟩ | ⟨x,r,Z,X,C⟩
    ·refine⟨0,by omega,A,x,r,rfl,.inr ⟨rfl,by omega,by omega,C,M,λz=>?_⟩⟩;by_cases N:a=e
     ·have:=P (by rw[t N];exact z);omega
     ·omega
    ·exact⟨x+1,by omega,A,x,r,rfl,.inl ⟨rfl,by omega,by omega,C,λz=>by omega⟩⟩
   ·exfalso;rw[KW g.rz] at q;cases q
 ·rintro st ⟨n,⟨d,a,c,rfl,O⟩,q⟩;have j:xB (Zc QQ [RI UK (Zi ZM (Za 3) (Za 2)) (UJ (Zi Yj (Za 2) (eC (.int 1)))) (UJ (Za 1))]) (stX (m+m) m k B d)=aA (beside m k d):=JV (by omega) u rfl rfl rfl;have z:=Hl (ay (j.symm.trans q));rcases O with⟨rfl,f,R,g,t⟩ | ⟨_,f,R,g,y,P⟩
  ·refine W4 rfl ⟨d,a,c,rfl,f,by omega,Ai b g z,g,λU=>?_⟩;refine dX f λN=>U ?_;have e:=t N;subst e;exact λi C M=>by rw[z i C M];exact cU _
  ·exact W4 rfl ⟨d,a,c,rfl,f,R,g,y,P⟩
theorem M9{w m k:Nat}{E:Mt}(d:w<=100)(a:m<=w)(c:k<m)(z:∀i,k<i->i<m->E i k=0):ZS [.lst (bL w E),.int (m:Int),.int (k:Int)]=aA (.lst (bL w E)):=by
 have nil:bw m k E=[]:=List.eq_nil_iff_forall_not_mem.mpr λx b=>by have:=mem_bw.mp b;exact this.2.2 (z x this.1 this.2.1)
 refine FE (Z2 (Zw (c1 rfl (by rw[Qz,kr NZ]))) (Z2 (Zw (c3 rfl rfl rfl (Uo a d c))) (Rr (JT (k:=0) (λn st=>st=Aw w m k E E none none none) rfl ?_) ?_)))
 ·rintro n st rfl;unfold Aw;rw[nil];exact .inl rfl
 ·rintro st ⟨n,rfl,_⟩;exact W4 rfl rfl
theorem Aj{m k a d G:Nat}{l E:Mt}(f:k<m)(h:PM.Pl m k a d l E)(p:d+5*a+3<G):∀j,j<m+m->∃N M P,PM.Hyp m k E j N M P/\2*(N*(M+2)*P^3)<2^G:=λj r=>by
 have lt:∀{x},x<=d+5*a+3->2^x<2^G:=λ{x} o=>cW (by omega) (by omega);have col:∀i,k<=i->i<m->(E i k).natAbs<=2^a:=λi c b=>h.ab i k c b (aJ _) f;have e:∀N,PM.Bo m k j N E->PM.Hyp m k E j N (2^a) (2^a):=λN n=>⟨n,bz,λ_=>col k (aJ _) f,λ_ i c b=>col i (by omega) b,.inl col⟩;by_cases q:j<m
 ·refine⟨2^a,2^a,2^a,e _ λi c b=>?_,ar (PM.bits3 _ _ _) (lt (by omega))⟩;by_cases g:j<k
  ·rw[(h.cr.d1 j i g b (by omega)).2];exact cP _
  ·exact h.ab i j c b (by omega) q
 ·refine⟨2^d,2^a,2^a,e _ λi c b=>?_,ar (PM.bits3 _ _ _) (lt (by omega))⟩;have:=h.lb i (j-m) b (by omega)
  rwa [show m+(j-m)=j by omega] at this
structure Plc(m k a e0 sf sx bx:Nat)(s β:Nat->Nat)(A0 E:Mt)(D:Int):Prop where
 bs:PM.Bs m A0 D
 bd:PM.Bv m k e0 s β A0
 m5:m<=50
 km:k<m
 e17:e0<=20
 b8:∀e,e<=e0->β e<=bx/\s e<=sx
 a5:7*a+6<=β e0
 a4:4*a+3<=sf
 small:sf+sx+sx+sx+2*bx+PM.f2 s e0<=28500000
 pb:∀E',PM.CL m k E E'->(E' k k).natAbs<=2^e0
section
variable {m k a e0 γ sf sx bx:Nat} {s β:Nat->Nat} {A0 E:Mt} {D:Int}
theorem PQ(P:Plc m k a e0 sf sx bx s β A0 E D)(h:PM.Pl m k a γ A0 E)(n:γ<=31000000) :
  ∃d c b,Y6 [.lst (bL (m+m) E),.int (m:Int),.int (k:Int)]=aA (.lst (bL (m+m) d))/\c<=e0/\b+PM.f1 s c<=γ+sf+PM.f1 s e0+2*s c/\PM.RZ m k c (β c) b A0 d/\PM.RZ m k c (β c) b A0 (PM.tr d):=by
 have A:=P.m5;have f:=P.km;have z:=P.a5;have l:=P.a4;have i:=P.e17;have C:=P.b8 e0 (aJ _);have F:=P.small;have H:=PM.f2_ge s e0;obtain⟨t,j,e⟩:=OD (w:=m+m) (G:=60000000) (by omega) (by omega) f (by omega) (by omega) (Aj f h (by omega));have r:=PM.Pl.first (s:=sf) P.bs f h e (P.pb t e) z l;have g:=TU (G:=60000000) (sx:=sx) (bx:=bx) (B:=bL (m+m) E) P.bs P.bd A f (aJ e0) i r P.b8 (by omega) (by omega);have q:Y3 WT (ZN 4 [.lst (bL (m+m) E),.int (m:Int),.int (k:Int)]) _:=Z2 (Zw (c3 rfl rfl rfl j)) g;obtain⟨v,o,d,c,b,rfl,u,y,p,x,_⟩:=Rq q;exact⟨d,c,b,o,u,y,p,x⟩
theorem PR{e:Nat}(P:Plc m k a e0 sf sx bx s β A0 E D){d:Mt}(l:e<=e0)(r:PM.RZ m k e (β e) γ A0 (PM.tr d))(h:γ+PM.f1 s e+sx+2*bx+70<60000000) :
  ∃f c b,Y6 [.lst (bL (m+m) d),.int (m:Int),.int (k:Int)]=aA (.lst (bL (m+m) f))/\c<=e/\b+PM.f1 s c<=γ+PM.f1 s e+2*s c/\PM.RZ m k c (β c) b A0 f/\PM.RZ m k c (β c) b A0 (PM.tr f)/\((¬ ∀i,k<i->i<m->d k k∣d k i)->c<e):=by
 have t:=P.m5;have n:=P.km;have j:=P.e17;have y:=P.small;have z:=PM.f2_ge s e0;have x:=PM.f1_mono s l;have g:=TU (G:=60000000) (sx:=sx) (bx:=bx) (B:=bL (m+m) d) P.bs P.bd t n l j r P.b8 h (by omega);have p:Y3 WT (ZN 4 [.lst (bL (m+m) d),.int (m:Int),.int (k:Int)]) _:=Z2 (Zw (c3 rfl rfl rfl (M9 (w:=m+m) (by omega) (by omega) n λi q u=>r.rz i q u))) g;obtain⟨v,o,f,c,b,rfl,Ys⟩:=Rq p;exact⟨f,c,b,o,Ys⟩
noncomputable def Al(m k:Nat)(E:Mt)(i:Nat):Bool:=((aE m).map λj=>!decide ((E i j).fmod (E k k)=0)).any id
theorem DY{i:Nat}(h:Al m k E i=aB):∀j,j<m->E k k∣E i j:=λj a=>by have:=fT.mp h (!decide ((E i j).fmod (E k k)=0)) (bj.mpr ⟨j,aR.mpr a,rfl⟩);exact Int.dvd_of_fmod_eq_zero (by simpa using this)
theorem F2{i:Nat}(h:Al m k E i=aC):∃j,j<m/\¬E k k∣E i j:=by obtain⟨b,a,d⟩:=dz.mp h;obtain⟨j,c,rfl⟩:=bj.mp a;refine⟨j,aR.mp c,λz=>?_⟩;have:=Int.fmod_eq_zero_of_dvd z;simp[this] at d
theorem La{w:Nat}(y:w<=100)(h:m<=w)(p:k<m)(o:E k k≠0):∃v,WH [.lst (bL w E),.int (m:Int),.int (k:Int)]=aA v/\((v = .non/\∀i j,k<i->i<m->j<m->E k k∣E i j)\/(∃u:Nat,v = .int (u:Int)/\k<u/\u<m/\∃j,j<m/\¬E k k∣E u j)):=by
 refine Rq (Z2 (Zw (ep (TR (by omega) (by omega) rfl rfl rfl))) (Zam (L:=(aE (m-(k+1))).map λi=>k+1+i) (q:=λ(i:Nat)=>PV.int (i:Int)) (g:=λ(i:Nat)=>PV.int (i:Int)) (Al m k E) (λs=>∃x,s=[aA (.lst (bL w E)),aA (.int (m:Int)),aA (.int (k:Int)),aA (.int (E k k)),x]) ?_ ⟨none,rfl⟩ ?_ ?_ ?_))
 ·rw[Se (i:=(k:Int)+1) (j:=(m:Int)) (vad rfl rfl) rfl (by omega) (by omega)];unfold UZ;rw[dD,show((m:Int)-((k:Int)+1)).toNat=m-(k+1) by omega];congr 1
 ·rintro i c s ⟨x,rfl⟩;obtain⟨t,d,rfl⟩:=bj.mp c;have:=aR.mp d;refine⟨_,rfl,xb (c1 (a:=.lst (((aE m).map λj=>!decide ((E (k+1+t) j).fmod (E k k)=0)).map PV.bl)) ?_ (BW _)),ret (vP rfl),⟨_,rfl⟩⟩;rw[dD];refine ZX (aE m) (λj=>PV.int (E (k+1+t) j)) _ ?_ (by simp;omega) λj r=>⟨_,rfl,rfl,o2 (vC (C:=λ_ j=>j≠0) (op:=Int.fmod) rfl rfl o) rfl (by rw[LS];rfl)⟩;show(RI UK (Zi ZM (Za 0) (Za 4)) Lj (UJ (Za 1)) _).bind _=_;rw[Wh,PL (i:=k+1+t) (E:=E) (w:=w) (by omega) rfl rfl];simp only[aV,RM];show(aA (PV.lst (Wm (iL (ZZ w (E (k+1+t)))) none (aA (m:Int))))).bind _=_;rw[Kv];show aA (iL ((ZZ w (E (k+1+t))).take m))=_;have:=R7 (w:=w) (v:=E (k+1+t)) (a:=0) (b:=m) (by omega) h;rw[gj,iV] at this;rw[this];show aA (jq PV.int (jq _ _))=_;rw[dD];congr 1;refine aq λi _=>?_;show PV.int (E (k+1+t) (0+i))=_;rw[Nat.zero_add]
 ·intro i c;have e:=gs c;have f:=kI c;obtain⟨t,d,rfl⟩:=bj.mp e;have:=aR.mp d;exact .inr ⟨_,rfl,by omega,by omega,F2 f⟩
 ·rintro l s ⟨x,rfl⟩;refine W4 rfl (.inl ⟨rfl,λi j e f n=>DY ?_ j n⟩);have:=j5.mp l i (bj.mpr ⟨i-(k+1),aR.mpr (by omega),by omega⟩);simpa using this
theorem Hm{e b c:Nat}{i E:Mt}{G u:Nat}(h:PM.RZ m k e b c i E)(l:b<G)(d:c<G)(n:k<=u)(a:u<m):∀j,j<m+m->(E u j).natAbs<2^G:=λj o=>by
 have lt:∀{x},x<G->2^x<2^G:=λ{x} f=>cW (by omega) f;by_cases q:j<m
 ·by_cases g:j<k
  ·rw[(h.cr.d1 j u g a (by omega)).2];exact Nat.pow_pos (by omega)
  ·exact ar (h.ab u j n a (by omega) q) (lt l)
 ·have:=h.lb u (j-m) a (by omega);rw[show m+(j-m)=j by omega] at this;exact ar this (lt d)
theorem N0(P:Plc m k a e0 sf sx bx s β A0 E D)(h:PM.Pl m k a γ A0 E)(hγ:γ<=31000000)(f:Nat)(t:∀e,e<=e0->β e<=f) :
  ∃o c,Xp [.lst (bL (m+m) E),.int (m:Int),.int (k:Int)]=aA (.lst (bL (m+m) o))/\c<=γ+sf+2*sx+PM.f2 s e0/\PM.Pl m (k+1) f c A0 o:=by
 have m5:=P.m5;have F:=P.km;have e17:=P.e17;obtain⟨X,T,A,v1,Q,g1,l,p⟩:=PQ P h (by omega);obtain⟨x1,w1,I⟩:=La (w:=m+m) (E:=X) (by omega) (by omega) F l.nz
 suffices g:Y3 TH (ZN 5 [.lst (bL (m+m) E),.int (m:Int),.int (k:Int)]) λv=>∃o c,v = .lst (bL (m+m) o)/\c<=γ+sf+2*sx+PM.f2 s e0/\PM.Pl m (k+1) f c A0 o by obtain⟨v,e,o,c,rfl,r⟩:=Rq g;exact⟨o,c,e,r⟩
 have sm:=P.small;have base:A+PM.f2 s T<=γ+sf+2*sx+PM.f2 s e0:=by have:=PM.f2_le s Q;have:=(P.b8 T Q).2;omega
 refine Z2 (Zw (c3 rfl rfl rfl v1)) (Z2 (Zw (c3 rfl rfl rfl w1)) (Rr (JT (λn st=>∃b d x,st=[aA (.lst (bL (m+m) E)),aA (.int (m:Int)),aA (.int (k:Int)),aA (.lst (bL (m+m) b)),aA x]/\n<=e0/\d+PM.f2 s n<=γ+sf+2*sx+PM.f2 s e0/\PM.RZ m k n (β n) d A0 b/\PM.RZ m k n (β n) d A0 (PM.tr b)/\((x = .non/\∀i j,k<i->i<m->j<m->b k k∣b i j)\/(∃u:Nat,x = .int (u:Int)/\k<u/\u<m/\∃j,j<m/\¬b k k∣b u j))) ⟨X,A,x1,rfl,Q,base,l,p,I⟩ ?_) ?_))
 ·rintro n st ⟨b,d,x,rfl,C,hg,l,p,M⟩;rcases M with⟨rfl,_⟩ | ⟨u,rfl,U,H,j,B,nd⟩
  ·exact .inl rfl
  ·refine .inr ⟨rfl,?_⟩;have b8:=P.b8 n C;have fg:=PM.f2_ge s n;have J:=Hm (G:=60000000) l (by omega) (by omega) (by omega) H;have lo:Sm [cR (m+m) (b k),cR (m+m) (b u),.int 1]=aA (.lst (iL (ZZ (m+m) λj=>b k j-1*b u j))):=JU (by omega) λj B=>FZ (G:=60000000) (by show 1<2^60000000;exact Nat.one_lt_two_pow (by omega)) (J j B) (by omega) (by omega);have r3:=l.unfit P.bs F p U H
   have eE:YZ k (λj=>b k j-1*b u j) b=λi j=>if i=k then b i j-1*b u j else b i j:=by
    funext i;unfold YZ;by_cases q:i=k
    ·rw[kr q];funext j;rw[kr q,q]
    ·rw[ku q];funext j;rw[ku q]
   obtain⟨W,Z,N,v3,l3,g3,Y,r5,d3⟩:=PR P C r3 (by omega)
   have less:Z<n:=d3 λz=>by
    have uk:b u k=0:=p.rz u U H
    have jk:k<j:=by
     refine Nat.not_le.mp λle=>nd ?_;by_cases q:j=k
     ·rw[q,uk];exact cU _
     ·rw[(l.cr.d1 j u (by omega) H (by omega)).2];exact cU _
    have:=z j jk B;simp only[kr] at this;rw[uk,l.rz j jk B] at this;refine nd ?_;have h2:b k k∣-(1*b u j):=by simpa using this
    simpa using Int.dvd_neg.mp h2
   have st:=PM.f2_step s less;obtain⟨x3,w3,O⟩:=La (w:=m+m) (E:=W) (by omega) (by omega) F Y.nz;refine UR (M8 (w:=m+m) (E:=b) (v:=λj=>b k j-1*b u j) (by omega) rfl (S5 (c3 (PL (by omega) rfl rfl) (PL (by omega) rfl rfl) rfl lo)) rfl) (UR (Zw (c3 rfl rfl rfl ?_)) (Hz (Zw (c3 rfl rfl rfl w3)) ⟨Z,less,W,N,x3,rfl,by omega,by omega,Y,r5,O⟩));rw[eE];exact v3
 ·rintro st ⟨n,⟨b,d,x,rfl,C,hg,l,p,M⟩,q⟩;rcases M with⟨rfl,dv⟩ | ⟨u,rfl,_⟩
  case inr=>cases q
  have nx:=l.next F p dv;have S:PM.Pl m (k+1) f d A0 (λi j=>if i=k/\b k k<0 then-b i j else b i j):=⟨nx.cr,nx.mb.up (PM.pw2 (t n C)),nx.lb,nx.rb⟩;have L:xB (Zi Hv (Zi ZM (Zi ZM (Za 3) (Za 2)) (Za 2)) (eC (.int 0))) [aA (.lst (bL (m+m) E)),aA (.int (m:Int)),aA (.int (k:Int)),aA (.lst (bL (m+m) b)),aA .non]=aA (decide (b k k<0)):=xb (o2 (TR (by omega) (by omega) rfl rfl rfl) rfl rfl);refine Rr (R:=λs=>s=[aA (.lst (bL (m+m) E)),aA (.int (m:Int)),aA (.int (k:Int)),aA (.lst (bL (m+m) (λi j=>if i=k/\b k k<0 then-b i j else b i j))),aA .non]) (CD L (λz=>?_) λz=>?_) ?_
  ·have z:=of_decide_eq_true z;refine Hz (M8 (w:=m+m) (E:=b) (v:=λj=>- b k j) (by omega) rfl (S5 (XI (q:=λj=>.int (b k j)) (λj=>- b k j) ?_ (by omega) λj B=>⟨_,rfl,vP (un1 rfl rfl)⟩)) rfl) ?_
   ·show(Zi ZM (Za 3) (Za 2) _).bind _=_;rw[PL (i:=k) (E:=b) (w:=m+m) (by omega) rfl rfl];show aA (jq PV.int (jq (b k) (aE (m+m))))=_;rw[dD];rfl
   ·show [_,_,_,aA (PV.lst (bL (m+m) (YZ k (λj=>- b k j) b))),_]=_;rw[show YZ k (λj=>- b k j) b=λi j=>if i=k/\b k k<0 then-b i j else b i j from ?_];funext i;unfold YZ;by_cases q:i=k
    ·rw[kr q];funext j;rw[kr ⟨q,z⟩,q]
    ·rw[ku q];funext j;rw[ku (λy=>q y.1)]
  ·have z:=of_decide_eq_false z;refine Hz rfl ?_;rw[show(λi j=>if i=k/\b k k<0 then-b i j else b i j)=b from funext λi=>funext λj=>ku (λy=>z y.2)]
  ·rintro s rfl;exact W4 rfl ⟨_,d,rfl,by omega,S⟩
end
noncomputable def E0(m:Nat)(A:Mt):Mt:=λi j=>if i<m then(if j<m then A i j else PM.one i (j-m)) else(if j<m then PM.one (i-m) j else 0)
theorem Am{a b:Nat}(u v:Nat->Int):ZZ a u++ZZ b v=ZZ (a+b) λj=>if j<a then u j else v (j-a):=by
 apply cq;intro i;unfold ZZ;by_cases h:i<a
 ·rw[ah (by simpa using h),aW,aW,bM h,bM (by omega)];show aA (u i)=aA (if i<a then u i else v (i-a));rw[kr h]
 ·rw[bJ (by simp;omega),aO,bu,aW,aW];by_cases c:i<a+b
  ·rw[bM (by omega),bM c];show aA (v (i-a))=aA (if i<a then u i else v (i-a));rw[ku h]
  ·rw[bY (by simp;omega),bY (by simp;omega)];rfl
theorem F3{a b:Nat}{u v:Nat->Int}(h:a+b<=100):Qx (.lst (iL (ZZ a u))) (.lst (iL (ZZ b v)))=aA (.lst (iL (ZZ (a+b) λj=>if j<a then u j else v (j-a)))):=by unfold Qx;simp only[];rw[kr ⟨by rw[aO,aO,ZE,ZE];omega,Yc _,Yc _⟩,<-eO,Am]
theorem Rt{m i:Nat}(a:m<=100):Vx [.int (m:Int),.int (i:Int)]=aA (.lst (iL (ZZ m (PM.one i)))):=by
 refine Xe (ret (XC (PM.one i) (Z6 rfl (by omega)) (by omega) λj b=>⟨_,rfl,rfl,vP ?_⟩));unfold PM.one;by_cases q:i=j
 ·rw[kr q];exact FF (xb ((Ac rfl rfl).trans (by rw[decide_eq_true (by omega)]))) rfl
 ·rw[ku q];exact FG (xb ((Ac rfl rfl).trans (by rw[decide_eq_false (by omega)]))) rfl
theorem Zav{m:Nat}(a:m<=100):Mv (.lst [.int 0]) (.int (m:Int))=aA (.lst (iL (ZZ m λ_=>0))):=by
 unfold Mv;simp only[];rw[kr (by refine⟨?_,?_,?_,?_⟩<;>first | rfl | omega | (simp;omega))];congr 2;apply cq;intro i;unfold ZZ;by_cases h:i<m
 ·simp[h]
 ·simp[h]
theorem Lb{m:Nat}{A:Mt}(f:m<=50):U2 [wP (Wa m m A)]=aA (.lst (bL (m+m) (E0 m A))):=by
 have up:∀i,i<m->cR (m+m) (E0 m A i) = .cst (iL (ZZ (m+m) λj=>if j<m then A i j else PM.one i (j-m))):=λi b=>by unfold cR E0;simp only[kr b]
 have lo:∀i,i<m->cR (m+m) (E0 m A (m+i)) = .cst (iL (ZZ (m+m) λj=>if j<m then PM.one i j else 0)):=λi b=>by unfold cR E0;rw[show m+i-m=i by omega];simp only[ku (show ¬m+i<m by omega)]
 have c:bL (m+m) (E0 m A)=(aE m).map (λi=>cR (m+m) (E0 m A i))++(aE m).map λi=>cR (m+m) (E0 m A (m+i)):=by unfold bL;rw[kY,eO,dD];rfl
 have d:∀(g:Nat->Nat->Int),ZL ((aE m).map λi=>cR (m+m) (g i))=aC:=λg=>by rw[Xx,ao];intro x e;obtain⟨i,_,rfl⟩:=bj.mp e;exact VG _
 refine FE (Z2 (Zw (vP (c1 rfl (by rw[FH,NV])))) (Z2 (Zw (ZX (aE m) (λi=>.tup [.int ((i:Nat):Int),pP (ZZ m (A i))]) (λi=>cR (m+m) (E0 m A i)) ?_ (by simp;omega) λi b=>⟨_,rfl,rfl,ep ?_ (VG _)⟩)) (Z2 (Zw (ZX (aE m) (λ(i:Nat)=>PV.int (i:Int)) (λi=>cR (m+m) (E0 m A (m+i))) (Z6 rfl (by omega)) (by simp;omega) λi b=>⟨_,rfl,rfl,ep ?_ (VG _)⟩)) (W4 (o2 rfl rfl ?_) rfl))))
 ·show aA (Wz (tL (Wa m m A)))=_;rw[WG,W5];congr 1;refine aq λi b=>?_;rw[aG,Td (aR.mp b)];rfl
 ·rw[up i (aR.mp b)];exact S5 (o2 (a:=.lst (iL (ZZ m (A i)))) (c1 rfl (by rw[Tw,kr (Yc _)])) (c2 rfl rfl (Rt (by omega))) (F3 (by omega)))
 ·rw[lo i (aR.mp b)];exact S5 (o2 (c2 rfl rfl (Rt (by omega))) (o2 rfl rfl (Zav (by omega))) (F3 (by omega)))
 ·unfold Qx;simp only[];rw[kr ⟨by simp;omega,d _,d _⟩,c]
theorem Zcl(m:Nat)(A:Mt):PM.Adm m A (E0 m A):=by
 have e:PM.EqM m (λi k=>E0 m A i (m+k)) PM.one:=λi j b a=>by show E0 m A i (m+j)=_;unfold E0;rw[kr b,ku (by omega),show m+j-m=j by omega]
 have d:PM.EqM m (λi k=>E0 m A (m+i) k) PM.one:=λi j b a=>by show E0 m A (m+i) j=_;unfold E0;rw[ku (by omega),kr a,show m+i-m=i by omega]
 have c:PM.EqM m (PM.mul m PM.one PM.one) PM.one:=λi j b a=>PM.mul_one a;refine⟨⟨PM.one,PM.one,e.mulL.trans c,e.mulR.trans c,d.mulL.trans c,d.mulR.trans c⟩,λi j b a=>?_,λi j b a=>?_⟩
 ·rw[e.mulL i j b a,PM.one_mul b,d.mulR i j b a,PM.mul_one a];unfold E0;rw[kr b,kr a]
 ·unfold E0;rw[ku (by omega),ku (by omega)]
theorem JW(i j:Nat):(PM.one i j).natAbs<=2^0:=by unfold PM.one;split<;>decide
theorem pl0{m:Nat}{A:Mt}(c:m<=6)(h:∀i j,i<m->j<m->(A i j).natAbs<=2^6):PM.Pl m 0 46 0 A (E0 m A):=by
 refine⟨⟨Zcl m A,λi _ a=>by omega,λi a=>by omega,λi _ _ a=>by omega⟩,?_,λi j a b=>?_,λi j a b=>?_⟩
 ·refine(PM.Mn.ent (n:=6) (B:=2^6) (by decide) (by omega) λi j _ a _ b=>?_).up (show PM.fct 6*(2^6)^6<=2^46 by decide);unfold E0;rw[kr a,kr b];exact h i j a b
 ·unfold E0;rw[kr a,ku (by omega)];exact JW _ _
 ·unfold E0;rw[ku (by omega),kr b];exact JW _ _
section
variable {W:List (List Int)} {m:Nat}
theorem An(ok:ZQ W)(d:W3 W)(l:W.length<=7)(h:W.length=m+1):PM.Bs m (ZR W 0) (Yf m (ZR W 0)):=by
 have bk:=S3 ok d (b:=0) ok.pos (λ_=>0);rw[show W.length-1=m by omega] at bk;have I:=YJ bk (aJ m);refine⟨λi j c a=>bk.sym j i a c,⟨PM.tr (NT m (ZR W 0)),λi j c a=>?_⟩,?_,?_⟩
 ·have e:=NU (A:=ZR W 0) a c;show sN m (λk=>NT m (ZR W 0) k i*ZR W 0 k j)=_;rw[Zh (g:=λk=>ZR W 0 j k*NT m (ZR W 0) k i) λk f=>by rw[bG,bk.sym k j f a],e];unfold PM.one;by_cases q:i=j
  ·rw[kr q.symm];show _=Yf m (ZR W 0)*(if i=j then 1 else 0);rw[kr q,gJ]
  ·rw[ku (λz=>q z.symm)];show _=Yf m (ZR W 0)*(if i=j then 1 else 0);rw[ku q,b5]
 ·rw[<-I.de];exact I.nz
 ·omega
theorem o0(i:Nat):Xh 0 i=i+1:=by unfold Xh;rw[ku (by omega)]
theorem F4{W:List (List Int)}(ok:ZQ W)(m:W3 W)(r:2<=W.length):1<=(ZK W 0).sum:=by
 have c:=ok.pos;rw[UB ok c,Xd];refine bc λh=>?_;have h:¬1<=sN W.length (ent W 0):=h
 have z:∀j,j<W.length->ent W 0 j=0:=λj k=>by
  have e:=Z4 (n:=W.length) (f:=λi=>if i=j then ent W 0 j else 0) k λi _ ne=>ku ne
  have l:=Yk (n:=W.length) (f:=λi=>ent W 0 i+(-1)*(if i=j then ent W 0 j else 0)) λi o=>by
   have:=ok.lo 0 i c o;split
   ·rename_i q;subst q;omega
   ·omega
  rw[Z3,ZA,e,kr rfl] at l;have:=ok.lo 0 j c k;omega
 have:=(m (· = 0) (λa b g p d=>⟨λq=>by rw[q,z b p] at d;omega,λq=>by rw[q,ok.sym a 0 g c,z a g] at d;omega⟩) 1 0 (by omega) c).mpr rfl;omega
theorem Lc(ok:ZQ W)(a:W3 W)(g:2<=W.length):sN (W.length-1) (λi=>ZR W 0 i i)<=2*((UQ W).length:Int)-1:=by
 have j:=F4 ok a g;have t:=MR ok;rw[Xd] at t;have e:=KJ (m:=W.length-1) (b:=0) (f:=λh=>if h=0 then 0 else(ZK W h).sum) (kr rfl) (by omega);rw[show W.length-1+1=W.length by omega] at e
 have l:sN (W.length-1) (λi=>ZR W 0 i i)=sN W.length λh=>if h=0 then 0 else(ZK W h).sum:=by
  rw[e];exact Zh λi _=>by unfold ZR;rw[kr rfl,o0,ku (by omega)]
 have c:=Z4 (n:=W.length) (f:=λh=>if h=0 then(ZK W 0).sum else 0) (k:=0) ok.pos λi _ ne=>ku ne
 have d:sN W.length (λh=>(ZK W h).sum)=sN W.length (λh=>(if h=0 then 0 else(ZK W h).sum)+if h=0 then(ZK W 0).sum else 0):=Zh λi _=>by
  split
  ·rename_i q;rw[q];omega
  ·omega
 rw[d,Z3,c,kr rfl] at t;omega
theorem DZ(ok:ZQ W)(a:W.length=m+1):∀i,i<m->0<=ZR W 0 i i:=λi b=>by unfold ZR;rw[kr rfl,UB ok (by rw[a];exact Xs b),Xd];exact Yk λj c=>ok.lo _ _ (by rw[a];exact Xs b) c
theorem CI(ok:ZQ W)(b:W3 W)(a:W.length=m+1)(j:(UQ W).length<=28):∀i,i<m->ZR W 0 i i<=55:=λi g=>by
 have d:=Lc ok b (by omega);rw[show W.length-1=m by omega] at d;have h:=DZ ok a;have e:=Z4 (n:=m) (f:=λx=>if x=i then ZR W 0 i i else 0) g λx _ ne=>ku ne
 have l:=Yk (n:=m) (f:=λx=>ZR W 0 x x+(-1)*(if x=i then ZR W 0 i i else 0)) λx c=>by
  have:=h x c;split
  ·rename_i z;subst z;omega
  ·omega
 rw[Z3,ZA,e,kr rfl] at l;omega
theorem Zaw(ok:ZQ W)(f:W3 W)(c:W.length=m+1)(g:(UQ W).length<=28):∀i j,i<m->j<m->(ZR W 0 i j).natAbs<=55:=λi j a h=>by
 have d:Xh 0 i<W.length:=by have:=Xs (b:=0) a;omega
 have e:Xh 0 j<W.length:=by have:=Xs (b:=0) h;omega
 by_cases q:Xh 0 j=Xh 0 i
 ·rw[show j=i from DJ q];have:=DZ ok c i a;have:=CI ok f c g i a;omega
 ·unfold ZR;rw[ku q];have:=ok.lo _ _ d e;have:=ok.hi _ _ d e;omega
theorem x12:∀x,x<56->x^12<=2^(2*x+21):=by decide +kernel
theorem Zax{A:Mt}:∀{m:Nat},(∀i,i<m->0<=A i i/\A i i<=55)->∃s:Nat,sN m (λi=>A i i)=(s:Int)/\(prN A m).natAbs^12<=2^(2*s+21*m)
 | 0,_=>⟨0,rfl,show(1:Int).natAbs^12<=2^(2*0+21*0) by decide⟩
 | m+1,h=>by
  obtain⟨s,e,l⟩:=Zax (m:=m) λi b=>h i (by omega);have a:=h m (by omega);refine⟨s+(A m m).natAbs,?_,?_⟩
  ·show sN m (λi=>A i i)+A m m=_;rw[e];omega
  ·show(prN A m*A m m).natAbs^12<=_;rw[cB,Nat.mul_pow];refine aQ (cC l (x12 (A m m).natAbs (by omega))) ?_;rw[<-gP];exact PM.pw2 (by omega)
theorem D28(ok:ZQ W)(f:W3 W)(e:W.length=m+1)(u:W.length<=7)(o:(UQ W).length<=28):(Yf m (ZR W 0)).natAbs<=2^20:=by
 have n:=ok.pos;have a:W.length-1=m:=by omega
 by_cases z:m=0
 ·subst z;show(1:Int).natAbs<=_;decide
 have bk:=S3 ok f (b:=0) n (λ_=>0);rw[a] at bk;have I:=YJ bk (aJ m)
 obtain⟨S,t⟩:=FW bk (λi j c x ne=>by
  unfold ZR;rw[o0,o0,ku (by omega)];have:=ok.lo (i+1) (j+1) (by omega) (by omega)
  omega) (λi c=>by
  have g:=Pj ok n (Y:=λh=>if h=0 then 0 else 1) (kr rfl) (k:=i) (by omega);rw[a,Zh (g:=ZR W 0 i) λj _=>by rw[o0,ku (by omega),gJ]] at g
  have:0<=sN W.length λh=>(-1)*(ent W (Xh 0 i) h*((if h=0 then 0 else 1)-(if Xh 0 i=0 then 0 else 1))):=Yk λh q=>by
   have:=ok.lo (Xh 0 i) h (by rw[e];exact Xs c) q;rw[o0] at this ⊢;rw[ku (show ¬i+1=0 by omega)];split
   ·rw[Int.zero_sub,gw,gJ];omega
   ·simp
  rw[ZA] at this;have g:(sN W.length λh=>ent W (Xh 0 i) h*((if h=0 then(0:Int) else 1)-(if Xh 0 i=0 then 0 else 1))) = - sN m (ZR W 0 i):=g;omega) (DZ ok e) (aJ m)
 have d:=Lc ok f (by omega);rw[a] at d;obtain⟨s,r,l⟩:=Zax (A:=ZR W 0) (m:=m) λi c=>⟨DZ ok e i c,CI ok f e o i c⟩;rw[r] at d;rw[I.de] at t;have pos:0<Yf m (ZR W 0):=by rw[<-I.de];exact S.dp
 refine gG.mp λp=>?_;have w:(2^20)^12<=(prN (ZR W 0) m).natAbs^12:=gX (by omega) 12;have y:2^(2*s+21*m)<=2^236:=PM.pw2 (by omega);have v:(2^236:Nat)<(2^20)^12:=by decide
 omega
theorem D3{k a e:Nat}{c E:Mt}{D:Int}(b:PM.Bs m c D)(l:D.natAbs<=2^20)(o:k+1=m)(h:PM.Pl m k a e c E):PM.Pl m k 20 e c E:=by refine⟨h.cr,?_,h.lb,h.rb⟩;have d:=(h.cr.piv b (by omega) λi f g=>by omega).2;have:=fM (by have:=b.nz;omega) (cQ.mpr d);refine(PM.Mn.ent (n:=1) (B:=2^20) (by decide) (by omega) λi j f g p q=>?_).up (show PM.fct 1*(2^20)^1<=2^20 by decide);rw[show i=k by omega,show j=k by omega];omega
noncomputable def aK:Nat->Nat
 | 0=>46
 | 1=>500
 | 2=>4900
 | 3=>36000
 | 4=>254000
 | _=>1800000
noncomputable def gK:Nat->Nat
 | 0=>0
 | 1=>50000
 | 2=>470000
 | 3=>3470000
 | 4=>24470000
 | 5=>30870000
 | _=>30920000
theorem D4{k a c bx:Nat}{g E:Mt}{D:Int}(b:PM.Bs m g D)(j:k<m)(d:c<=20)(o:7*a+6+PM.ad c<=bx)(l:4*a+3+3*(bx+63)+2*bx+c*(4*(bx+63)+1)<=28500000)(i:∀E',PM.CL m k E E'->(E' k k).natAbs<=2^c) :
  Plc m k a c (4*a+3) (bx+63) bx (PM.sB (PM.be (7*a+6) c)) (PM.be (7*a+6) c) g E D/\PM.f2 (PM.sB (PM.be (7*a+6) c)) c<=c*(4*(bx+63)+1):=by
 have n:=b.m7;have be:∀e,e<=c->PM.be (7*a+6) c e<=bx/\PM.sB (PM.be (7*a+6) c) e<=bx+63:=λe h=>by unfold PM.sB PM.be;omega
 have f:=PM.f2_top λe d=>(be e d).2;exact⟨⟨b,PM.Bv.gen b,by omega,j,d,be,by unfold PM.be;omega,aJ _,by omega,i⟩,f⟩
theorem JX{k a:Nat}{c E:Mt}{D:Int}(b:PM.Bs m c D)(d:k<m)(h:m<=k+2)(i:D.natAbs<=2^20)(j:a<=300000)(g:∀E',PM.CL m k E E'->(E' k k).natAbs<=2^20) :
  Plc m k a 20 (4*a+3) (7*a+6+273) (7*a+6+210) (PM.sB (PM.bE (7*a+6))) (PM.bE (7*a+6)) c E D:=by
 have l:=b.m7;have f:=PM.f2_end (7*a+6);exact⟨b,PM.Bv.end b d i h,by omega,d,by omega,λe n=>by unfold PM.sB PM.bE;split<;>omega,by unfold PM.bE;rw[kr (by omega)];exact aJ _,aJ _,by omega,g⟩
theorem F5{k w:Nat}{s E:Mt}{D:Int}(b:PM.Bs m s D)(u:D.natAbs<=2^20)(M:m<=6)(l:k<m)(C:k=0->∀i j,i<m->j<m->(E i j).natAbs<=2^6)(h:PM.Pl m k (aK k) w s E)(z:w<=gK k) :
  ∃g d,Xp [.lst (bL (m+m) E),.int (m:Int),.int (k:Int)]=aA (.lst (bL (m+m) g))/\d<=gK (k+1)/\PM.Pl m (k+1) (aK (k+1)) d s g:=by
 have kk:k=0\/k=1\/k=2\/k=3\/k=4\/k=5:=by omega
 have n:w<=31000000:=by rcases kk with r | r | r | r | r | r<;>subst r<;>exact aQ z (by decide)
 have q:∀{a},PM.Pl m k a w s E->∀g,PM.CL m k E g->(g k k).natAbs<=2^20:=λ{a} h g c=>aQ (h.small b l c λi H y=>h.ab i k H y (aJ _) l).2 u;have c:(k+1=m)\/(k+2=m)\/(k+3<=m):=by omega
 rcases c with c | c | c
 ·have A:=D3 b u c h;have P:=JX b l (by omega) u (a:=20) (by omega) (q A)
  obtain⟨g,d,p,B,t⟩:=N0 P A n (aK (k+1)) λe _=>by
   have:PM.bE (7*20+6) e<=210:=by unfold PM.bE;split<;>omega
   refine aQ this ?_;rcases kk with r | r | r | r | r | r<;>subst r<;>decide
  have f:=PM.f2_end (7*20+6);refine⟨g,d,p,?_,t⟩;have:gK k+50000<=gK (k+1):=by rcases kk with r | r | r | r | r | r<;>subst r<;>decide
  omega
 ·have L:aK k<=254000/\7*aK k+6<=aK (k+1)/\210<=aK (k+1)/\gK k+25*aK k+24000<=gK (k+1):=by
   have kk:k=0\/k=1\/k=2\/k=3\/k=4:=by omega
   rcases kk with r | r | r | r | r<;>subst r<;>decide
  have P:=JX b l (by omega) u (a:=aK k) (by omega) (q h);obtain⟨g,d,p,B,t⟩:=N0 P h n (aK (k+1)) λe _=>by unfold PM.bE;split<;>omega
  have f:=PM.f2_end (7*aK k+6);exact⟨g,d,p,by omega,t⟩
 ·have v:∀o,o<=20->7*aK k+6+PM.ad o<=aK (k+1)->4*aK k+3+3*(aK (k+1)+63)+2*aK (k+1)+o*(4*(aK (k+1)+63)+1)<=28500000->gK k+(4*aK k+3)+2*(aK (k+1)+63)+o*(4*(aK (k+1)+63)+1)<=gK (k+1)->(∀g,PM.CL m k E g->(g k k).natAbs<=2^o)->∃g d,Xp [.lst (bL (m+m) E),.int (m:Int),.int (k:Int)]=aA (.lst (bL (m+m) g))/\d<=gK (k+1)/\PM.Pl m (k+1) (aK (k+1)) d s g:=λo x I F J G=>by obtain⟨P,f⟩:=D4 b l x I F G;obtain⟨g,d,p,B,t⟩:=N0 P h n (aK (k+1)) λe x=>(P.b8 e x).1;exact⟨g,d,p,by omega,t⟩
  have kk:k=0\/k=1\/k=2\/k=3:=by omega
  rcases kk with r | r | r | r
  ·subst r;exact v 6 (by omega) (by decide) (by decide) (by decide) λg c=>(h.small b l c λi _ y=>C rfl i 0 y l).1
  ·subst r;exact v 20 (by omega) (by decide) (by decide) (by decide) (q h)
  ·subst r;exact v 20 (by omega) (by decide) (by decide) (by decide) (q h)
  ·subst r;exact v 20 (by omega) (by decide) (by decide) (by decide) (q h)
end
section
variable {m:Nat} {A B:Mt} {u v:Nat->Int}
theorem Zay{i j:Nat}(d:i<m)(c:j<m){f g h:XE}{s:ZH}(q:f s=aA (wP (Wa m m B)))(b:g s=aA (.int (i:Int)))(a:h s=aA (.int (j:Int))):Zi ZM (Zi ZM f g) h s=aA (.int (B i j)):=o2 (o2 q b (Vj (Td d))) a (Pf c)
theorem S6{j:Nat}(d:m<=50)(c:j<m)(b:∀k,k<m->CMulW (u k) (B k j)):X0 [pP (ZZ m u),wP (Wa m m B),.int (j:Int)]=aA (.int (sN m λk=>u k*B k j)):=by
 refine Xe (ret (vP (c1 (XI (q:=λi=>.tup [.int ((i:Nat):Int),.int (u i)]) (λk=>u k*B k j) ?_ (by omega) λi a=>⟨_,rfl,vC (C:=CMulW) (op:=(· * ·)) rfl (Zay a c rfl rfl rfl) (b i a)⟩) ?_)))
 ·show aA (Wz (iL (ZZ m u)))=_;rw[Ad,ZE];congr 1;refine aq λi a=>?_;rw[YE (aR.mp a)]
 ·rw[Qy];congr 2;exact Xd _ _
theorem N1(b:m<=50)(d:∀k j,k<m->j<m->CMulW (u k) (B k j)):V8 [pP (ZZ m u),wP (Wa m m B)]=aA (pP (ZZ m λj=>sN m λk=>u k*B k j)):=
 Xe (ret (FD (c1 (XC (λj=>sN m λk=>u k*B k j) (Z6 (n:=m) (c1 rfl (by rw[BX,aO,ZE])) (by omega)) (by omega) λj a=>⟨_,rfl,rfl,c3 rfl rfl rfl (S6 b a λk c=>d k j c a)⟩) (Yy _))))
theorem Ld{M:List (List Int)}{f:XE}{s:ZH}(q:f s=aA (.lst (tL M))):eP (Zc ZP [f]) s=aA (wP M):=ep (c1 q (Yy _)) (by rw[Ur];exact V4 _)
theorem UT(a:m<=50)(c:∀i k j,i<m->k<m->j<m->CMulW (A i k) (B k j)):YX [wP (Wa m m A),wP (Wa m m B)]=aA (wP (Wa m m (PM.mul m A B))):=
 Xe (ret (Ld (WK (w:=m) (PM.mul m A B) (q:=λi=>pP (ZZ m (A i))) (by show aA (tL (Wa m m A))=_;rw[Pg]) (by omega) λi e=>⟨_,rfl,c2 rfl rfl (N1 a λk j b d=>c i k j e b d)⟩)))
theorem Pn(a:m<=100)(c:∀j,j<m->V6 (u j) (v j)):UA [pP (ZZ m u),pP (ZZ m v)]=aA (pP (ZZ m λj=>(u j).fdiv (v j))):=
 Xe (ret (FD (c1 (XI (q:=λj=>.tup [.int (u j),.int (v j)]) (λj=>(u j).fdiv (v j)) (by show aA (Vo (iL (ZZ m u)) (iL (ZZ m v)))=_;rw[FX]) a λj b=>⟨_,rfl,vC (C:=V6) (op:=jB) rfl rfl (c j b)⟩) (Yy _))))
theorem N2{W:List (List Int)}(ok:ZQ W)(a:W.length=m+1):V7 [wP W]=aA (wP (Wa m m (ZR W 0))):=by have h:=WL ok (b:=0) ok.pos;rw[show W.length-1=m by omega] at h;exact Xe (ret (c2 rfl rfl h))
theorem D5{l:List PV}{k:Nat}(a:k<=l.length):Wm l none (aA (k:Int))=l.take k:=by unfold Wm;rw[HT.sIx_none,HT.sIx_nat,gj,iV,dJ a]
theorem D6{l:List PV}{k:Nat}(a:k<=l.length):Wm l (aA (k:Int)) none=l.drop k:=by unfold Wm;rw[HT.sIx_none,HT.sIx_nat,dJ a,b0 (by rw[cE];omega)]
theorem D7:(ZZ (m+m) u).take m=ZZ m u:=by have:=R7 (w:=m+m) (v:=u) (a:=0) (b:=m) (by omega) (by omega);rw[gj,iV] at this;rw[this];unfold ZZ;refine aq λi _=>?_;rw[Nat.zero_add]
theorem D8:(ZZ (m+m) u).drop m=ZZ m λj=>u (m+j):=by have:=R7 (w:=m+m) (v:=u) (a:=m) (b:=m+m) (by omega) (by omega);rw[b0 (by rw[cE,ZE];omega),show m+m-m=m by omega] at this;exact this
theorem Ao{x:Int}(b:1<=m)(a:m<=100):Mz (.tup [.int x]) (.int (m:Int))=aA (pP (ZZ m λ_=>x)):=by
 unfold Mz;simp only[];rw[kr (by refine⟨rfl,by simp,by omega,by omega,by simp;omega⟩)];congr 2;apply cq;intro i;unfold ZZ;by_cases h:i<m
 ·simp[h]
 ·simp[h]
end
abbrev R8(m:Nat)(E:Mt):Mt:=λi j=>E i (m+j)
abbrev HA(m:Nat)(E:Mt):Mt:=λi j=>E (m+i) j
abbrev bkM(W:List (List Int))(m:Nat)(E:Mt):List (List Int):=Wa m m λi j=>(PM.mul m (ZR W 0) (HA m E) i j).fdiv (E j j)
abbrev foM(W:List (List Int))(m:Nat)(E:Mt):List (List Int):=Wa m m λi j=>(PM.mul m (R8 m E) (ZR W 0) i j).fdiv (E i i)
theorem F6{W:List (List Int)}{m:Nat}(ok:ZQ W)(I:W3 W)(J:W.length<=7)(L:(UQ W).length<=28)(D:W.length=m+1) :
  ∃E c,RU [wP W]=aA (.tup [wP (Wa m m (R8 m E)),wP (bkM W m E),wP (Wa m m (HA m E)),wP (foM W m E),pP (ZZ m λi=>E i i)])/\PM.Cr m m (ZR W 0) E/\c<=43000000/\(∀i j,i<m->j<m->(E i (m+j)).natAbs<=2^c)/\(∀i j,i<m->j<m->(E (m+i) j).natAbs<=2^c)/\(∀i,i<m->E i i∣Yf m (ZR W 0)):=by
 have M:m<=6:=by omega
 have bs:=An ok I J D;have F:=D28 ok I D J L;have f:=Zaw ok I D L
 suffices g:Y3 Jz (ZN 10 [wP W]) λv=>∃E c,v = .tup [wP (Wa m m (R8 m E)),wP (bkM W m E),wP (Wa m m (HA m E)),wP (foM W m E),pP (ZZ m λi=>E i i)]/\PM.Cr m m (ZR W 0) E/\c<=43000000/\(∀i j,i<m->j<m->(E i (m+j)).natAbs<=2^c)/\(∀i j,i<m->j<m->(E (m+i) j).natAbs<=2^c)/\(∀i,i<m->E i i∣Yf m (ZR W 0)) by obtain⟨v,e,E,c,rfl,r⟩:=Rq g;exact⟨E,c,e,r⟩
 refine Z2 (Zw (c1 rfl (N2 ok D))) (Z2 (Zw (vP (c1 rfl (by rw[FH,NV])))) (Z2 (Zw (c1 rfl (Lb (by omega)))) (Rr (CF (n:=m) (λk s=>∃E c C,s=[aA (wP W),aA (wP (Wa m m (ZR W 0))),aA (.int (m:Int)),aA (.lst (bL (m+m) E)),C,none,none,none,none,none]/\c<=gK k/\(k=0->∀i j,i<m->j<m->(E i j).natAbs<=2^6)/\PM.Pl m k (aK k) c (ZR W 0) E) rfl ⟨E0 m (ZR W 0),0,none,rfl,cP _,λ_ i j b d=>?_,?_⟩ ?_) ?_)))
 ·rw[show E0 m (ZR W 0) i j=ZR W 0 i j by unfold E0;rw[kr b,kr d]];exact aQ (f i j b d) (by decide)
 ·exact pl0 M λi j b d=>aQ (f i j b d) (by decide)
 ·rintro k s u ⟨E,c,C,rfl,t,T,h⟩;obtain⟨Q,H,e,l,p⟩:=F5 bs F M u T h t;exact Hz (Zw (c3 rfl rfl rfl e)) ⟨Q,H,_,rfl,l,λz=>absurd z (by omega),p⟩
 ·rintro s ⟨E,c,C,rfl,t,_,h⟩
  have y:c<=43000000:=aQ t (by
   have kk:m=0\/m=1\/m=2\/m=3\/m=4\/m=5\/m=6:=by omega
   rcases kk with r | r | r | r | r | r | r<;>subst r<;>decide)
  have O:∀i,i<m->E i i∣Yf m (ZR W 0):=λi b=>by
   obtain⟨Z0,S⟩:=bs.z;refine h.cr.adm.div S b λx U=>?_;by_cases q:x=i
   ·rw[q];exact gC _
   ·rw[(h.cr.d1 i x b U q).2];exact cU _
  have dl:∀i,i<m->E i i≠0/\(E i i).natAbs.log2<9000:=λi b=>by have h1:=h.cr.d2 i b;have h2:=fM (by have:=bs.nz;omega) (cQ.mpr (O i b));refine⟨by omega,?_⟩;have:=FY (x:=E i i) (G:=21) (by omega) (by omega);omega
  have N:∀{i j G},6<=G->i<m->j<m->(ZR W 0 i j).natAbs<2^G:=λ{i j G} X b d=>aa (show _<2^6 by have:=f i j b d;omega) (PM.pw2 X);have sR:∀i j,i<m->j<m->(E (m+i) j).natAbs<2^(c+6):=λi j b d=>ar (h.rb i j b d) (cW (by omega) (by omega));have Z:∀i j,i<m->j<m->(E i (m+j)).natAbs<2^(c+6):=λi j b d=>ar (h.lb i j b d) (cW (by omega) (by omega));have Y:=UT (m:=m) (A:=ZR W 0) (B:=HA m E) (by omega) λi k j b u d=>FZ (G:=c+6) (N (by omega) b u) (sR k j u d) (by omega) (by omega);have R:=UT (m:=m) (A:=R8 m E) (B:=ZR W 0) (by omega) λi k j b u d=>FZ (G:=c+6) (Z i k b u) (N (by omega) u d) (by omega) (by omega);have lst:bL (m+m) E=(aE m).map (λi=>cR (m+m) (E i))++(aE m).map λi=>cR (m+m) (E (m+i)):=by unfold bL;rw[kY,eO,dD];rfl
  refine Z2 (Zw (FD (c1 (XC (λi=>E i i) (Z6 rfl (by omega)) (by omega) λi b=>⟨_,rfl,rfl,TR (w:=m+m) (E:=E) (by omega) (by omega) rfl rfl rfl⟩) (Yy _)))) (Z2 (Zw (Ld (WK (w:=m) (R8 m E) (q:=λi=>cR (m+m) (E i)) ?_ (by omega) λi b=>⟨_,rfl,c1 (a:=.lst (iL (ZZ m λj=>E i (m+j)))) ?_ (Yy _)⟩))) (Z2 (Zw (Ld (WK (w:=m) (HA m E) (q:=λi=>cR (m+m) (E (m+i))) ?_ (by omega) λi b=>⟨_,rfl,c1 (a:=.lst (iL (ZZ m (E (m+i))))) ?_ (Yy _)⟩))) (Z2 (Zw (Ld (WK (m:=m) (w:=m) (λi j=>(PM.mul m (ZR W 0) (HA m E) i j).fdiv (E j j)) (q:=λi=>pP (ZZ m (PM.mul m (ZR W 0) (HA m E) i))) ?_ (by omega) λi b=>⟨_,rfl,c2 rfl rfl (Pn (by omega) λj d=>dl j d)⟩))) (Z2 (Zw (Ld (WK (m:=m) (w:=m) (λi j=>(PM.mul m (R8 m E) (ZR W 0) i j).fdiv (E i i)) (q:=λi=>.tup [pP (ZZ m (PM.mul m (R8 m E) (ZR W 0) i)),.int (E i i)]) ?_ (by omega) λi b=>⟨_,rfl,c2 rfl (o2 (a:=.tup [.int (E i i)]) rfl rfl (Ao (by omega) (by omega))) (Pn (by omega) λj d=>dl i b)⟩))) (W4 (ep rfl ?_) ⟨E,c,rfl,h.cr,y,h.lb,h.rb,O⟩)))))
  ·show(RI UK (Za 3) Lj (UJ (Za 2)) _).bind _=_;rw[Wh];show(aA (PV.lst (Wm (bL (m+m) E) none (aA (m:Int))))).bind _=_;rw[D5 (by rw[Tf];omega),lst,kJ (by simp)];rfl
  ·rw[Wh];show aA (PV.lst (Wm (iL (ZZ (m+m) (E i))) (aA (m:Int)) none))=_;rw[Kw,D8]
  ·show(RI UK (Za 3) (UJ (Za 2)) Lj _).bind _=_;rw[Wh];show(aA (PV.lst (Wm (bL (m+m) E) (aA (m:Int)) none))).bind _=_;rw[D6 (by rw[Tf];omega),lst,List.drop_left' (by simp)];rfl
  ·rw[Wh];show aA (PV.lst (Wm (iL (ZZ (m+m) (E (m+i)))) none (aA (m:Int))))=_;rw[Kv,D7]
  ·have:Zc YX [Za 1,Za 7] [aA (wP W),aA (wP (Wa m m (ZR W 0))),aA (.int (m:Int)),aA (.lst (bL (m+m) E)),C,aA (pP (ZZ m λi=>E i i)),aA (wP (Wa m m (R8 m E))),aA (wP (Wa m m (HA m E))),none,none]=aA (wP (Wa m m (PM.mul m (ZR W 0) (HA m E)))):=c2 rfl rfl Y;refine(QA this).trans ?_;show aA (tL (Wa m m _))=_;rw[Pg]
  ·have:∀P,Zc YX [Za 6,Za 1] [aA (wP W),aA (wP (Wa m m (ZR W 0))),aA (.int (m:Int)),aA (.lst (bL (m+m) E)),C,aA (pP (ZZ m λi=>E i i)),aA (wP (Wa m m (R8 m E))),aA (wP (Wa m m (HA m E))),P,none]=aA (wP (Wa m m (PM.mul m (R8 m E) (ZR W 0)))):=λP=>c2 rfl rfl R;rw[My];refine(congrArg (λo=>kd o _) (this _)).trans ?_;show aA (Vo (tL (Wa m m (PM.mul m (R8 m E) (ZR W 0)))) (iL (ZZ m λi=>E i i)))=_;rw[YO _ _ (by rw[W5];simp[ZE]),W5];congr 1;refine aq λi b=>?_;have b:=aR.mp b;rw[aG,Td b,YD _ i (by rw[ZE];exact b),YE b];rfl
  ·rw[Ur];simp only[ZL,Ur,V4,Yc,Bool.and_self]
section
variable {m:Nat} {u v:Nat->Int} {L:Mt}
theorem Hn{l:List Int}(d:l.length=m)(e:m<=50)(b:∀j,j<m->CMulW (u j) (Zn l j)):QR [pP (ZZ m u),pP l]=aA (.int (sN m λj=>u j*Zn l j)):=by
 refine Xe (ret (vP (c1 (XI (q:=λj=>.tup [.int (u j),.int (Zn l j)]) (λj=>u j*Zn l j) ?_ (by omega) λj c=>⟨_,rfl,vC (C:=CMulW) (op:=(· * ·)) rfl rfl (b j c)⟩) ?_)))
 ·show aA (Vo (iL (ZZ m u)) (iL l))=_;rw[YO _ _ (by simp[ZE,d]),aO,ZE];congr 1;refine aq λi a=>?_;have a:=aR.mp a;rw[YD _ i (by rw[ZE];exact a),YD _ i (by omega),YE a]
 ·rw[Qy];congr 2;exact Xd _ _
abbrev Zaz(m:Nat)(L:Mt)(bk:List (List Int))(R:Mt)(fo:List (List Int))(r:Nat->Int):PV:=.tup [wP (Wa m m L),wP bk,wP (Wa m m R),wP fo,pP (ZZ m r)]
theorem Zcm{l:List Int}(h:1<=l.length){f:XE}{s:ZH}(q:f s=aA (pP l)):RI Ry f (UJ (eC (.int 1))) Lj s=aA (pP (l.drop 1)):=by rw[Wh,q];simp only[aV,RM];show Ry (pP l) (aA ((1:Nat):Int)) none=_;unfold Ry;simp only[];rw[ku,Kw];rw[HT.sIx_none,HT.sIx_nat,aO];omega
noncomputable def KY(m:Nat)(L:Mt)(D:List Int)(i:Nat):Int:=sN m λj=>L i j*Zn D (j+1)
theorem F7{R:Mt}{bk fo:List (List Int)}{D:List Int}(d:m<=50)(h:D.length=m+1)(e:∀i j,i<m->j<m->CMulW (L i j) (Zn D (j+1)))(g:∀i,i<m->1<=v i):Nj [Zaz m L bk R fo v,pP D]=aA (pP (ZZ m λi=>KY m L D i%v i)):=by
 have c:∀j,Zn (D.drop 1) j=Zn D (j+1):=λj=>by unfold Zn;rw[aG,dS,aG,Nat.add_comm]
 refine Xe (sq (Zw (ep (v:=wP (Wa m m L)) rfl (by rw[Ur];exact V4 _))) (ret (FD (c1 (XI (q:=λi=>.tup [pP (ZZ m (L i)),.int (v i)]) (λi=>KY m L D i%v i) ?_ (by omega) λi b=>⟨_,rfl,vC (C:=λ_ j=>0<j) (op:=(· % ·)) (a:=KY m L D i) (c2 rfl (Zcm (by omega) rfl) ?_) rfl (by have:=g i b;omega)⟩) (Yy _)))))
 ·rw[My];show aA (Vo (tL (Wa m m L)) (iL (ZZ m v)))=_;rw[YO _ _ (by rw[W5];simp[ZE]),W5];congr 1;refine aq λi b=>?_;have b:=aR.mp b;rw[aG,Td b,YD _ i (by rw[ZE];exact b),YE b];rfl
 ·rw[Hn (l:=D.drop 1) (by rw[cE];omega) d λj f=>by rw[c];exact e i j b f];unfold KY;rw[Zh λj _=>by rw[c]]
end
end PW
namespace PW
open L2 VL
noncomputable def Ho(c:Int):Int:=if c%4=3 then c*c%(2*10^26)-10^26 else c.fdiv 4%9-4
theorem KZ{c:Int}(h:c.natAbs.log2<=1048576):Uz [.int c]=aA (.int (Ho c)):=by
 have c1:CMulW c c:=⟨by omega,by omega⟩;have c2:CMulW 2 (10^26):=⟨UC (by decide),UC (by decide)⟩;have c3:V6 c 4:=⟨by decide,by decide +kernel⟩;have p:∀s:ZH,Zi Py (eC (.int 10)) (eC (.int 26)) s=aA (.int (10^26)):=λs=>vC (a:=10) (b:=26) (C:=N8) (op:=λi j=>i^j.toNat) rfl rfl (by decide);show Yz 1 Sk _=_;unfold Sk Ho;show(Zp _ _ [aA (.int c)]).bind V3=_;by_cases d:c%4=3
 ·rw[kr d,MU (v:=.int (c*c%(2*10^26)-10^26))]
  ·rfl
  ·have t:xB (Zi (Wg aB) (Zi Xt (Za 0) (eC (.int 4))) (eC (.int 3))) [aA (.int c)]=aA aC:=by simp[d]
   rw[Yv,t];simp only[aV,if_true];exact SU (vP (vI (vC (vC rfl rfl c1) (vC rfl (p _) c2) (by decide)) (p _)))
 ·have t:xB (Zi (Wg aB) (Zi Xt (Za 0) (eC (.int 4))) (eC (.int 3))) [aA (.int c)]=aA aB:=by simp[d]
  rw[ku d,Yr (s1:=[aA (.int c)]) (by rw[Yv,t];rfl),SU (vP (vI (vC (vC rfl rfl c3) rfl (by decide)) rfl))];rfl
theorem Hq(c:Int):(Ho c).natAbs<=10^26:=by
 unfold Ho;split
 ·have b:=cx (c*c) (show(2*10^26:Int)≠0 by decide);have a:=cJ (c*c) (show(0:Int)<2*10^26 by decide);omega
 ·have b:=cx (c.fdiv 4) (show(9:Int)≠0 by decide);have a:=cJ (c.fdiv 4) (show(0:Int)<9 by decide);omega
noncomputable def UE(ns:List Int)(a n:Nat):List Int:=(aE n).map λk=>Ho (Yn ns (a+k))
theorem K1(b:List Int)(a n:Nat):(UE b a n).length=n:=by simp[UE]
theorem Lf{b:List Int}(c:b.length<=63)(g:∀n∈b,n.natAbs.log2<=1048576){a n:Nat}(l:a<=60)(h:n<=7):Wq [.cst (iL b),.int (a:Int),.int (n:Int)]=aA (pP (UE b a n)):=by
 have f:Zr 1 [0,1] (ZT [Za 2]) (.one 0) Zy (Zc Uz [Zc ZY [Za 1,Zi Yj (Za 2) (Za 0)]]) [aA (.cst (iL b)),aA (.int (a:Int)),aA (.int (n:Int))]=aA (.lst (iL (UE b a n))):=by
  rw[XC (λi=>Ho (Yn b (a+i))) (Z6 (n:=n) (by simp) (by omega)) (by omega) λi j=>⟨_,rfl,rfl,?_⟩]
  ·rfl
  ·have d:=XD c (k:=a+i) (by omega);have e:((a+i:Nat):Int)=(a:Int)+(i:Int):=by omega
   rw[e] at d;simp[ZJ,d,KZ (MV g (a+i))]
 simp[Wq,QP,Yz,ZN,f]
theorem F8{W:List (List Int)}{D E O:List Int}(ok:ZQ W)(e:W3 W)(d:D.length=W.length)(m:∀h,h<W.length->(Zn D h).natAbs<=2^208)(bE:∀h,h<W.length->(Zn E h).natAbs<=2^208)(z:O.length=W.length)(f:E=ZG W D O):Uy [wP W,pP D,pP E]=aA (pP (ZW O)):=by
 have x:=ok.pos;have A:=ok.few;have s:E.length=W.length:=by rw[f,Yd,d]
 obtain⟨S,N,F,q,w,j,st⟩:=UD ok e d (b:=0) (by omega) m;have y:N.length=W.length:=by rw[j,Yd,d]
 have u:=Hk (D:=E) (S:=UL S O) (N:=N) (F:=F) ok e s (b:=0) (by omega) bE (by rw[Vg];exact w) (by
  rw[j,f];exact(JB d λi t=>by rw[Q6 (by omega)];omega).symm) st
 have r:=Fm (a:=ZW S) (b:=ZW (UL S O)) (by rw[Ym,Ym,Vg]) (by rw[Ym];omega);have g:=Pk (l:=UL (ZW S) (ZW (UL S O))) (by rw[Vg,Ym];omega) (by rw[Vg,Ym];omega);have n:ZW (UL (ZW S) (ZW (UL S O)))=ZW O:=Rl (XZ (UL S O)-XZ S) (by rw[Vg,Ym];omega) (by omega) λi t=>by rw[Q6 (by rw[Ym];omega),Wu (by omega),Wu (by rw[Vg];omega),Q6 (by omega)];omega
 rw[n] at g;let T:PV:=.tup [pP (ZW S),pP N,.lst (iL (nL F))];let c:PV:=.tup [pP (ZW (UL S O)),pP N,.lst (iL (nL F))];have p:Zq 3 (Zc Yl [Za 0,Za 1,eC (.int 0)]) [aA (wP W),aA (pP D),aA (pP E),none,none]=aA (.nx [aA (wP W),aA (pP D),aA (pP E),aA T,none]):=by have:Zc Yl [Za 0,Za 1,eC (.int 0)] [aA (wP W),aA (pP D),aA (pP E),none,none]=aA T:=q;rw[Yp,this];rfl
 have o:Zq 4 (Zc Yl [Za 0,Za 2,eC (.int 0)]) [aA (wP W),aA (pP D),aA (pP E),aA T,none]=aA (.nx [aA (wP W),aA (pP D),aA (pP E),aA T,aA c]):=by have:Zc Yl [Za 0,Za 2,eC (.int 0)] [aA (wP W),aA (pP D),aA (pP E),aA T,none]=aA c:=u;rw[Yp,this];rfl
 have k:Rh (xB (Zi (Wg aC) (Zi ZM (Za 3) (eC (.int 1))) (Zi ZM (Za 4) (eC (.int 1))))) (ZO (eP (eC .non))) YG [aA (wP W),aA (pP D),aA (pP E),aA T,aA c]=aA (.nx [aA (wP W),aA (pP D),aA (pP E),aA T,aA c]):=by
  have:Zi (Wg aC) (Zi ZM (Za 3) (eC (.int 1))) (Zi ZM (Za 4) (eC (.int 1))) [aA (wP W),aA (pP D),aA (pP E),aA T,aA c]=aA (.bl aB):=by show Wg aC (pP N) (pP N)=_;rw[LU];simp
  rw[Yv,O7,this];rfl
 show Yz 5 TF _=_;unfold TF;show(Zp _ _ [aA (wP W),aA (pP D),aA (pP E),none,none]).bind V3=_;rw[Yr p,Yr o,Yr k];have v:Zc Vw [Zc Uv [Zi ZM (Za 3) (eC (.int 0)),Zi ZM (Za 4) (eC (.int 0))]] [aA (wP W),aA (pP D),aA (pP E),aA T,aA c]=aA (pP (ZW O)):=by have h:Zc Uv [Zi ZM (Za 3) (eC (.int 0)),Zi ZM (Za 4) (eC (.int 0))] [aA (wP W),aA (pP D),aA (pP E),aA T,aA c]=aA (pP (UL (ZW S) (ZW (UL S O)))):=r;rw[YH,ZD,h];exact g
 rw[SU v];rfl
theorem Hr{W:List (List Int)}{D E S N e a:List Int}{F d:List Nat}(ok:ZQ W)(j:W3 W)(k:D.length=W.length)(l:E.length=W.length)(i:Yl [wP W,pP D,.int ((0:Nat):Int)]=aA (.tup [pP S,pP N,.lst (iL (nL F))]))(c:Yl [wP W,pP E,.int ((0:Nat):Int)]=aA (.tup [pP e,pP a,.lst (iL (nL d))]))(ne:N≠a):Uy [wP W,pP D,pP E]=aA .non:=by
 let T:PV:=.tup [pP S,pP N,.lst (iL (nL F))];let b:PV:=.tup [pP e,pP a,.lst (iL (nL d))];have h:Zq 3 (Zc Yl [Za 0,Za 1,eC (.int 0)]) [aA (wP W),aA (pP D),aA (pP E),none,none]=aA (.nx [aA (wP W),aA (pP D),aA (pP E),aA T,none]):=by have:Zc Yl [Za 0,Za 1,eC (.int 0)] [aA (wP W),aA (pP D),aA (pP E),none,none]=aA T:=i;rw[Yp,this];rfl
 have g:Zq 4 (Zc Yl [Za 0,Za 2,eC (.int 0)]) [aA (wP W),aA (pP D),aA (pP E),aA T,none]=aA (.nx [aA (wP W),aA (pP D),aA (pP E),aA T,aA b]):=by have:Zc Yl [Za 0,Za 2,eC (.int 0)] [aA (wP W),aA (pP D),aA (pP E),aA T,none]=aA b:=c;rw[Yp,this];rfl
 have f:Rh (xB (Zi (Wg aC) (Zi ZM (Za 3) (eC (.int 1))) (Zi ZM (Za 4) (eC (.int 1))))) (ZO (eP (eC .non))) YG [aA (wP W),aA (pP D),aA (pP E),aA T,aA b]=aA (.rt .non):=by
  have:Zi (Wg aC) (Zi ZM (Za 3) (eC (.int 1))) (Zi ZM (Za 4) (eC (.int 1))) [aA (wP W),aA (pP D),aA (pP E),aA T,aA b]=aA (.bl aC):=by show Wg aC (pP N) (pP a)=_;rw[LU];simp[ne]
  rw[Yv,O7,this];rfl
 show Yz 5 TF _=_;unfold TF;show(Zp _ _ [aA (wP W),aA (pP D),aA (pP E),none,none]).bind V3=_;rw[Yr h,Yr g,MU f];rfl
end PW
namespace PM
open PW
noncomputable def col(x:Nat->Int):Mt:=λi _=>x i
theorem image{m:Nat}{d E:Mt}(u:Cr m m d E)(c:Nat->Int)(k:Int):(∀i,i<m->E i i∣k*sN m (λj=>E i (m+j)*c j))↔∃x:Nat->Int,∀j,j<m->sN m (λl=>d j l*x l)=k*c j:=by
 obtain⟨g,n,B,s,A,D⟩:=u.adm.ex;have e:=u.adm.val;generalize G:(λi k=>E i (m+k):Mt)=L at B s e;generalize N:(λi k=>E (m+i) k:Mt)=R at A D e;have w:∀i,sN m (λj=>E i (m+j)*c j)=mul m L (col c) i 0:=λi=>by rw[<-G];rfl
 have o:∀(y:Nat->Int) i,i<m->mul m E (col y) i 0=E i i*y i:=λy i a=>Z4 a λj f C=>by rw[(u.d1 i j a f C).1,bp]
 have I:∀i j,i<m->j<m->mul m d R i j=mul m g E i j:=λi j a f=>by rw[ZF (A':=g) (B':=mul m L (mul m d R)) (λ_ _=>rfl) (λl b=>(e l j b f).symm),<-XW,ZF (A':=one) (B':=mul m d R) (λl b=>s i l a b) (λ_ _=>rfl),one_mul a]
 constructor
 ·intro h
  have:∀i,∃t,i<m->k*mul m L (col c) i 0=E i i*t:=λi=>by
   by_cases a:i<m
   ·obtain⟨t,p⟩:=h i a;rw[w] at p;exact⟨t,λ_=>p⟩
   ·exact⟨0,λz=>absurd z a⟩
  obtain⟨t,p⟩:=Classical.axiomOfChoice this;refine⟨λl=>mul m R (col t) l 0,λj f=>?_⟩;have r:sN m (λl=>d j l*mul m R (col t) l 0)=mul m (mul m d R) (col t) j 0:=(XW m d R (col t) j 0).symm;have v:mul m (mul m d R) (col t) j 0=mul m (mul m g E) (col t) j 0:=ZF (λl b=>I j l f b) λ_ _=>rfl;rw[r,v,XW];have H:mul m g (mul m E (col t)) j 0=sN m (λi=>k*(g j i*mul m L (col c) i 0)):=Zh λi a=>by rw[o t i a,<-p i a,cG]
  rw[H,ZA];congr 1;have M:sN m (λi=>g j i*mul m L (col c) i 0)=mul m (mul m g L) (col c) j 0:=(XW m g L (col c) j 0).symm;rw[M,ZF (A':=one) (B':=col c) (λl b=>s j l f b) (λ_ _=>rfl),one_mul f];rfl
 ·rintro⟨x,F⟩ i a;rw[w];refine⟨mul m n (col x) i 0,?_⟩;rw[<-o (λi=>mul m n (col x) i 0) i a];have r:mul m E (col λi=>mul m n (col x) i 0) i 0=mul m (mul m L (mul m d R)) (mul m n (col x)) i 0:=ZF (λl b=>(e i l a b).symm) λ_ _=>rfl;rw[r,XW];have v:∀j,j<m->mul m (mul m d R) (mul m n (col x)) j 0=k*c j:=λj f=>by rw[XW,<-F j f];refine Zh λl b=>?_;rw[<-XW,ZF (A':=one) (B':=col x) (λq J=>A l q b J) (λ_ _=>rfl),one_mul b];rfl
  rw[ZF (A':=L) (B':=λj _=>k*c j) (λ_ _=>rfl) v];show k*sN m (λj=>L i j*c j)=sN m (λj=>L i j*(k*c j));rw[<-ZA];exact Zh λj _=>cG _ _ _
end PM
namespace PW
open PySem L2 VL VX
theorem N3(f:Nat->Int):∀n,sN (n+1) f=f 0+sN n λj=>f (j+1)
 | 0=>by show 0+f 0=f 0+0;omega
 | n+1=>by show sN (n+1) f+f (n+1)=f 0+(sN n (λj=>f (j+1))+f (n+1));rw[N3 f n];omega
theorem Lg(i:Nat):Xh 0 i=i+1:=by unfold Xh;rw[ku (by omega)]
section
variable {W:List (List Int)} {m:Nat} {D:List Int}
theorem Ap(ok:ZQ W)(Y:Nat->Int):sN W.length (gN W Y)=0:=by
 have z:(aX W.length (0:Int)).length=W.length:=by simp
 have h:=JC (S:=ZZ W.length Y) ok z;rw[Um,Yd,z] at h
 have c:(aX W.length (0:Int)).sum=0:=by
  rw[Um];exact Xc λi a=>by rw[z] at a;exact JD 0 a
 rw[c] at h;rw[<-h];refine Zh λi a=>?_;rw[W7 (by rw[z];exact a),JD 0 a,jn];exact Ul a λg b=>(YE b).symm
theorem K2(ok:ZQ W)(o:W.length=m+1)(t:D.length=W.length)(s:D.sum=0)(k:Int):(∃Y:Nat->Int,∀h,h<W.length->k*Zn D h+gN W Y h=0)↔∃x:Nat->Int,∀j,j<m->sN m (λl=>ZR W 0 j l*x l)=k*Zn D (j+1):=by
 have n:sN (m+1) (Zn D)=0:=by rw[<-o,<-t,<-Um];exact s
 constructor
 ·rintro⟨Y,d⟩;obtain⟨Z,f⟩:∃Z:Nat->Int,∀h,Z h=Y h+(- Y 0):=⟨_,λ_=>rfl⟩;refine⟨λl=>Z (l+1),λj p=>?_⟩;have e:=Pj ok (b:=0) ok.pos (Y:=Z) (by rw[f];omega) (k:=j) (by omega);have v:gN W Z (Xh 0 j)=gN W Y (Xh 0 j):=by rw[Lg];rw[Ul (W:=W) (Y:=Z) (Z:=λx=>Y x+(λ_=>- Y 0) x) (by omega) (λg _=>f g),Te,M5 (T:=λ_=>- Y 0) (c:=- Y 0) (λ_ _=>rfl) (by omega)];omega
  rw[v,Lg,show W.length-1=m by omega] at e;have w:=d (j+1) (by omega);rw[Zh (g:=λi=>ZR W 0 j i*Z (Xh 0 i)) λi _=>by rw[Lg]];omega
 ·rintro⟨x,u⟩;obtain⟨Y,d⟩:∃Y:Nat->Int,∀h,Y h=if h=0 then 0 else x (h-1):=⟨_,λ_=>rfl⟩
  have a:∀j,j<m->k*Zn D (j+1)+gN W Y (j+1)=0:=λj p=>by have e:=Pj ok (b:=0) ok.pos (Y:=Y) (by rw[d,kr rfl]) (k:=j) (by omega);rw[Lg,show W.length-1=m by omega,Zh (g:=λl=>ZR W 0 j l*x l) λl _=>by rw[Lg,d,ku (by omega),show l+1-1=l by omega],u j p] at e;omega
  refine⟨Y,λh y=>?_⟩;by_cases q:h=0
  ·subst q;have s1:=Ap ok Y;rw[o,N3 (gN W Y) m] at s1;rw[N3 (Zn D) m] at n;have s2:sN m (λj=>k*Zn D (j+1)+gN W Y (j+1))=0:=Xc a;rw[Z3,ZA] at s2;have r:k*(Zn D 0+sN m λj=>Zn D (j+1))=0:=by rw[n,b5]
   rw[fS] at r;omega
  ·have:=a (h-1) (by omega)
   rwa [show h-1+1=h by omega] at this
theorem Hs{E:List Int}(ok:ZQ W)(a:W3 W)(c:D.length=W.length)(f:E.length=W.length)(k:∀h,h<W.length->(Zn D h).natAbs<=2^208)(bE:∀h,h<W.length->(Zn E h).natAbs<=2^208) :
  (∃O,O.length=W.length/\E=ZG W D O/\Uy [wP W,pP D,pP E]=aA (pP (ZW O)))\/(Uy [wP W,pP D,pP E]=aA .non/\¬ ∃Y:Nat->Int,∀h,h<W.length->Zn E h=Zn D h+gN W Y h):=by
 have w:=ok.pos;by_cases q:∃Y:Nat->Int,∀h,h<W.length->Zn E h=Zn D h+gN W Y h
 ·obtain⟨Y,r⟩:=q;have l:=ZE W.length Y;have m:E=ZG W D (ZZ W.length Y):=WI (by rw[f,Yd,c]) λi B=>by rw[r i (by omega),W7 (by omega)];congr 1;exact Ul (by omega) λg o=>(YE o).symm
  exact .inl ⟨_,l,m,F8 ok a c k bE l m⟩
 ·refine .inr ⟨?_,q⟩;obtain⟨S,N,F,s,G,v,st⟩:=UD ok a c (b:=0) (by omega) k;obtain⟨j,p,A,d,t,e,n⟩:=UD ok a f (b:=0) (by omega) bE;refine Hr ok a c f s d λz=>q ⟨λx=>Zn S x+(-1)*Zn j x,λh C=>?_⟩;have u:Zn N h=Zn D h+gN W (Zn S) h:=by rw[v];exact W7 (by omega)
  have y:Zn p h=Zn E h+gN W (Zn j) h:=by rw[e];exact W7 (by omega)
  rw[Te (Zn S) (λx=>(-1)*Zn j x),Wx];rw[z] at u;omega
end
end PW
namespace PW
open L2 VL
noncomputable def TV(n:Nat)(M:List (List Int)):Int:=sN n λi=>sN n (ent M i)
theorem Ht(n:Nat):TV n (aX n (aX n (0:Int)))=0:=Xc λi b=>Xc λj a=>by simp[ent,ZK,Zn,b,a]
theorem OE{n a b:Nat}{c:Int}(g:a<n)(d:b<n):(sN n λi=>sN n λj=>if i=a/\j=b then c else 0)=c:=by rw[Z4 g λi _ f=>Xc λj _=>ku λz=>f z.1,Z4 d λj _ e=>ku λz=>e z.2,kr ⟨rfl,rfl⟩]
theorem JY{n:Nat}{M:List (List Int)}{a b:Nat}{t:Int}(ok:MatOk n M)(c:a<n)(d:b<n)(f:a≠b):TV n (Pa M a b t)=TV n M+2*(t-ent M a b):=by
 have e:TV n (Pa M a b t)=sN n λi=>sN n λj=>(ent M i j+if i=a/\j=b then t-ent M a b else 0)+if i=b/\j=a then t-ent M a b else 0:=Zh λi h=>Zh λj k=>by
  rw[RY ok c d];have s:=ok.sym a b c d;by_cases p:b=i/\a=j
  ·obtain⟨rfl,rfl⟩:=p;rw[kr ⟨rfl,rfl⟩,ku λz=>f z.1.symm,kr ⟨rfl,rfl⟩];omega
  ·rw[ku p,ku (show ¬(i=b/\j=a) from λz=>p ⟨z.1.symm,z.2.symm⟩)];by_cases p2:a=i/\b=j
   ·obtain⟨rfl,rfl⟩:=p2;rw[kr ⟨rfl,rfl⟩,kr ⟨rfl,rfl⟩];omega
   ·rw[ku p2,ku (show ¬(i=a/\j=b) from λz=>p2 ⟨z.1.symm,z.2.symm⟩)];omega
 rw[e]
 have g:(sN n λi=>sN n λj=>(ent M i j+if i=a/\j=b then t-ent M a b else 0)+if i=b/\j=a then t-ent M a b else 0)=(TV n M+sN n λi=>sN n λj=>if i=a/\j=b then t-ent M a b else 0)+sN n λi=>sN n λj=>if i=b/\j=a then t-ent M a b else 0:=by
  unfold TV;rw[<-Z3,<-Z3];exact Zh λi _=>by rw[<-Z3,<-Z3]
 rw[g,OE c d,OE d c];omega
theorem Zcn{c:List Int}{mo n:Nat}{M:List (List Int)}{sp:List Int}{x7 x8 x9:Option PV}{k:Nat}(h:c.length<=63)(P:n<=7)(B:1<=k)(p:k<n)(f:NamesOk n sp)(ok:MatOk n M)(N:Grown M sp k) :
  ∃M' y7,MatOk n M'/\Grown M' sp (k+1)/\TV n M'<=TV n M+6/\bW2 (Wv c mo n M sp (aA (.int (k:Int))) x7 x8 x9)=aA (.nx (Wv c mo n M' sp (aA (.int (k:Int))) y7 x8 x9)):=by
 obtain⟨v,F,I⟩:=Xq (Yn c k) (t:=1) (m:=k) (by omega) (by omega);obtain⟨w,U,G⟩:=Xq (Yn c k) (t:=2) (m:=3) (by omega) (by omega);have H:=XD h (k:=k) (by omega);have O:=f.at (x:=k) p;have T:=f.at (x:=v) (by omega);have ne:=f.ne (x:=k) (y:=v) p (by omega) (by omega);obtain⟨a,ea⟩:∃a:Nat,Zn sp k=(a:Int):=⟨(Zn sp k).toNat,by omega⟩;obtain⟨b,D⟩:∃b:Nat,Zn sp v=(b:Int):=⟨(Zn sp v).toNat,by omega⟩;have d:a<n:=by omega
 have e:b<n:=by omega
 have A:=MW (k:=1+(w:Int)) ok d e;have lo:=ok.lo a b d e;generalize u:(if ent M a b+(1+(w:Int))<9 then ent M a b+(1+(w:Int)) else 9)=t at A;have s:0<t/\t<=9:=by rw[<-u];split<;>omega
 have S:t<=ent M a b+3:=by rw[<-u];have:=ok.hi a b d e;split<;>omega
 have r:a≠b:=by omega
 have R:=JY (t:=t) ok d e r;have C:=Y1 (l:=sp) (k:=k) (by rw[f.len];exact p);have z:=Y1 (l:=sp) (k:=v) (by rw[f.len];omega);rw[ea] at C;rw[D] at z;obtain⟨L,J⟩:=JG ok d e s.1;refine⟨Pa M a b t,aA (.int (Yn c k)),Fy ok d e (by omega) (by omega) s.2,λj B Q=>?_,?_,?_⟩
 ·by_cases q:j<k
  ·exact(N.mono L) j B q
  ·have:j=k:=by omega
   subst this;exact⟨v,F,by rw[ea,D];exact J⟩
 ·omega
 ·have E:Zq 7 (Zc ZY [Za 0,Za 6]) (Wv c mo n M sp (aA (.int (k:Int))) x7 x8 x9)=aA (.nx (Wv c mo n M sp (aA (.int (k:Int))) (aA (.int (Yn c k))) x8 x9)):=by simp[Wv,H]
  unfold bW2;rw[Yr E,JF (i:=4) (l0:=.lst (rL M)) (ls:=[.int (a:Int),.int (b:Int),.int (1+(w:Int))]) rfl ?_ rfl A]
  ·rfl
  ·have g:Zz [PV.int (Yn c k),PV.int 1,PV.int (k:Int)]=aA (.int (v:Int)):=I;have o:Zz [PV.int (Yn c k),PV.int 2,PV.int 3]=aA (.int (w:Int)):=G;simp[Wv,C,z,g,o]
theorem Zco{e:List Int}{mo n:Nat}{M:List (List Int)}{sp:List Int}{x7 x8 x9:Option PV}{i:Nat}(r:e.length<=63)(J:n<=7)(L:2<=n)(R:i<6)(ok:MatOk n M) :
  ∃M' y7 y8 y9,MatOk n M'/\(∀i j,0<ent M i j->0<ent M' i j)/\TV n M'<=TV n M+4/\bW3 (Wv e mo n M sp (aA (.int (i:Int))) x7 x8 x9)=aA (.nx (Wv e mo n M' sp (aA (.int (i:Int))) y7 y8 y9)):=by
 generalize H:Yn e (7+i)=c;obtain⟨a,f,ea⟩:=Xq c (t:=4) (m:=n) (by omega) (by omega);obtain⟨d,O,z⟩:=Xq c (t:=5) (m:=n-1) (by omega) (by omega);obtain⟨w,S,C⟩:=Xq c (t:=6) (m:=2) (by omega) (by omega);have p:=XD r (k:=7+i) (by omega);rw[H] at p
 obtain⟨b,g,h,I⟩:∃b:Nat,b<n/\a≠b/\((a:Int)+1+(d:Int))%(n:Int)=(b:Int):=by
  refine⟨(a+1+d)%n,j9 _ (by omega),?_,?_⟩
  ·by_cases q:a+1+d<n
   ·rw[kC q];omega
   ·rw[Nat.mod_eq_sub_mod (by omega),kC (by omega)];omega
  ·have:((a:Int)+1+(d:Int))=((a+1+d:Nat):Int):=by omega
   rw[this];exact(Int.natCast_emod _ _).symm
 have y:=MW (k:=1+(w:Int)) ok f g;have lo:=ok.lo a b f g;generalize x:(if ent M a b+(1+(w:Int))<9 then ent M a b+(1+(w:Int)) else 9)=t at y;have v:0<t/\t<=9:=by rw[<-x];split<;>omega
 have P:t<=ent M a b+2:=by rw[<-x];have:=ok.hi a b f g;split<;>omega
 have N:=JY (t:=t) ok f g h;obtain⟨D,Q⟩:=JG ok f g v.1;refine⟨Pa M a b t,aA (.int c),aA (.int (a:Int)),aA (.int (b:Int)),Fy ok f g h (by omega) v.2,D,by omega,?_⟩;have E:((7+i:Nat):Int)=7+(i:Int):=by omega
 rw[E] at p;have A:Zq 7 (Zc ZY [Za 0,Zi Yj (eC (.int 7)) (Za 6)]) (Wv e mo n M sp (aA (.int (i:Int))) x7 x8 x9)=aA (.nx (Wv e mo n M sp (aA (.int (i:Int))) (aA (.int c)) x8 x9)):=by simp[Wv,p]
 have l:Zz [PV.int c,PV.int 4,PV.int (n:Int)]=aA (.int (a:Int)):=ea;have G:Zq 8 (Zc Zz [Za 7,eC (.int 4),Za 3]) (Wv e mo n M sp (aA (.int (i:Int))) (aA (.int c)) x8 x9)=aA (.nx (Wv e mo n M sp (aA (.int (i:Int))) (aA (.int c)) (aA (.int (a:Int))) x9)):=by simp[Wv,l]
 have o:((n-1:Nat):Int)=(n:Int)-1:=by omega
 rw[o] at z;have u:Zz [PV.int c,PV.int 5,PV.int ((n:Int)-1)]=aA (.int (d:Int)):=z;have B:0<n:=by omega
 have F:Zq 9 (eP (Zi Xt (Zi Yj (Zi Yj (Za 8) (eC (.int 1))) (Zc Zz [Za 7,eC (.int 5),Zi XN (Za 3) (eC (.int 1))])) (Za 3))) (Wv e mo n M sp (aA (.int (i:Int))) (aA (.int c)) (aA (.int (a:Int))) x9)=aA (.nx (Wv e mo n M sp (aA (.int (i:Int))) (aA (.int c)) (aA (.int (a:Int))) (aA (.int (b:Int))))):=by simp[Wv,u,B,I]
 have s:Zz [PV.int c,PV.int 6,PV.int 2]=aA (.int (w:Int)):=C;unfold bW3;rw[Yr A,Yr G,Yr F,JF (i:=4) (l0:=.lst (rL M)) (ls:=[.int (a:Int),.int (b:Int),.int (1+(w:Int))]) rfl ?_ rfl y]
 ·rfl
 ·simp[Wv,s]
theorem K3{a:List Int}(z:a.length<=63){mo:Nat}(Y:1<=mo)(h7:mo<=7):∃W,Ng [.cst (iL a),.int (mo:Int)]=aA (wP W)/\ZQ W/\W3 W/\W.length<=mo/\(UQ W).length<=28:=by
 obtain⟨p0,hp0,ep0⟩:=Xq (Yn a 0) (t:=0) (m:=mo) (by omega) (by omega);have E:Zz [PV.int (Yn a 0),PV.int 0,PV.int (mo:Int)]=aA (.int (p0:Int)):=ep0;have R:=XD z (k:=0) (by omega);have D:ZY [PV.cst (iL a),PV.int 0]=aA (.int (Yn a 0)):=R;obtain⟨n,hn⟩:∃n:Nat,n=1+p0:=⟨_,rfl⟩;have hn':(1:Int)+(p0:Int)=(n:Int):=by omega
 let Z:=aX n (aX n (0:Int));have e1:Zq 2 (Zc ZY [Za 0,eC (.int 0)]) [aA (.cst (iL a)),aA (.int (mo:Int)),none,none,none,none,none,none,none,none]=aA (.nx [aA (.cst (iL a)),aA (.int (mo:Int)),aA (.int (Yn a 0)),none,none,none,none,none,none,none]):=by simp[D]
 have e2:Zq 3 (eP (Zi Yj (eC (.int 1)) (Zc Zz [Za 2,eC (.int 0),Za 1]))) [aA (.cst (iL a)),aA (.int (mo:Int)),aA (.int (Yn a 0)),none,none,none,none,none,none,none]=aA (.nx [aA (.cst (iL a)),aA (.int (mo:Int)),aA (.int (Yn a 0)),aA (.int (n:Int)),none,none,none,none,none,none]):=by simp[E,hn']
 have e3:Zq 4 (Zr 1 [3] (ZT [Za 3]) (.one 0) Zy (Zi Mv (T8 [eC (.int 0)]) (Za 1))) [aA (.cst (iL a)),aA (.int (mo:Int)),aA (.int (Yn a 0)),aA (.int (n:Int)),none,none,none,none,none,none]=aA (.nx [aA (.cst (iL a)),aA (.int (mo:Int)),aA (.int (Yn a 0)),aA (.int (n:Int)),aA (.lst (rL Z)),none,none,none,none,none]):=by rw[Yp,Hb (n:=n) rfl (by omega)];rfl
 have e4:Zq 5 (T8 []) [aA (.cst (iL a)),aA (.int (mo:Int)),aA (.int (Yn a 0)),aA (.int (n:Int)),aA (.lst (rL Z)),none,none,none,none,none]=aA (.nx (Wv a mo n Z [] none none none none)):=by simp[Wv]
 -- the houses' order
 obtain⟨s5,f5,sp,A,hs5,F⟩:=Wn (T:=.one 6) (fb:=bW1) (ls:=Tr n) (s:=Wv a mo n Z [] none none none none)
  (λi st=>∃sp A,st=Wv a mo n Z sp A none none none/\NamesOk i sp) ⟨[],none,rfl,NamesOk.nil⟩ (by
   rintro i l st I ⟨sp,A,rfl,F⟩;obtain⟨J,rfl⟩:=V5 I;obtain⟨N,X,e⟩:=B9 (mo:=mo) (n:=n) (M:=Z) (x7:=none) (x8:=none) (x9:=none) z (by omega) F;exact⟨_,_,rfl,e,N,_,rfl,X⟩)
 subst hs5;rw[Tz] at F;have e5:Xn [4,5] (ZT [Za 3]) (.one 6) bW1 (Wv a mo n Z [] none none none none)=aA (.nx (Wv a mo n Z sp A none none none)):=by show(ZT [Za 3] (YB [4,5] (Wv a mo n Z [] none none none none))).bind _=_;rw[Z6 (n:=n) (by simp[Wv,YB]) (by omega)];exact f5
 -- each to one ahead
 obtain⟨s6,f6,M,p,h,Q,y,L,sm⟩:=Wn (T:=.one 6) (fb:=bW2) (ls:=UZ 1 (n-1)) (s:=Wv a mo n Z sp A none none none)
  (λi st=>∃M p h,st=Wv a mo n M sp p h none none/\MatOk n M/\Grown M sp (i+1)/\TV n M<=6*(i:Int)) ⟨Z,A,none,rfl,MatOk.zero n,λj Y h2=>by omega,by rw[Ht];omega⟩ (by
   rintro i l st I ⟨M,p,h,rfl,y,L,sm⟩;obtain⟨J,rfl⟩:=GG I;have hk:(1:Int)+(i:Int)=((i+1:Nat):Int):=by omega
   rw[hk];obtain⟨d,o,b,f,x,e⟩:=Zcn (mo:=mo) (x7:=h) (x8:=none) (x9:=none) (k:=i+1) z (by omega) (by omega) (by omega) F y L;exact⟨_,_,rfl,e,d,_,o,rfl,b,f,by omega⟩)
 subst Q;rw[GH] at L sm
 have e6:Xn [4,5] (V0 [eC (.int 1),Za 3]) (.one 6) bW2 (Wv a mo n Z sp A none none none)=aA (.nx (Wv a mo n M sp p h none none)):=by
  show(V0 [eC (.int 1),Za 3] (YB [4,5] (Wv a mo n Z sp A none none none))).bind _=_;rw[Se (i:=1) (j:=(n:Int)) rfl (by simp[Wv,YB]) (by omega) (by omega)];have:((n:Int)-1).toNat=n-1:=by omega
  rw[this];exact f6
 have G:Grown M sp n:=λj Y h2=>L j Y (by omega)
 -- more ties
 obtain⟨p3,hp3,S⟩:=Xq (Yn a 0) (t:=3) (m:=6) (by omega) (by omega);have H:Zz [PV.int (Yn a 0),PV.int 3,PV.int 6]=aA (.int (p3:Int)):=S
 have U:∃d B o u w,MatOk n d/\Grown d sp n/\TV n d<=56/\Rh (xB (Zi Li (Za 3) (eC (.int 1)))) (Xn [4,5] (ZT [Zc Zz [Za 2,eC (.int 3),eC (.int 6)]]) (.one 6) bW3) YG (Wv a mo n M sp p h none none)=aA (.nx (Wv a mo n d sp B o u w)):=by
  by_cases q:1<n
  ·obtain⟨s7,f7,d,B,o,u,w,P,b,f,x⟩:=Wn (T:=.one 6) (fb:=bW3) (ls:=Tr p3) (s:=Wv a mo n M sp p h none none)
    (λi st=>∃d B o u w,st=Wv a mo n d sp B o u w/\MatOk n d/\Grown d sp n/\TV n d<=36+4*(i:Int)) ⟨M,p,h,none,none,rfl,y,G,by omega⟩ (by
     rintro i l st I ⟨d,B,o,u,w,rfl,b,f,x⟩;obtain⟨J,rfl⟩:=V5 I;obtain⟨M2,u7,u8,u9,O,g2,sm2,e⟩:=Zco (mo:=mo) (sp:=sp) (x7:=o) (x8:=u) (x9:=w) (i:=i) z (by omega) (by omega) (by omega) b;exact⟨_,_,rfl,e,M2,_,u7,u8,u9,rfl,O,f.mono g2,by omega⟩)
   subst P;rw[Tz] at x;refine⟨d,B,o,u,w,b,f,by omega,?_⟩
   have c:xB (Zi Li (Za 3) (eC (.int 1))) (Wv a mo n M sp p h none none)=aA aC:=by
    have q':(1:Int)<(n:Int):=by omega
    simp[Wv,q,q']
   rw[Yv,c];simp only[aV,if_true];show(ZT [Zc Zz [Za 2,eC (.int 3),eC (.int 6)]] (YB [4,5] (Wv a mo n M sp p h none none))).bind _=_;rw[Z6 (n:=p3) (by simp[Wv,YB,H]) (by omega)];exact f7
  ·refine⟨M,p,h,none,none,y,G,by omega,?_⟩
   have c:xB (Zi Li (Za 3) (eC (.int 1))) (Wv a mo n M sp p h none none)=aA aB:=by
    have q':¬(1:Int)<(n:Int):=by omega
    simp[Wv,q']
   rw[Yv,c];rfl
 obtain⟨d,B,o,u,w,b,f,x,U⟩:=U;refine⟨d,?_,b.web (by omega) (by omega),f.conn b.len F,by rw[b.len];omega,?_⟩
 ·have hc2:Zr 1 [] (Vb (Za 4)) (.one 0) Zy (Zc ZP [Za 0]) (Wv a mo n d sp B o u w)=aA (.lst (d.map pP)):=by rw[ZX d (λr=>.lst (iL r)) pP (by simp[Wv,rL]) (by rw[b.len];omega) (λr _=>⟨_,rfl,rfl,by simp[ZJ]⟩)]
  show Yz 10 Nf _=_;unfold Nf;show(Zp _ _ [aA (.cst (iL a)),aA (.int (mo:Int)),none,none,none,none,none,none,none,none]).bind V3=_;rw[Yr e1,Yr e2,Yr e3,Yr e4,Yr e5,Yr e6,Yr U,SU (v:=wP d)]
  ·rfl
  ·rw[O6,YH,ZD,hc2];simp
 ·have C:=b.web (by omega) (by omega);have t:=MR C;rw[Xd,b.len,Zh (g:=λi=>sN n (ent d i)) λi J=>by rw[UB C (by rw[b.len];exact J),Xd,b.len]] at t;have:TV n d=2*((UQ d).length:Int):=t;omega
end PW
namespace PW
open PySem L2 VL VX
theorem Zcp{f:XE}{s:ZH}{v:PV}(q:f s=aA v):OV [f] s=aA (.tup [v]):=by rw[Mw,ZD,q];rfl
theorem isF{f:XE}{s:ZH}{v:PV}{b n:Bool}(q:f s=aA v)(h:Gh n v=aA (.bl b)):xB (Rx n f) s=aA b:=xb (by rw[GD,q];exact h)
section
variable {W:List (List Int)} {m:Nat} {A B:List Int}
theorem F9{E:Mt}{c:Nat}(n:W.length=m+1)(p:W.length<=7)(eP:RU [wP W]=aA (Zaz m (R8 m E) (bkM W m E) (HA m E) (foM W m E) λi=>E i i))(f:PM.Cr m m (ZR W 0) E)(d:c<=43000000)(g:∀i j,i<m->j<m->(E i (m+j)).natAbs<=2^c){D:List Int}(o:D.length=W.length)(l:∀h,h<W.length->(Zn D h).natAbs<=2^200) :
  XA [wP W,pP D]=aA (pP (D.sum::ZZ m λi=>KY m (R8 m E) D i%E i i)):=by
 have e:∀i j,i<m->j<m->CMulW (E i (m+j)) (Zn D (j+1)):=λi j b k=>FZ (G:=c+202) (ar (g i j b k) (cW (by omega) (by omega))) (ar (l (j+1) (by omega)) (cW (by omega) (by omega))) (by omega) (by omega);have r:=F7 (m:=m) (L:=R8 m E) (R:=HA m E) (bk:=bkM W m E) (fo:=foM W m E) (v:=λi=>E i i) (D:=D) (by omega) (by omega) e (λi b=>f.d2 i b);refine Xe (ret (FD (o2 (a:=pP [D.sum]) (Zcp (c1 rfl (Fj D))) (c2 (c1 rfl eP) rfl r) ?_)));rw[JH (by rw[gD,ZE];omega)];rfl
noncomputable def Ak(W:List (List Int))(A B:List Int):Prop:=∃Y:Nat->Int,∀h,h<W.length->Zn B h=Zn A h+gN W Y h
theorem Po{E:Mt}(ok:ZQ W)(r:PM.Cr m m (ZR W 0) E)(s:W.length=m+1)(w:A.length=W.length)(t:B.length=W.length)(p:B.sum=A.sum):(ZZ m λi=>KY m (R8 m E) A i%E i i)=(ZZ m λi=>KY m (R8 m E) B i%E i i)↔Ak W A B:=by
 obtain⟨D,k⟩:∃D:List Int,D=ZZ W.length λh=>Zn A h-Zn B h:=⟨_,rfl⟩;have n:D.length=W.length:=by rw[k,ZE]
 have d:∀h,h<W.length->Zn D h=Zn A h-Zn B h:=λh b=>by rw[k,YE b]
 have u:D.sum=0:=by rw[Um,n,Zh (g:=λh=>Zn A h+(-1)*Zn B h) λh b=>by rw[d h b];omega,Z3,ZA];rw[Um,Um A,w,t] at p;omega
 have o:Ak W A B↔∃Y:Nat->Int,∀h,h<W.length->1*Zn D h+gN W Y h=0:=
  ⟨λ⟨Y,f⟩=>⟨Y,λh b=>by have:=f h b;rw[d h b];omega⟩,λ⟨Y,f⟩=>⟨Y,λh b=>by have:=f h b;rw[d h b] at this;omega⟩⟩
 rw[o,K2 ok s n u,<-PM.image r (λj=>Zn D (j+1)) 1]
 have c:∀i,i<m->(KY m (R8 m E) A i%E i i=KY m (R8 m E) B i%E i i↔E i i∣1*sN m (λj=>E i (m+j)*Zn D (j+1))):=λi a=>by
  have e:sN m (λj=>E i (m+j)*Zn D (j+1))=KY m (R8 m E) A i-KY m (R8 m E) B i:=by have q:KY m (R8 m E) A i=sN m λj=>E i (m+j)*Zn A (j+1):=rfl;have v:KY m (R8 m E) B i=sN m λj=>E i (m+j)*Zn B (j+1):=rfl;rw[q,v,Zh (g:=λj=>E i (m+j)*Zn A (j+1)+(-1)*(E i (m+j)*Zn B (j+1))) λj x=>by rw[d (j+1) (by omega),eD];omega,Z3,ZA];omega
  rw[e,cw,Int.emod_eq_emod_iff_emod_sub_eq_zero];exact⟨Int.dvd_of_emod_eq_zero,Int.emod_eq_zero_of_dvd⟩
 constructor
 ·intro z i a;refine(c i a).mp ?_;have:=congrArg (λl=>Zn l i) z;simp only[YE a] at this;exact this
 ·intro z;refine WI (by rw[ZE,ZE]) λi a=>?_;rw[ZE] at a;rw[YE a,YE a];exact(c i a).mpr (z i a)
theorem JZ{l:List Int}{k:Nat}{v:Int}(b:k<l.length):(l.set k v).sum=l.sum+(v-Zn l k):=by
 rw[Um,Um l,bt]
 have e:sN l.length (Zn (l.set k v))=sN l.length (λi=>Zn l i+(if i=k then v-Zn l k else 0)):=Zh λi a=>by
  rw[PW.nth_set a];by_cases q:i=k
  ·subst q;rw[kr rfl,kr rfl];omega
  ·rw[ku q,ku q];omega
 rw[e,Z3,Z4 (k:=k) b λi _ a=>ku a,kr rfl]
theorem S7{l:List Int}{k i:Nat}{v:Int}{M:Nat}(c:i<l.length)(b:(Zn l i).natAbs<=M)(a:v.natAbs<=M):(Zn (l.set k v) i).natAbs<=M:=by
 rw[PW.nth_set c];split
 ·exact a
 ·exact b
theorem Hu{D S:List Int}(ok:ZQ W)(j:D.length=W.length){M N:Nat}(d:∀h,h<W.length->(Zn D h).natAbs<=M)(c:∀h,h<W.length->(Zn S h).natAbs<=N){h:Nat}(a:h<W.length):(Zn (ZG W D S) h).natAbs<=M+7*(18*(2*N)):=by
 rw[W7 (by omega)];have m:=d h a;have p:=NX (f:=λg=>ent W h g*(Zn S g-Zn S h)) (M:=18*(2*N)) (n:=W.length) λg b=>by have lo:=ok.lo h g a b;have o:=ok.hi h g a b;have e:=c g b;have l:=c h a;rw[cB];exact cC (show _<=18 by omega) (show _<=2*N by omega)
 have k:W.length*(18*(2*N))<=7*(18*(2*N)):=cK _ ok.few;have i:gN W (Zn S) h=sN W.length (λg=>ent W h g*(Zn S g-Zn S h)):=rfl;omega
end
theorem Ea(a:List Int)(lo b:Option Int):∃L:List Int,Wm (iL a) lo b=iL L/\L.length<=a.length:=by
 refine⟨(a.drop (HT.sIx (iL a).length 0 lo)).take (HT.sIx (iL a).length (iL a).length b-HT.sIx (iL a).length 0 lo),?_,?_⟩
 ·unfold Wm;rw[<-jT,<-jS]
 ·rw[bK,cE];omega
theorem law_true(e:List Int)(q:e.length<=63)(F:∀n∈e,n.natAbs.log2<=1048576):D_law [.cst (iL e)]=aA (.bl aC):=by
 obtain⟨W,eW,ok,cn,T,h8⟩:=K3 q (mo:=7) (by omega) (by omega);have hp:=ok.pos;obtain⟨m,U⟩:∃m,W.length=m+1:=⟨W.length-1,by omega⟩;obtain⟨E,γ,eP,Z,hγ,lb,rb,dg⟩:=F6 ok cn T h8 U;obtain⟨P,hP⟩:∃P:List Int,P=SV e 13 W.length:=⟨_,rfl⟩;have f:P.length=W.length:=by rw[hP,Hd]
 have eU:Vd [.cst (iL e),.int ((13:Nat):Int),.int (W.length:Int)]=aA (pP P):=by rw[hP];exact Kz q F (by omega) T
 have bP:∀h,h<W.length->(Zn P h).natAbs<=10^29:=λh b=>by rw[hP];unfold SV;rw[Ya b];have:=Ky (Yn e (13+h));omega
 obtain⟨r,u⟩:∃r:List Int,r=UE e 20 W.length:=⟨_,rfl⟩;have lO0:r.length=W.length:=by rw[u,K1]
 have eO0:Wq [.cst (iL e),.int ((20:Nat):Int),.int (W.length:Int)]=aA (pP r):=by rw[u];exact Lf q F (by omega) T
 have bO0:∀h,h<W.length->(Zn r h).natAbs<=10^26+0:=λh b=>by rw[u];unfold UE;rw[Ya b];exact Hq _
 obtain⟨L,eL,lL⟩:=Ea e (aA 27) (aA 62);have up:∀{X:Nat},X<=10^30->X<=2^200:=λ{X} h=>aQ h (by decide);have N:∀{X:Nat},X<=10^30->X<=2^208:=λ{X} h=>aQ h (by decide);have pl:=λ{D:List Int} (hd:D.length=W.length) (bD:∀h,h<W.length->(Zn D h).natAbs<=10^30)=>F9 U T eP Z hγ lb hd λh b=>up (bD h b);have A:∀h,h<W.length->(Zn P h).natAbs<=10^30:=λh b=>aQ (bP h b) (by decide);have eF:=pl f A;obtain⟨w,hv8,Y⟩:=Xq (Yn e 12) (t:=8) (m:=W.length) (by omega) (by omega);obtain⟨x,hv9,ev9⟩:=Xq (Yn e 12) (t:=9) (m:=W.length) (by omega) (by omega);have I:=XD q (k:=12) (by omega);refine FE (Z2 (Zw (c2 rfl rfl eW)) (Z2 (Zw (vP (c1 rfl FH))) (Z2 (Zw (c3 rfl rfl rfl eU)) (Z2 (Zw (v:=.lst (iL r)) (c1 (c3 rfl rfl rfl eO0) ((Tw _).trans (kr (Yc _))))) (Rr (KG (ls:=iL L) (λi s=>∃(O:List Int) (x5 x6:Option PV),s=[aA (.cst (iL e)),aA (wP W),aA (.int (W.length:Int)),aA (pP P),aA (.lst (iL O)),x5,x6,none,none,none,none,none,none]/\O.length=W.length/\∀h,h<W.length->(Zn O h).natAbs<=10^26+i) ?_ ⟨r,none,none,rfl,lO0,bO0⟩ ?_) ?_)))))
 ·exact congrArg (λo=>kd o BN) (show RI UK (Za 0) (UJ (eC (.int 27))) (UJ (eC (.int 62))) (YB [4,9] [aA (.cst (iL e)),aA (wP W),aA (.int (W.length:Int)),aA (pP P),aA (.lst (iL r)),none,none,none,none,none,none,none,none])=aA (.lst (iL L)) by rw[<-eL];rfl)
 ·rintro i l s J ⟨O,x5,x6,rfl,lO,S⟩
  obtain⟨c,rfl⟩:∃c,l = .int c:=by
   rw[aW] at J
   cases h:L[i]? with
   | none=>rw[h] at J;cases J
   | some c=>rw[h] at J;cases J;exact⟨c,rfl⟩
  obtain⟨v,hv,ev⟩:=Xq c (t:=8) (m:=W.length) (by omega) (by omega);refine⟨_,rfl,UR (Zw (c3 rfl rfl rfl ev)) (Hz (KH (k:=v) (l:=O) (a:=Zn O v+1) rfl (vI (o2 rfl rfl (Y1 (l:=O) (k:=v) (by omega))) rfl) rfl (by omega)) ⟨O.set v (Zn O v+1),_,_,rfl,by rw[bt,lO],λh b=>?_⟩)⟩;have h1:=S v hv;exact S7 (by omega) (aQ (S h b) (by omega)) (by omega)
 rintro s ⟨O,x5,x6,rfl,lO,S⟩;have bO2:∀h,h<W.length->(Zn O h).natAbs<=10^26+63:=λh b=>by have:=S h b;rw[aO] at this;omega
 obtain⟨B,H⟩:∃B:List Int,B=ZG W P O:=⟨_,rfl⟩;have lB:B.length=W.length:=by rw[H,Yd,f]
 have sB:B.sum=P.sum:=by rw[H];exact JC ok f
 have bB:∀h,h<W.length->(Zn B h).natAbs<=2*10^29:=λh b=>by rw[H];exact aQ (Hu ok f bP bO2 b) (by decide)
 have eB:Ux [wP W,pP P,.lst (iL O)]=aA (pP B):=by rw[H];exact M1 ok f (FR f) (Zap lO)
 have M:=pl lB λh b=>aQ (bB h b) (by decide);have same:=(Po (E:=E) ok Z U f lB sB).mpr ⟨Zn O,λh b=>by rw[H,W7 (by omega)]⟩;rw[<-same,sB] at M;obtain⟨g,d⟩:∃g:List Int,g=B.set w (Zn B w-1):=⟨_,rfl⟩;have l1:g.length=W.length:=by rw[d,bt,lB]
 have b1:∀h,h<W.length->(Zn g h).natAbs<=2*10^29+1:=λh b=>by rw[d];have:=bB w hv8;exact S7 (by omega) (aQ (bB h b) (by omega)) (by omega)
 obtain⟨C,R⟩:∃C:List Int,C=g.set x (Zn g x+1):=⟨_,rfl⟩;have lC:C.length=W.length:=by rw[R,bt,l1]
 have sC:C.sum=P.sum:=by rw[R,JZ (by omega),d,JZ (by omega),<-d,sB];omega
 have bC:∀h,h<W.length->(Zn C h).natAbs<=10^30:=λh b=>by rw[R];have:=b1 x hv9;exact S7 (by omega) (aQ (b1 h b) (by decide)) (by omega)
 have j:=pl lC bC;rw[sC] at j;have G:=Po (E:=E) ok Z U f lC sC;refine Z2 (Zw (c3 rfl rfl rfl eB)) (Z2 (Zw (c2 rfl rfl eF)) (Z2 (gof (jj (xo (p:=aB) (p2:=aB) (xn (xb (c2 rfl rfl (M3 (n:=W.length) (by rw[bh,ZE];omega) (by omega))))) (neq (c2 rfl rfl M) rfl)) rfl)) (Z2 (Zw (v:=.lst (iL B)) (c1 rfl ((Tw _).trans (kr (Yc _))))) (Z2 (Zw (c3 (c2 rfl rfl I) rfl rfl Y)) (Z2 (Zw (c3 (c2 rfl rfl I) rfl rfl ev9)) (Z2 (KH (k:=w) (l:=B) (a:=Zn B w-1) rfl (vsb (o2 rfl rfl (Y1 (l:=B) (k:=w) (by omega))) rfl) rfl (by omega)) (Z2 (KH (k:=x) (l:=g) (a:=Zn g x+1) rfl (vI (o2 (a:=.lst (iL g)) (by rw[d];rfl) rfl (Y1 (l:=g) (k:=x) (by omega))) rfl) (by rw[d];rfl) (by omega)) ?_)))))));rw[<-R];rcases Hs ok cn f lC (λh b=>N (A h b)) (λh b=>N (bC h b)) with⟨Q,lQ,hQ,eQ⟩ | ⟨eN,hn⟩
 ·have y:(ZW Q).length=W.length:=by rw[Ym];exact lQ
  have hsh:ZG W P (ZW Q)=ZG W P Q:=IZ (- XZ Q) f λi hi=>by rw[Wu (l:=Q) (by omega)];omega
  have eR:Ux [wP W,pP P,pP (ZW Q)]=aA (pP C):=by rw[hQ,<-hsh];exact M1 ok f (FR f) (FR y)
  have eq:=G.mpr ⟨Zn Q,λh b=>by rw[hQ,W7 (by omega)]⟩;rw[<-eq] at j;refine Z2 (Zw (c3 rfl rfl (c1 rfl (Yy _)) eQ)) (Z2 (gof (isF rfl rfl)) (Z2 (gof (jj (xo (p:=aB) (p2:=aB) (xn (xb (c2 rfl rfl (M3 y (by omega))))) (neq (c3 rfl rfl rfl eR) (c1 rfl (Yy _)))) rfl)) (W4 (ep (eqt (c2 rfl (c1 rfl (Yy _)) j) rfl)) rfl)))
 ·have ne:¬(P.sum::ZZ m λi=>KY m (R8 m E) C i%E i i)=P.sum::ZZ m λi=>KY m (R8 m E) P i%E i i:=λz=>hn (G.mp (List.cons.inj z).2.symm);refine Z2 (Zw (c3 rfl rfl (c1 rfl (Yy _)) eN)) (Zal (isF rfl rfl) (W4 (ep (v:=.bl aC) (jj (o2 (c2 rfl (c1 rfl (Yy _)) j) rfl (LU aC _ _)) ?_)) rfl));rw[decide_eq_false ne];rfl
end PW
namespace PW
open PySem L2 VL
theorem all_mk{P:bW}{w:cN}{K:aD}{mg:ak->Option aH}{fa:aL}(hfa:mg "law" = aA (.ref fa))(B:XX mg)(T:P.given.tree=none)
  (d0:Def K mg "_law_cell" QW)
  (d1:Def K mg "_law_part" QX)
  (d2:Def K mg "_law_tie" Nx)
  (d3:Def K mg "_law_web" Ny)
  (d4:Def K mg "_law_coins" Sz)
  (d5:Def K mg "_law_purse" SA)
  (d6:Def K mg "_law_run" Nz)
  (d7:Def K mg "by_row" QY)
  (d8:Def K mg "rests" NA)
  (d9:Def K mg "total" NB)
  (d10:Def K mg "ties_at" SD)
  (d11:Def K mg "row_of" QZ)
  (d12:Def K mg "square_without" XB)
  (d13:Def K mg "square_of" Ud)
  (d14:Def K mg "unit_row" U7)
  (d15:Def K mg "block_of" U8)
  (d16:Def K mg "rows_to_clear" X5)
  (d17:Def K mg "less" Kb)
  (d18:Def K mg "cleared_below" X6)
  (d19:Def K mg "turned_over" WZ)
  (d20:Def K mg "crossed_out" W0)
  (d21:Def K mg "unfit_row" Ue)
  (d22:Def K mg "part_found" VB)
  (d23:Def K mg "divided" SH)
  (d24:Def K mg "row_by_column" X7)
  (d25:Def K mg "row_times" Ug)
  (d26:Def K mg "multiplied" VC)
  (d27:Def K mg "parts" NI)
  (d28:Def K mg "place_of" U9)
  (d29:Def K mg "reduced" SK)
  (d30:Def K mg "evened" Q3)
  (d31:Def K mg "solved_below" Ws)
  (d32:Def K mg "nearing" SM)
  (d33:Def K mg "gain" Kh)
  (d34:Def K mg "run" G9)
  (d35:Def K mg "in_debt" SN)
  (d36:Def K mg "borrowing" Uh)
  (d37:Def K mg "plus" Kk)
  (d38:Def K mg "least" NL)
  (d39:Def K mg "ties_to" SO)
  (d40:Def K mg "house_to_burn" X8)
  (d41:Def K mg "burnt" NM)
  (d42:Def K mg "settle" Q4)
  (d43:Def K mg "minus" NN)
  (d44:Def K mg "alike" NO)
  (d45:Def K mg "_law_often" SR)
  (d46:Def K mg "_law_script" Ta)
  (d47:Def K mg "_law_whole" SS)
  (d48:Def K mg "_law_row" NP)
  (d49:Def K mg "law" Fi)
  : ∃fd:du,(∀(s:aN)(u:aH),jd s fd ⟨[u],[]⟩ [("_law_script_here",u)])/\∀base:b9,K.In base->base.Ns cV mg->Ru P w K mg base Lw 41 fa fd ["_law_script_here"] (Y5 K D_law 1):=by
 refine GA d49 hfa (λ_ _ _ _ _ _ _=>rfl) λbase f fd _ _ F=>?_;have C_m_cell:Vf P w K mg base:=IK d0 B;have C_l_part:TJ P w K mg base:=IL d1 B;have C_l_tie:=G1 (P:=P) (w:=w) (base:=base) d2 B;have C_l_web:Nl P w K mg base:=G3 d3 B C_m_cell C_l_part C_l_tie;have C_m_coins:Sn P w K mg base:=L6 d4 B;have C_l_purse:So P w K mg base:=L8 d5 B C_m_coins C_m_cell;have C_l_run:Nm P w K mg base:=G4 d6 B;have C_by_row:QS P w K mg base:=IP d7 B;have C_rests:Nn P w K mg base:=G5 d8 B C_by_row;have C_total:Np P w K mg base:=G7 d9 B;have C_ties_at:Sq P w K mg base:=Ka d10 B;have C_row_of:QT P w K mg base:=IS d11 B C_ties_at;have C_square_without:YY P w K mg base:=TL d12 B C_row_of;have C_square_of:V9 P w K mg base:=ND d13 B C_square_without;have C_unit_row:U3 P w K mg base:=MK d14 B;have C_block_of:U4 P w K mg base:=ML d15 B C_unit_row;have C_rows_to_clear:X1 P w K mg base:=SF d16 B;have C_less:Nq P w K mg base:=Dr d17 B;have C_cleared_below:X2 P w K mg base:=SG d18 B T C_rows_to_clear C_less;have C_turned_over:WX P w K mg base:=Q1 d19 B;have C_crossed_out:WY P w K mg base:=Q2 d20 B C_cleared_below C_turned_over;have C_unfit_row:Ua P w K mg base:=NF d21 B;have C_part_found:Vy P w K mg base:=PH d22 B C_crossed_out C_unfit_row C_less;have C_divided:Sr P w K mg base:=Kd d23 B;have C_row_by_column:X3 P w K mg base:=SJ d24 B;have C_row_times:Ub P w K mg base:=NH d25 B C_row_by_column;have C_multiplied:Vz P w K mg base:=PK d26 B C_row_times;have C_parts:Nr P w K mg base:=G8 d27 B C_square_of C_block_of C_part_found C_divided C_multiplied;have C_place_of:U5 P w K mg base:=MN d28 B C_total C_rests C_parts;have C_reduced:Ss P w K mg base:=Kf d29 B;have C_evened:QU P w K mg base:=IT d30 B C_reduced;have C_solved_below:Wr P w K mg base:=RE d31 B C_evened;have C_nearing:Su P w K mg base:=Kg d32 B C_solved_below C_square_without;have C_gain:L3 P w K mg base:=Dt d33 B;have C_run:G0 P w K mg base:=B7 d34 B C_gain;have C_in_debt:Sv P w K mg base:=Kj d35 B;have C_borrowing:Uc P w K mg base:=NK d36 B;have C_plus:L4 P w K mg base:=Dv d37 B;have C_least:RV P w K mg base:=Fb d38 B;have C_ties_to:Sw P w K mg base:=Km d39 B;have C_house_to_burn:X4 P w K mg base:=SQ d40 B C_ties_to;have C_burnt:Nt P w K mg base:=Fc d41 B C_house_to_burn;have C_settle:QV P w K mg base:=IU d42 B C_nearing C_run C_in_debt C_borrowing C_plus C_burnt C_least;have C_minus:Nu P w K mg base:=Fe d43 B;have C_alike:Nv P w K mg base:=Ff d44 B C_settle C_least C_minus;have C_m_often:Sx P w K mg base:=Ko d45 B;have C_l_script:U6 P w K mg base:=MP d46 B C_m_often C_m_cell;have C_l_whole:Sy P w K mg base:=Kq d47 B;have C_l_row:Nw P w K mg base:=Fh d48 B C_l_whole;exact B8 F B C_l_web C_l_purse C_l_script C_l_part C_l_run C_place_of C_l_row C_m_cell C_alike
end PW
namespace PySem.W.Fast
def tw4871881159096332334:=()
def tw9066391009410811868:=()
def tw5181996032437525203:=()
def tw8079543641741769023:=()
def tw10190210683148673335:=()
def tw12627808191973007254:=()
def tw11741589245046564259:=()
def tw13501258420068008196:=()
def tw8390992807427143895:=()
def tw1622925099945759184:=()
def tw11116829573964980847:=()
def tw11634230938985332529:=()
def tw8277929997678707727:=()
def tw5038317639441389112:=()
def tw13966239472803010570:=()
def tw5904836597282425036:=()
def tw6862986568978855349:=()
def tw12260335705411869667:=()
def tw4646124637976336903:=()
def tw13289746670868838685:=()
def tw2552157180939602363:=()
def tw4821615924582937253:=()
def tw5585371054588499452:=()
def tw645403629129912758:=()
def tw6607388852550263658:=()
def tw16098399764754678002:=()
def tw7078346420721331177:=()
def tw6015961128213768026:=()
def tw6940751523787211497:=()
def tw6682116778099227785:=()
def tw12853093645061426442:=()
def tw693992323937867864:=()
def tw4964117908451879497:=()
def tw17895364810400089185:=()
def tw730453968008426290:=()
def tw13292566463734591676:=()
def tw3271923656181921666:=()
def tw5316576559573550104:=()
def tw7799360460616291982:=()
def tw12782712054632721974:=()
def tw7933464219394574598:=()
def tw14273646201195197712:=()
def tw3099703313815110467:=()
def tw16442685748118194351:=()
def tw60876909791437246:=()
def tw10506471582638525384:=()
def tw5646429943445437811:=()
def tw161457521413677566:=()
def tw11499966150194925856:=()
def tw16143437077324848944:=()
def tw2936429389194319931:=()
def tw11736160069858734320:=()
def tw12534539255647211574:=()
def tw16468801871359322680:=()
def tw10069932149883544589:=()
def tw8913246075124104483:=()
def tw13043067750042327985:=()
def tw8800041721849315962:=()
def tw11026816704449952002:=()
def tw17967512422540681496:=()
def tw4087733510946798737:=()
def tw16316186682196485102:=()
def tw5021299062604161761:=()
def tw14148399559994295134:=()
def tw721239405056773035:=()
def tw6884816992749613576:=()
def tw12767820325682676427:=()
def tw11427073258271820685:=()
def tw15005047527570857692:=()
def tw8245318580192022092:=()
def tw15363555005572605930:=()
def tw5092602415802159704:=()
def tw16278906317871407566:=()
def tw18374014721456128116:=()
def tw7421477317789469174:=()
def tw3816610783409155356:=()
def tw1484284819788888181:=()
def tw15079101612404748310:=()
def tw16169901794311456941:=()
def tw16811533851256244924:=()
def tw11938245895648977892:=()
def tw5432752190214381720:=()
def tw13018862000560827515:=()
def tw7577480284797120975:=()
def tw8047035113083766718:=()
def tw181045528632530876:=()
def tw7605224731999005617:=()
def tw11755578401106802081:=()
def tw9753704146630292486:=()
def tw10292431808729470972:=()
def tw4686869733610752251:=()
def tw2027834228894856869:=()
def tw9177581279904152340:=()
def tw7457468962162710416:=()
def tw18199672389053426287:=()
def tw14706355612733919157:=()
def tw15376557279658063284:=()
def tw3417209295498665365:=()
def tw17747799888932191507:=()
def tw10941328566349323324:=()
def tw14811157527736675754:=()
def tw16072639247112308465:=()
def tw8554944409958981888:=()
def tw416562764852224689:=()
def tw10135435576700081186:=()
def tw2188750802777942755:=()
def tw499345348388099877:=()
def tw41425577892342063:=()
def tw15925094400242760041:=()
def tw13751098173687113519:=()
def tw4738323067087153934:=()
end PySem.W.Fast
open PySem PySem.W PyProof.Rows
set_option maxRecDepth 100000 in
set_option maxHeartbeats 0 in
theorem PySem.Challenge.cw_purseweb_k65_whole_alike_by_places_holds : PySem.Challenge.rw_purseweb_k65_whole_alike_by_places.Holds := by
 w_on;o_law;k_head;(case hw=>w_witness2)
 k_fill
 refine VL.law_walkB (l:=gY) (D:=PW.D_law) (x:="_law_script_here") 41 rfl rfl ⟨rfl,by decide,by decide,rfl⟩ (λw=>VL.noLam (by kernel_rfl)) PW.law_true (λw h Y=>PySem.W.kIn_of Y) ?F
 case F=>
  intro w mg fa h KX G hmg
  refine' PW.all_mk hmg ?B rfl ?d0 ?d1 ?d2 ?d3 ?d4 ?d5 ?d6 ?d7 ?d8 ?d9 ?d10 ?d11 ?d12 ?d13 ?d14 ?d15 ?d16 ?d17 ?d18 ?d19 ?d20 ?d21 ?d22 ?d23 ?d24 ?d25 ?d26 ?d27 ?d28 ?d29 ?d30 ?d31 ?d32 ?d33 ?d34 ?d35 ?d36 ?d37 ?d38 ?d39 ?d40 ?d41 ?d42 ?d43 ?d44 ?d45 ?d46 ?d47 ?d48 ?d49
  case B=>constructor<;>(refine PySem.W.mg_none_of KX G ?_;k_is)
  case d0 | d1 | d2 | d3 | d4 | d5 | d6 | d7 | d8 | d9 | d10 | d11 | d12 | d13 | d14 | d15 | d16 | d17 | d18 | d19 | d20 | d21 | d22 | d23 | d24 | d25 | d26 | d27 | d28 | d29 | d30 | d31 | d32 | d33 | d34 | d35 | d36 | d37 | d38 | d39 | d40 | d41 | d42 | d43 | d44 | d45 | d46 | d47 | d48 | d49=>(refine' L2.def_mk KX G ?a ?l ?c ?k;(case a=>k_is);(case l=>k_is);(case c=>k_is);(case k=>k_is))
