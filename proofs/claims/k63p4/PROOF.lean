import PyProof.Rows.All
import Wide.All
import OpenK.AllK
import Wide.FinOn
import Lean
import PyProof.EqAt
import PyProof.EqKinds
import PyProof.TupleCall
import PyProof.NeKinds
import PyProof.ListMulRoad
import PyProof.WalkInts
import PyProof.ListRange
import KE.KRevIter
import KE.KSortTup
import KE.KDictSum
import PyProof.Rows.SortWalk
import PyProof.ExcInit
import PyProof.InstStoreFacts
import OpenK.KMake
import OpenK.KCls
import PyProof.FString2
import PyProof.TupleOfSeq
import KE.KUnpack
import PySem.Challenge.RW_purseweb_k63_whole_parts_are_trees
open Option renaming some → aA,bind_some → aY,isSome_iff_exists → bZ,map_some → dY,bind → fN,getD_none → jU,none → jw,some → ax
open Bool renaming false → aB,true → aC,false_ne_true → bO,and_eq_true → bW,eq_iff_iff → iA
open PySem.W renaming Frag → aD,kia_one → bt,fnOf → cG,codeIn → cO,kitOne → cT,keepIn → eZ,cellsFrom_some → gq,nsIn → gw,instObj → gz,lookIn → iJ,kitx_list → jE,kitx_dict → jF,plainGet → jS,findIn → jd
open PySem.Heap renaming get?_push_of_some → aE,lt_size → aR,get?_push_size → aZ,size_push → bp,SameBut → cE,get?_update_other → gu,get?_update_self → iE,ExtBut → j0
open PySem renaming Value → aF,Addr → aH,wpAny_bind → aJ,Shared → aL,starEach → aT,wpAny_pure → ag,Str → ah,Expr → au,wpAny → bB,Program → bM,foldedSetIterable → bT,Heap → bU,Stmt → b7,Around → bj,World → bz,wpAny_field → cD,mainGlobals → cJ,wpAny_mono → cQ,wpAny_truthy_bool → cS,mem_of_lookup → cW,bootBuiltins → cb,binaryOp → ck,wpAny_callSpecial?_slot → cq,wpAny_newObj_type → cu,Obj → cx,behindInMarks → cz,Scope → dA,NameKind → dB,wpAny_seqItems → dC,wpAny_setField_rec → dD,wpAny_passesOwn → dH,FuncData → dP,Pos → di,backTo → dj,IsPair → dm,wpAny_call_entry → dw,wpAny_comprehension_free → eI,wpAny_ite_false → eK,call_meets → eM,compareOp → eO,sliceBounds → eT,wpAny_updateSeq_pair → fL,wpAny_execs_nil → fQ,wpAny_loadPart' → fR,swapsWith → f9,cellsFrom → fj,assignEach → gA,bindArgs → gD,wpAny_Call_Name_kw → gE,newFunctionEnv → gF,wpAny_binaryOp_repeat_ref → gP,wpAny_holding → gX,wpAny_onRaise → gZ,noFill_tuple_add → g8,codeAny → gp,typeIs_int → gv,letOwnedTupleGo → hU,IsZip → hW,wpAny_isTrue_Compare1 → iD,rawInt → iH,sizeLine_eq → iI,recursionLimit → iK,compEnvC → iN,PassesOwn → iV,notedBy → iW,Builtin → iX,wpAny_standAt → i6,cLine → i7,seq_tuple_add → i8,builtinsNs → ic,wpAny_pyIter_tuple → ie,IsPart → ij,BindsTo → jG,codeAny_mono → jH,concat_meets → jI,seqIndex_neg → jJ,callerA → jK,Env → jQ,pushCells → jX,seqIndex_of → jZ,wpAny_letGo → j1,getItem → j8,isTrue → ja,wpAny_Name → jb,CmpOp → jc,bindL → je,bindC → jf,wpAny_rule → jg,Within → js,pyNext → ju,Result → jv
open Nat renaming le_refl → aG,le_trans → aS,lt_of_lt_of_le → a0,lt_of_le_of_lt → ay,ne_of_lt → az,le_mul_of_pos_right → bC,mul_le_mul_left → bJ,one_le_two_pow → ba,mul_le_mul → bc,zero_le → bq,lt_irrefl → br,mul_le_mul_right → cL,pow_lt_pow_right → cM,le_of_lt → cP,mul_comm → cU,lt_of_le_of_ne → dF,min_eq_left → dI,pow_succ → dJ,mul_assoc → dN,le_add_right → dQ,le_of_dvd → dc,mul_left_comm → dh,one_le_pow → dt,ne_of_gt → du,pow_add → eV,le_succ_of_le → fD,le_mul_of_pos_left → fG,pow_le_pow_left → fW,not_lt → gG,add_sub_cancel → gL,one_mul → gV,lt_succ_self → g9,min_eq_right → gg,sub_zero → gx,le_succ → iO,add_mul → iS,pow_le_pow_right → iT,add_le_add_right → iU,add_left_cancel → i5,mod_lt → jC,mod_eq_of_lt → jY,mul_one → j3,div_add_mod → j5
open List renaming range → aI,getD_eq_getElem?_getD → aM,getElem?_eq_getElem → aN,length_map → aO,size_toArray → aP,getElem?_map → aQ,replicate → aU,getElem?_eq_some_iff → aV,mem_cons_of_mem → aW,mem_range → aX,mem_cons_self → a9,mem_append_right → aa,mem_cons → af,getElem?_range → ak,getElem?_set → ao,all_eq_true → aq,getElem?_append_left → ar,mem_singleton → aw,map_congr_left → bD,length_append → bH,lookup_cons → bI,getElem?_append_right → bK,getElem?_eq_none → bN,nodup_cons → bP,mem_append_left → bR,take_of_length_le → bX,length_range → bY,getElem?_replicate → b6,mem_append → bb,length_cons → bg,length_set → bu,length_take → cA,mem_map → cB,map_map → cH,ext_getElem? → cV,length_replicate → cX,length_drop → cZ,not_mem_nil → c9,nodup_nil → cp,append_nil → cw,replicate_succ → cy,getElem_mem → dR,map_append → dZ,flatten_cons → df,mem_of_getElem? → dk,any_eq_true → dy,map_cons → eJ,getElem?_drop → eN,length_eq_zero_iff → eU,any_eq_false → eY,append_assoc → el,drop_eq_nil_of_le → fB,range_succ_eq_map → fC,filter_cons → fJ,length → fK,mem_iff_getElem → fM,mem_filter → fP,range_succ → fS,filterMap_cons → fU,drop_zero → gH,getElem?_zip_eq_some → gR,nodup_append → gU,getElem?_take_of_lt → gY,set_eq_of_length_le → g6,map → gj,getElem?_set_self → gn,of_mem_zip → hV,getElem?_set_ne → iG,take_zero → iP,mem_of_mem_take → iQ,all_cons → i9,mem_filterMap → ig,foldl → il,map_set → jM,getElem_inj → jR,take_length → jW,sum_append → j4,range_add → jj,tail_cons → jl,take_nil → jm,drop_nil → jn,map_take → jo,map_drop → jq,drop_one → jr
open Ne renaming symm → aj
open Option.some renaming inj → av
open Int renaming mul_comm → bA,mul_assoc → bG,mul_zero → bQ,neg_mul → bS,natAbs_mul → bV,zero_mul → b9,natAbs_dvd_natAbs → bh,dvd_zero → cI,one_mul → cK,mul_left_comm → cv,mul_fdiv_cancel_left → dM,mul_nonneg → dS,mul_one → dU,le_refl → dq,le_of_mul_le_mul_left → dz,toNat_natCast → fA,add_zero → fE,natAbs_neg → fF,dvd_refl → fH,mul_neg → fO,le_of_lt → fY,zero_dvd → fZ,fdiv_eq_ediv_of_nonneg → gC,emod_lt_of_pos → gJ,lt_or_gt_of_ne → gM,mul_neg_of_neg_of_pos → gS,natAbs_sub_le → gW,dvd_mul_of_dvd_right → g7,eq_ofNat_of_zero_le → gk,fmod_nonneg_of_pos → gy,emod_nonneg → iC,add_mul → iR,not_lt → iz,natCast_nonneg → jA,fmod_lt_of_pos → jB,fdiv → jL,sub_zero → jN,mul_add → j2,natAbs → ji
open PySem.NameKind renaming free → bF,cell → b5
open Classical renaming byContradiction → cC
open PyProof.Rows renaming callWith_type1 → cN,slot_tuple_getitem → dO,envOfC → fI,AllBare → gm,subscriptTail_builtinR → gs,floordiv_int → jD
open True renaming intro → cY
open PySem.Builtin.Slice renaming slicePlaces → dG,sliceAdjust → gO
open False renaming elim → dW
open ForInStep renaming yield → dX
open Array renaming length_toList → eA,toList_append → iY,toList → jt
open PySem.Builtin.Int renaming intBits → eB
open PySem.F renaming args_tuple_add_2 → eG,entry_tuple_add → eQ,slot_tuple_add → eh,plainAttrs_list → gi
open PySem.Builtin.List renaming listTooLong → eH
open Eq renaming trans → eu
open PySem.PassesOwn renaming never → fT
open PySem.Challenge renaming pw_purseweb_k63_whole_parts_are_trees → fV,rw_purseweb_k63_whole_parts_are_trees → fX
open PySem.Calls renaming Name_function_global → fu
open PySem.Builtin.SmallTypes renaming nextOf → gQ
open PySem.W.WData renaming weightAll → gh,int → jV
open PySem.SeqAt.EqAt renaming same → iB,of_refs → iu
open Or renaming inr → iM,inl → ip
open PySem.Heap.SameBut renaming update → iZ
open PySem.Obj renaming mapSeq → ik,data_mapFields → ir
open PySem.Value renaming int → jO,ref → jP,type → j9
open PyProof.Rows.IsTup renaming new → jT
open Sum renaming inl → j6,inr → j7
open PySem.SeqAt renaming EqAt → jh
open PySem.Shared renaming heap → jx
open PySem.PylongRoom renaming of → jy
theorem k8.{u}{c:Prop}{h:Decidable c}(a:c){b:Sort u}{t e:b}:ite c t e=t:=if_pos a
theorem k9.{u}{c:Prop}{h:Decidable c}(a:Not c){b:Sort u}{t e:b}:ite c t e=e:=if_neg a
noncomputable section
set_option Elab.async false
set_option linter.all false
set_option maxRecDepth 100000
namespace L2
open PySem PySem.Spec PyProof.Rows
abbrev Sn:=Sum Int ah
noncomputable def Gr:Sn->aF->Bool
 | .inl k,v=>aF.isInt k v
 | .inr x,v=>aF.isStrOf x v
noncomputable def D4(w:bz):Sn->Int
 | .inl k=>hashInt k
 | .inr x=>hashStr w x
theorem Ya:∀{k:Sn}{v:aF},Gr k v=aC->(∃i t,k=j6 i/\v=jO i t)\/(∃x t,k=j7 x/\v=aF.str x t)
 | .inl i,v,h=>by obtain⟨t,e⟩:=aF.isInt_shape h;exact .inl ⟨i,t,rfl,e⟩
 | .inr x,v,h=>by obtain⟨t,e⟩:=aF.isStrOf_shape h;exact .inr ⟨x,t,rfl,e⟩
theorem GY(a b:Int):decide ((j6 a:Sn)=j6 b)=(a==b):=by grind
theorem GZ(a b:ah):decide ((j7 a:Sn)=j7 b)=decide (a=b):=by simp
theorem G0(a:Int)(b:ah):decide ((j6 a:Sn)=j7 b)=aB:=decide_eq_false (λq=>nomatch q)
theorem G1(a:ah)(b:Int):decide ((j7 a:Sn)=j6 b)=aB:=decide_eq_false (λq=>nomatch q)
noncomputable def Mx(prog:bM)(w:bz):PySem.KeyKind prog w Sn where
 is:=Gr
 hash:=D4 w
 inj:=λv a b ha hb=>by
  rcases Ya ha with⟨i,t,rfl,rfl⟩ | ⟨x,t,rfl,rfl⟩
  ·rcases Ya hb with⟨j,u,rfl,e⟩ | ⟨y,u,rfl,e⟩
   ·injection e with e1 _;rw[e1]
   ·exact nomatch e
  ·rcases Ya hb with⟨j,u,rfl,e⟩ | ⟨y,u,rfl,e⟩
   ·exact nomatch e
   ·injection e with e1 _;rw[e1]
 byValue:=λk v h=>by rcases Ya h with⟨i,t,rfl,rfl⟩ | ⟨x,t,rfl,rfl⟩<;>rfl
 pyHash:=λhv h=>by
  rcases Ya hv with⟨i,t,rfl,rfl⟩ | ⟨x,t,rfl,rfl⟩
  ·exact wpAny_pyHash_int h
  ·exact wpAny_pyHash_str h
 eqBool:=λhu hv h=>by
  rcases Ya hu with⟨i,t,rfl,rfl⟩ | ⟨x,t,rfl,rfl⟩
  ·rcases Ya hv with⟨j,u,rfl,rfl⟩ | ⟨y,u,rfl,rfl⟩
   ·rw[GY] at h;exact wpAny_eqBool_int h
   ·rw[G0] at h;exact jh.int_str i t y u _ _ _ _ h
  ·rcases Ya hv with⟨j,u,rfl,rfl⟩ | ⟨y,u,rfl,rfl⟩
   ·rw[G1] at h;exact jh.str_int x t j u _ _ _ _ h
   ·rw[GZ] at h;exact wpAny_eqBool_str h
 «strs»:=λk x t v h=>by
  rcases Ya h with⟨i,u,rfl,e⟩ | ⟨y,u,rfl,e⟩
  ·exact nomatch e
  ·injection e with e1 _;subst e1;cases v<;>rfl
inductive V where
 | non | bl (b:Bool) | int (i:Int) | str (x:ah) | byt (b:Array UInt8) | flt (b:UInt64) | ref (a:aH) | ty (n:String)
 deriving DecidableEq
noncomputable def RelV:V->aF->Prop
 | .non,u=>u=aF.none
 | .bl b,u=>u=aF.bool b
 | .int i,u=>∃t,u=jO i t
 | .str x,u=>∃t,u=aF.str x t
 | .byt b,u=>∃t,u=aF.bytes b t
 | .flt b,u=>∃t,u=aF.float b t
 | .ref a,u=>u=jP a
 | .ty n,u=>u=j9 n
abbrev Vals:List V->List aF->Prop:=Paired RelV
theorem Vals.length{a:List V}{b:List aF}(r:Vals a b):a.length=b.length:=Paired.length r
theorem Vals.get:∀{xs:List V}{us:List aF}{i:Nat}{x:V},Vals xs us->xs[i]?=aA x->∃u,us[i]?=aA u/\RelV x u
 | _,_,_,_,.nil,e=>by simp at e
 | _,_,0,_,.cons r _,e=>by simp at e;subst e;exact⟨_,rfl,r⟩
 | _,_,i+1,x,.cons _ t,e=>by obtain⟨u,b,a⟩:=Vals.get (i:=i) (x:=x) t (by simpa using e);exact⟨u,by simpa using b,a⟩
theorem Vals.set{x:V}{u:aF}(r:RelV x u):∀{xs:List V}{us:List aF}(i:Nat),Vals xs us->Vals (xs.set i x) (us.set i u)
 | _,_,_,.nil=>.nil
 | _,_,0,.cons _ t=>.cons r t
 | _,_,i+1,.cons q t=>.cons q (Vals.set r i t)
theorem Vals.append:∀{xs ys:List V}{us ws:List aF},Vals xs us->Vals ys ws->Vals (xs++ys) (us++ws)
 | _,_,_,_,.nil,s=>s
 | _,_,_,_,.cons r t,s=>.cons r (Vals.append t s)
theorem Vals.take:∀{xs:List V}{us:List aF}(n:Nat),Vals xs us->Vals (xs.take n) (us.take n)
 | _,_,0,_=>.nil
 | _,_,_+1,.nil=>.nil
 | _,_,n+1,.cons r t=>.cons r (Vals.take n t)
theorem Vals.drop:∀{xs:List V}{us:List aF}(n:Nat),Vals xs us->Vals (xs.drop n) (us.drop n)
 | _,_,0,r=>r
 | _,_,_+1,.nil=>.nil
 | _,_,n+1,.cons _ t=>Vals.drop n t
noncomputable def G3:Option V->Option aF->Prop
 | some v,aA u=>RelV v u
 | none,none=>True
 | _,_=>False
noncomputable def KV{κ:Type}:List (κ×V)->List (κ×aF)->Prop:=Paired λ(p:κ×V) (q:κ×aF)=>p.1=q.1/\RelV p.2 q.2
noncomputable def kV:Sn->V
 | .inl i=>.int i
 | .inr x=>.str x
inductive HO where
 /-- a list -/
 | lst (xs:List V)
 /-- a tuple (never changes) -/
 | tup (xs:List V)
 /-- a dict whose keys are ints and texts;one whose keys are tuples of ints and texts (the empty one is both) -/
 | dK (k3:List (Sn×V)) | dT (k3:List (List Sn×V))
 /-- a set of ints: k7 members,k7 size -/
 | set (S:Int->Bool) (n:Nat)
 /-- an instance of the class at C,k7 dict at dx,k7 attributes -/
 | ins (C dx:aH) (fs:List (ah×V))
 /-- the dict of the instance at x -/
 | own (x:aH)
 /-- the dict of an exception -/
 | xd (fs:List (ah×V))
 /-- a bound method,f of x -/
 | met (f x:aH)
 /-- a range object lo,lo+1,.. below hi -/
 | rng (lo hi:Int)
 /-- a thing that is known to the object (the script;a dict while a loop walks it): read,never written while it is so -/
 | frz (o:cx) (u:HO)
 /-- a code object's table -/
 | tbl (ps:Array aF)
 /-- any other thing,by what is aC of k7 one object (a def of one's own: SetO a S n:=HO.ext λh=>..) -/
 | ext (φ:bU->Prop)
abbrev Hp:=aH->Option HO
noncomputable def upd(H:Hp)(a:aH)(o:HO):Hp:=λb=>if b=a then aA o else H b
theorem Zq{H:Hp}{a:aH}{o:HO}:upd H a o a=aA o:=by unfold upd;rw[k8 rfl]
theorem upd_ne{H:Hp}{a b:aH}{o:HO}(h:b≠a):upd H a o b=H b:=by unfold upd;rw[k9 h]
theorem Zp{H:Hp}{a b:aH}{o:HO}(h:H a=aA o)(c:H b=none):a≠b:=by grind
noncomputable def Li(x:ah):Bool:=x=="tree_of" || x=="still_by" || x=="made_of"
noncomputable def D5(x:ah):ah:=x++".<locals>."++"<lambda>"
noncomputable def Km(o:cx)(q:ah):Prop:=∃vs t,o.data = .fields vs/\vs[1]?=aA (.str q t)
noncomputable def EF(q:ah)(H:Hp)(ps:List aF):Prop:=TriplesOk ps/\∀pos v,codeAmong pos ps=aA v->∃c o,v = .ref c/\H c=aA (.frz o (.own 0))/\Km o q
theorem SF{h:bU}{T:aF}{a:Array aF}{n:Nat}{o:cx}(e:(h.push { cls:=T,data:=.seq a n }).get? h.objs.size=aA o):o.dict=none:=by rw[aZ _ rfl] at e;cases e;rfl
section
variable (P:bM) (w:bz)
noncomputable def ObjOk(H:Hp)(h:bU)(a:aH):HO->Prop
 | .lst xs=>xs.length<=sizeLine/\∃(k7:List aF) (n:Nat),Vals xs k7/\h.get? a=aA { cls:=.type "list",data:=.seq k7.toArray n }
 | .tup xs=>(xs.length<=sizeLine/\∀o,h.get? a=aA o->o.dict=none)/\∃k7:List aF,Vals xs k7/\IsTup h a k7.toArray
 | .dK k3=>k3.length<=sizeLine/\(a==sysModules)=aB/\∃vs,KV k3 vs/\h.DictOf (Mx P w) a vs
 | .dT k3=>k3.length<=sizeLine/\(a==sysModules)=aB/\∃xs:List (List Sn×aH×aF),
   Paired (λ(p:List Sn×V) (q:List Sn×aH×aF)=>p.1=q.1/\H q.2.1=aA (.tup (p.1.map kV))/\RelV p.2 q.2.2) k3 xs/\
   ∃o es ep,h.get? a=aA o/\o.ExactDict/\o.data = .dict es ep/\es.toList=xs.map (entryOfKey (tupleKind (Mx P w)))/\(xs.map (·.1)).Nodup
 | .set S n=>h.SetOf (intKind P w) a S n
 | .ins C dx fs=>H dx=aA (.own a)/\fs.length<=1000/\dx≠a/\h.get? a=aA (gz C dx)/\
   ∃mA,h.Ns1 dx mA/\(∀f,G3 (fs.lookup f) (mA f))/\js mA (fs.map (·.1))
 | .own _=>∃o,h.get? a=aA o
 | .xd fs=>∃mA,h.Ns1 a mA/\∀f,G3 (fs.lookup f) (mA f)
 | .rng lo hi=>∃t u v,h.get? a=aA { cls:=.type "range",data:=.fields #[.int lo t,.int hi u,.int 1 v] }
 | .frz o u=>h.get? a=aA o/\ObjOk H h a u
 | .tbl ps=>∃(q:ah) (t:Tok) (ps':Array aF),ps[0]?=aA (.str q t)/\h.get? a=aA { cls:=.none,data:=.fields ps' }/\EF q H ps'.toList
 | .met f x=>h.get? a=aA (PySem.W.methodObj (.ref f) (.ref x))
 | .ext φ=>φ h/\(∃o,h.get? a=aA o)/\∀h1 h2:bU,φ h1->(∀o,h1.get? a=aA o->h2.get? a=aA o)->φ h2
noncomputable def HOk(H:Hp)(h:bU):Prop:=∀a o,H a=aA o->ObjOk P w H h a o
end
section
variable {P:bM} {w:bz} {H H':Hp} {h h':bU} {a:aH} {o:HO}
theorem ObjOk.lt(x:ObjOk P w H h a o):a<h.objs.size:=by
 cases o with
 | lst xs=>obtain⟨_,_,_,_,e⟩:=x;exact aR e
 | tup xs=>obtain⟨_,_,_,p⟩:=x;exact p.lt
 | dK k3=>obtain⟨_,_,_,_,o,_,_,e,_⟩:=x;exact aR e
 | dT k3=>obtain⟨_,_,_,_,o,_,_,e,_⟩:=x;exact aR e
 | set S n=>obtain⟨o,_,_,_,e,_⟩:=x;exact aR e
 | ins C dx fs=>obtain⟨_,_,_,e,_⟩:=x;exact aR e
 | own y=>obtain⟨_,e⟩:=x;exact aR e
 | xd fs=>obtain⟨_,⟨_,_,_,e,_⟩,_⟩:=x;exact aR e
 | rng lo hi=>obtain⟨_,_,_,e⟩:=x;exact aR e
 | frz ob u=>obtain⟨e,_⟩:=x;exact aR e
 | tbl ps=>obtain⟨_,_,_,_,e,_⟩:=x;exact aR e
 | met f y=>exact aR (show h.get? a=aA _ from x)
 | ext φ=>obtain⟨_,⟨_,e⟩,_⟩:=x;exact aR e
theorem Paired.mapP{d c:Type}{F G:d->c->Prop}:∀{l₁:List d}{l₂:List c},Paired F l₁ l₂->(∀a b,F a b->G a b)->Paired G l₁ l₂
 | _,_,.nil,_=>.nil
 | _,_,.cons r t,f=>.cons (f _ _ r) (Paired.mapP t f)
theorem ObjOk.stay(x:ObjOk P w H h a o)(k:∀b u,(b=a\/H b=aA (.own a))->h.get? b=aA u->h'.get? b=aA u)
  (I:∀b,H b=aA (.own a)->H' b=aA (.own a)) (M:∀b j,H b=aA (.tup j)->H' b=aA (.tup j)) (O:∀b u,H b=aA (.frz u (.own 0))->H' b=aA (.frz u (.own 0))):ObjOk P w H' h' a o:=by
 induction o with
 | lst j=>obtain⟨z,B,n,r,e⟩:=x;exact⟨z,B,n,r,k _ _ (.inl rfl) e⟩
 | tup j=>obtain⟨z,B,r,g,e,c⟩:=x;exact⟨⟨z.1,λo q=>by rw[k _ _ (.inl rfl) e] at q;cases q;exact z.2 _ e⟩,B,r,g,k _ _ (.inl rfl) e,c⟩
 | dK k3=>obtain⟨z,y,vs,r,g,i,ep,e,c⟩:=x;exact⟨z,y,vs,r,g,i,ep,k _ _ (.inl rfl) e,c⟩
 | dT k3=>
  obtain⟨z,y,j,r,g,i,ep,e,c⟩:=x;exact⟨z,y,j,Paired.mapP r λp q z=>⟨z.1,M _ _ z.2.1,z.2.2⟩,g,i,ep,k _ _ (.inl rfl) e,c⟩
 | set S n=>obtain⟨g,i,ep,t,e,c⟩:=x;exact⟨g,i,ep,t,k _ _ (.inl rfl) e,c⟩
 | ins C dx fs=>
  obtain⟨d,z,ne,e,A,⟨m,i,ep,D,c⟩,r⟩:=x;exact⟨I _ d,z,ne,k _ _ (.inl rfl) e,A,⟨m,i,ep,k _ _ (.inr d) D,c⟩,r⟩
 | own y=>obtain⟨g,e⟩:=x;exact⟨g,k _ _ (.inl rfl) e⟩
 | xd fs=>obtain⟨A,⟨m,i,ep,e,c⟩,r⟩:=x;exact⟨A,⟨m,i,ep,k _ _ (.inl rfl) e,c⟩,r⟩
 | rng lo hi=>obtain⟨t,u,v,e⟩:=x;exact⟨t,u,v,k _ _ (.inl rfl) e⟩
 | frz g u ih=>obtain⟨e,q⟩:=x;exact⟨k _ _ (.inl rfl) e,ih q⟩
 | tbl ps=>
  obtain⟨q,t,l,F,e,G,L⟩:=x;refine⟨q,t,l,F,k a _ (.inl rfl) e,G,λs v N=>?_⟩;obtain⟨c,o,E,D,J⟩:=L s v N;exact⟨c,o,E,O c o D,J⟩
 | met f y=>
  have e:=x;exact k a _ (.inl rfl) e
 | ext φ=>obtain⟨p,⟨o,e⟩,st⟩:=x;exact⟨st _ _ p λo q=>k _ _ (.inl rfl) q,⟨o,k _ _ (.inl rfl) e⟩,st⟩
theorem HOk.lt(x:HOk P w H h)(e:H a=aA o):a<h.objs.size:=(x a o e).lt
theorem HOk.fresh(x:HOk P w H h)(e:h.objs.size<=a):H a=none:=by
 cases q:H a with
 | none=>rfl
 | some u=>exact absurd (a0 (x.lt q) e) (br _)
theorem HOk.kept(x:HOk P w H h)(k:∀b u,h.get? b=aA u->h'.get? b=aA u):HOk P w H h':=λa o e=>
 (x a o e).stay (λb u _ q=>k b u q) (λ_ q=>q) (λ_ _ q=>q) λ_ _ q=>q
theorem HOk.laid(x:HOk P w H h)(k:∀b u,h.get? b=aA u->h'.get? b=aA u)(g:h.objs.size<=a)(new:ObjOk P w (upd H a o) h' a o):HOk P w (upd H a o) h':=λb u e=>by
 have d:=x.fresh g;by_cases f:b=a
 ·subst f;rw[Zq] at e;cases e;exact new
 ·rw[upd_ne f] at e;exact(x b u e).stay (λc v _ q=>k c v q) (λc q=>by rw[upd_ne (Zp q d)];exact q) (λc i q=>by rw[upd_ne (Zp q d)];exact q) λc u q=>by rw[upd_ne (Zp q d)];exact q
end
noncomputable def Rd(H:Hp)(a:aH)(u:HO):Prop:=H a=aA u\/∃o,H a=aA (.frz o u)
theorem Rd.ok{P:bM}{w:bz}{H:Hp}{h:bU}{a:aH}{u:HO}(r:Rd H a u)(x:HOk P w H h):ObjOk P w H h a u:=by
 rcases r with r | ⟨o,r⟩
 ·exact x a u r
 ·obtain⟨_,q⟩:=x a _ r;exact q
noncomputable def VY:Option HO->Prop
 | some (.lst _)=>True
 | some (.dK _)=>True
 | some (.dT _)=>True
 | some (.set _ _)=>True
 | some (.ins _ _ _)=>True
 | some (.ext _)=>True
 | _=>False
section
variable {P:bM} {w:bz} {H:Hp} {h h':bU} {x e:aH} {o':HO}
theorem HOk.write(ok:HOk P w H h)(f:VY (H x))(o:e=x\/H e=aA (.own x))(k:∀b u,b≠e->h.get? b=aA u->h'.get? b=aA u)(m:∃u,h'.get? e=aA u)
  (new:ObjOk P w (upd H x o') h' x o'):HOk P w (upd H x o') h':=λb u q=>by
 have d:∀c y,H c=aA (.own y)->c≠x:=λc y r z=>by subst z;rw[r] at f;exact f
 have g:∀c j,H c=aA (.tup j)->c≠x:=λc j r z=>by subst z;rw[r] at f;exact f
 by_cases l:b=x
 ·subst l;rw[Zq] at q;cases q;exact new
 ·rw[upd_ne l] at q;by_cases a:b=e
  ·have n:H b=aA (.own x):=by
    rcases o with z | z
    ·exact absurd (a.trans z) l
    ·rw[a];exact z
   rw[q] at n;cases n;obtain⟨v,p⟩:=m;exact⟨v,by rw[a];exact p⟩
  ·refine(ok b u q).stay (λc v i r=>k c v ?_ r) (λc r=>by rw[upd_ne (d c b r)];exact r) (λc j r=>by rw[upd_ne (g c j r)];exact r) λc v r=>by rw[upd_ne (λz=>by subst z;rw[r] at f;exact f)];exact r
   rcases i with rfl | i
   ·exact a
   ·rintro rfl;rcases o with z | z
    ·exact d c b i z
    ·rw[i] at z;cases z;exact l rfl
end
structure Un(fs ex:List aH)(H H':Hp)(h h':bU):Prop where
 keep:∀b o,h.get? b=aA o->H b=none->b∉fs->b∉ex->h'.get? b=aA o
 slot:∀b o,h.get? b=aA o->H b=none->b∈fs->b∉ex->∃sl,h'.get? b=aA { o with slots:=sl }
 free:∀b o,h.get? b=aA o->H b=none->b∉ex->H' b=none
 there:∀b o,h.get? b=aA o->b∉ex->∃o',h'.get? b=aA o'
 tups:∀b xs,H b=aA (.tup xs)->H' b=aA (.tup xs)
 frzs:∀b o u,H b=aA (.frz o u)->H' b=aA (.frz o u)
 tbls:∀b ps,H b=aA (.tbl ps)->∃more,H' b=aA (.tbl (ps++more))
section
variable {fs fs' ex ex':List aH} {H H1 H2:Hp} {h h1 h2 h':bU} {a x e:aH} {o:HO}
theorem Un.any(u:Un fs ex H H1 h h1){b:aH}{a:cx}(q:h.get? b=aA a)(n:H b=none)(c:b∉ex):∃sl,h1.get? b=aA { a with slots:=sl }:=by
 by_cases d:b∈fs
 ·exact u.slot b a q n d c
 ·exact⟨a.slots,u.keep b a q n d c⟩
theorem Un.kept(k:∀b u,h.get? b=aA u->h'.get? b=aA u):Un fs ex H H h h':=
 ⟨λb a q _ _ _=>k b a q,λb a q _ _ _=>⟨a.slots,k b a q⟩,λ_ _ _ n _=>n,λb a q _=>⟨a,k b a q⟩,λ_ _ q=>q,λ_ _ _ q=>q,λ_ c q=>⟨#[],by rw[q];simp⟩⟩
theorem Un.refl:Un fs ex H H h h:=Un.kept λ_ _ q=>q
theorem Un.laid(k:∀b u,h.get? b=aA u->h'.get? b=aA u)(d:h.objs.size<=a)(c:H a=none):Un fs ex H (upd H a o) h h' where
 keep:=λb u q _ _ _=>k b u q
 slot:=λb u q _ _ _=>⟨u.slots,k b u q⟩
 free:=λb u q n _=>by rw[upd_ne (az (a0 (aR q) d))];exact n
 there:=λb u q _=>⟨u,k b u q⟩
 tups:=λb e q=>by rw[upd_ne (Zp q c)];exact q
 frzs:=λb u e q=>by rw[upd_ne (Zp q c)];exact q
 tbls:=λb f q=>⟨#[],by rw[upd_ne (Zp q c),q];simp⟩
theorem Un.write(c:VY (H x))(m:e=x\/H e=aA (.own x))(k:∀b u,b≠e->h.get? b=aA u->h'.get? b=aA u)(f:∃u,h'.get? e=aA u):Un fs ex H (upd H x o) h h':=by
 have g:∀b,H b=none->b≠x:=λb n z=>by subst z;rw[n] at c;exact c
 have i:∀b,H b=none->b≠e:=λb n z=>by
  subst z;rcases m with r | r
  ·exact g b n r
  ·rw[n] at r;cases r
 have d:∀b u,H b=aA u->¬VY (aA u)->b≠x:=λb u q l z=>by subst z;rw[q] at c;exact l c
 refine⟨λb u q n _ _=>k b u (i b n) q,λb u q n _ _=>⟨u.slots,k b u (i b n) q⟩,λb u q n _=>by rw[upd_ne (g b n)];exact n,λb u q _=>?_,
  λb j q=>by rw[upd_ne (d b _ q λz=>z)];exact q,λb u j q=>by rw[upd_ne (d b _ q λz=>z)];exact q,λb p q=>⟨#[],by rw[upd_ne (d b _ q λz=>z),q];simp⟩⟩
 by_cases a:b=e
 ·subst a;exact f
 ·exact⟨u,k b u a q⟩
end
noncomputable def TabsH(K:aD)(mg:ah->Option aF)(base:bU)(H:Hp):Prop:=∀(q:ah)(c:aH),Li q=aC->cO K (.ref c) q=aC->
 ∃Pt ps t,PySem.W.CodeHd base c Pt/\H Pt=aA (.tbl ps)/\ps[0]?=aA (.str (D5 q) t)/\base.BuiltinsAt mg Pt
theorem TabsH.un{K:aD}{g:ah->Option aF}{base:bU}{fs r:List aH}{H f:Hp}{h k:bU}(t:TabsH K g base H)(u:Un fs r H f h k):TabsH K g base f:=λq c m l=>by
 obtain⟨e,b,tk,j,o,d,s⟩:=t q c m l;obtain⟨i,p⟩:=u.tbls e b o
 have a:0<b.size:=by
  cases z:b.size with
  | zero=>rw[Array.getElem?_eq_none (by omega)] at d;cases d
  | succ n=>omega
 exact⟨e,_,tk,j,p,by rw[Array.getElem?_append_left a];exact d,s⟩
noncomputable def DI(h:bU)(H:Hp):List aH:=(aI h.objs.size).filter λa=>(H a).isSome
noncomputable def QT(h:bU)(H:Hp):bU:=PySem.W.hideAll h (DI h H)
theorem Lj(h:bU)(H:Hp):(QT h H).objs.size=h.objs.size:=PySem.W.hideAll_size _ _
theorem Kn{h:bU}{H:Hp}{b:aH}{o:cx}(e:h.get? b=aA o)(n:H b=none):(QT h H).get? b=aA o:=
 PySem.W.hideAll_get _ e λa=>by have q:=(fP.mp a).2;rw[n] at q;simp at q
theorem Ic{h:bU}{H:Hp}{b:aH}{o:cx}(e:(QT h H).get? b=aA o):h.get? b=aA o/\H b=none:=by
 have a:=PySem.W.of_hideAll (DI h H) e;refine⟨a,?_⟩
 cases q:H b with
 | none=>rfl
 | some x=>
  have c:b∈DI h H:=fP.mpr ⟨aX.mpr (aR a),by simp[q]⟩;have z:(QT h H).get? b=none:=PySem.W.hideAll_none (DI h H) c;rw[z] at e;cases e
noncomputable def Ie(g h:bU)(L:aH):List (aH×cx):=(aI h.objs.size).filterMap λa=>if a=L\/(g.get? a).isSome=aC then none else(h.get? a).map λo=>(a,o)
noncomputable def Yh(g h:bU)(L d:aH):List (aH×cx):=(Ie g h L).filter λp=>decide (p.1≠d)
structure Mod(K:aD)(mg:ah->Option aF)(base:bU):Prop where
 kin:K.In base
 glob:base.Ns cJ mg
 blt:∃mb,base.Ns ic mb/\∀x:ah,x≠"__name__"->mb x=cb x
 nolimit:base.NoLimit
 seer:base.NoSeer
structure Cx where
 prog:bM
 w:bz
 K:aD
 mg:ah->Option aF
 base:bU
 A:bj
 N:List ah
 s₀:aL
 H₀:Hp
 env:jQ
 outer:List jQ
 stack:List jQ
 ex:List aH
 fn:ah->Bool
 calm:Bool
 pn:List (aH×cx)
 xe:aF->aL->Prop
noncomputable def Ni(l:List jQ):List aH:=l.filterMap (·.frame)
abbrev Cx.fs(X:Cx):List aH:=Ni X.outer
noncomputable def DJ(sc:dA)(x:ah):Prop:=sc.names.lookup x=aA .local\/sc.names.lookup x=aA .cell\/sc.names.lookup x=aA .free
noncomputable def Ig(sc:dA)(x:ah):Prop:=sc.names.lookup x=aA .local\/sc.names.lookup x=aA .cell
noncomputable def D6(env:jQ)(h:bU)(m:ah->Option aF)(x:ah)(u:aF):Prop:=
 (env.kindOf x=aA .local/\m x=aA u)\/((env.kindOf x=aA .cell\/env.kindOf x=aA .free)/\∃c,env.cells.lookup x=aA c/\h.IsCell c (aA u))
structure Cx.Ok(X:Cx):Prop where
 mod:Mod X.K X.mg X.base
 kind:X.env.scope.kind = .function
 glob:X.env.globals=cJ
 blt:X.env.builtins=ic
 above:X.s₀.heap.objs.size<=X.env.locals
 inj:∀x y c,X.env.cells.lookup x=aA c->X.env.cells.lookup y=aA c->x=y
 has:∀x,(X.env.kindOf x=aA .cell\/X.env.kindOf x=aA .free)->∃c,X.env.cells.lookup x=aA c
 cab:∀x c,X.fn x=aC->X.env.cells.lookup x=aA c->X.s₀.heap.objs.size<=c
 hd:X.calm=aC->X.A.handled=none
 frames:X.A.frames=aA X.stack
 stk:X.stack=X.outer\/(X.stack=X.env::X.outer/\X.env.frame=aA X.env.locals)
 exf:∀b∈X.ex,b≠X.env.locals/\∀x c,X.env.cells.lookup x=aA c->c≠b
 bs:∀b o,X.base.get? b=aA o->X.s₀.heap.get? b=aA o/\X.H₀ b=none
 bsz:X.base.objs.size<=X.s₀.heap.objs.size
 noex:∀b o,X.base.get? b=aA o->b∉X.ex
 exfs:∀b∈X.ex,b∉X.fs
 funs:X.s₀.heap.FunFrames X.base X.outer
 frf:∀b∈X.fs,X.H₀ b=none
 tab:TabsH X.K X.mg X.base X.H₀
 cod:∀q:ah,X.env.func≠none->X.env.qual=q++".<locals>."->Li q=aC->cO X.K X.env.code q=aC
structure Inv(X:Cx)(jz:List (aH×cx))(σ:List (Option V))(H:Hp)(s:aL):Prop where
 ok:X.Ok
 os:s.os=X.s₀.os
 bare:gm s.gens
 base:Un X.fs X.ex X.H₀ H X.s₀.heap s.heap
 loc:∃m,s.heap.Ns X.env.locals m/\∀(i:Nat)(x:ah)(v:V),X.N[i]?=aA x->σ[i]?=aA (aA v)->DJ X.env.scope x->∃u,RelV v u/\D6 X.env s.heap m x u
 cell:∀x c,X.env.cells.lookup x=aA c->∃v,s.heap.IsCell c v
 free:H X.env.locals=none
 freeC:∀x c,X.env.cells.lookup x=aA c->H c=none
 pin:∀p∈X.pn++jz,s.heap.get? p.1=aA p.2/\H p.1=none/\p.1≠X.env.locals/\p.1∉X.fs/\∀v,p.2.data≠.cell v
 hok:HOk X.prog X.w H s.heap
 len:σ.length=X.N.length
section
variable {X:Cx} {jz:List (aH×cx)} {σ:List (Option V)} {H H':Hp} {s:aL} {h':bU}
theorem Cx.Ok.nofr(ok:X.Ok){b:aH}{o:cx}(e:X.base.get? b=aA o):b∉X.fs:=λa=>by have:=(ok.funs.mem a).1;rw[e] at this;cases this
theorem Inv.bs(I:Inv X jz σ H s):∀b o,X.base.get? b=aA o->s.heap.get? b=aA o/\H b=none:=λb o e=>
 ⟨I.base.keep b o (I.ok.bs b o e).1 (I.ok.bs b o e).2 (I.ok.nofr e) (I.ok.noex b o e),I.base.free b o (I.ok.bs b o e).1 (I.ok.bs b o e).2 (I.ok.noex b o e)⟩
theorem Inv.bk(I:Inv X jz σ H s):∀b o,X.base.get? b=aA o->s.heap.get? b=aA o:=λb o e=>(I.bs b o e).1
theorem Inv.mod(I:Inv X jz σ H s):Mod X.K X.mg X.base:=I.ok.mod
theorem Inv.kIn(I:Inv X jz σ H s):X.K.In s.heap:=I.ok.mod.kin.keeps I.bk
theorem Inv.nolimit(I:Inv X jz σ H s):s.heap.NoLimit:=I.ok.mod.nolimit.keeps I.bk
theorem Inv.fr(I:Inv X jz σ H s):∃m,Fr X.base X.env.locals s.heap m:=
 let⟨m,a,_⟩:=I.loc
 ⟨m,a,I.bk,aS I.ok.bsz I.ok.above⟩
theorem Inv.lt(I:Inv X jz σ H s):X.env.locals<s.heap.objs.size:=let⟨_,a,_⟩:=I.loc;a.lt
theorem Inv.sz(I:Inv X jz σ H s):X.s₀.heap.objs.size<=s.heap.objs.size:=aS I.ok.above (cP I.lt)
theorem Inv.nofs(I:Inv X jz σ H s){a:aH}(h:s.heap.objs.size<=a):a∉X.fs:=λb=>by obtain⟨_,o,c,_⟩:=I.ok.funs.mem b;exact absurd (a0 (aR c) (aS I.sz h)) (br _)
theorem Inv.cne(I:Inv X jz σ H s):∀x c,X.env.cells.lookup x=aA c->c≠X.env.locals:=λx c e z=>by obtain⟨v,o,d,f⟩:=I.cell x c e;obtain⟨m,⟨g,h,ep,b,a,_⟩,_⟩:=I.loc;rw[z,b] at d;cases d;rw[a] at f;cases f
theorem Inv.funs(I:Inv X jz σ H s):s.heap.FunFrames X.base X.outer:=by
 have all:∀(l:List jQ),(∀b∈Ni l,b∈X.fs)->X.s₀.heap.FunFrames X.base l->s.heap.FunFrames X.base l:=by
  intro l
  induction l with
  | nil=>intro _ _;trivial
  | cons env r ih=>
   intro f k;obtain⟨m,⟨L,o,d,j,i,h⟩,g⟩:=k;have c:L∈X.fs:=f L (by unfold Ni;rw[fU,d];exact a9);obtain⟨n,e⟩:=I.base.slot L o i (I.ok.frf L c) c λz=>I.ok.exfs L z c;exact⟨m,⟨L,_,d,j,e,h⟩,ih (λb a=>f b (by unfold Ni;rw[fU,d];exact aW _ a)) g⟩
 exact all X.outer (λ_ a=>a) I.ok.funs
theorem Inv.stack(I:Inv X jz σ H s):s.heap.FunFrames X.base X.stack:=by
 rcases I.ok.stk with e | ⟨e,a⟩
 ·rw[e];exact I.funs
 ·rw[e];obtain⟨m,b,_⟩:=I.loc;refine .cons (by rw[I.ok.kind];decide) a b ?_ I.funs;exact bU.get?_none_of_le (aS I.ok.bsz I.ok.above)
theorem Inv.stkSub(I:Inv X jz σ H s):∀b∈Ni X.stack,b∈X.env.locals::X.fs:=λb a=>by
 rcases I.ok.stk with e | ⟨e,c⟩
 ·rw[e] at a;exact aW _ a
 ·rw[e] at a;unfold Ni at a;rw[fU,c] at a;exact a
theorem Inv.stkFree(I:Inv X jz σ H s):∀b∈Ni X.stack,H b=none:=λb a=>by
 rcases af.mp (I.stkSub b a) with e | a
 ·rw[e];exact I.free
 ·obtain⟨_,o,c,_⟩:=I.ok.funs.mem a;exact I.base.free b o c (I.ok.frf b a) λz=>I.ok.exfs b z a
theorem Inv.step{S:Array GenState}{t':Nat}{d':Drawn}{ch:List aH}(I:Inv X jz σ H s)
  (g:∀b∈ch,(b∈X.ex\/X.s₀.heap.objs.size<=b)/\b≠X.env.locals/\(∀x c,X.env.cells.lookup x=aA c->c≠b)/\∀p∈X.pn++jz,p.1≠b)
  (f:∀b o,b≠X.env.locals->b∉X.fs->b∉ch->s.heap.get? b=aA o->H b=none->h'.get? b=aA o)
  (y:∀b o,b≠X.env.locals->b∈X.fs->b∉ch->s.heap.get? b=aA o->H b=none->∃O,h'.get? b=aA { o with slots:=O }) (free:∀b o,b∉ch->s.heap.get? b=aA o->H b=none->H' b=none)
  (C:∀b o,b∉ch->s.heap.get? b=aA o->∃G,h'.get? b=aA G)
  (M:∀b A,H b=aA (.tup A)->H' b=aA (.tup A)) (J:∀b o u,H b=aA (.frz o u)->H' b=aA (.frz o u)) (L:∀b N,H b=aA (.tbl N)->∃more,H' b=aA (.tbl (N++more)))
  (ns:∀m,s.heap.Ns X.env.locals m->h'.Ns X.env.locals m) (Q:HOk X.prog X.w H' h') (hg:gm S) :
  Inv X jz σ H' { s with heap:=h',gens:=S,drawn:=d',toks:=t' }:=by
 have E:∀b o,X.s₀.heap.get? b=aA o->b≠X.env.locals:=λb o e=>az (a0 (aR e) I.ok.above)
 have w:∀b o,X.s₀.heap.get? b=aA o->b∉X.ex->b∉ch:=λb o e a B=>by
  rcases(g b B).1 with z | z
  ·exact a z
  ·exact absurd (a0 (aR e) z) (br _)
 have h:∀x c,X.env.cells.lookup x=aA c->∀v,s.heap.IsCell c v->h'.IsCell c v:=λx c e v ⟨o,D,P⟩=>by
  have j:=λz=>(g c z).2.2.1 x c e rfl;by_cases U:c∈X.fs
  ·obtain⟨O,q⟩:=y c o (I.cne x c e) U j D (I.freeC x c e);exact⟨_,q,P⟩
  ·exact⟨o,f c o (I.cne x c e) U j D (I.freeC x c e),P⟩
 refine⟨I.ok,I.os,hg,⟨λb o e n B a=>?_,λb o e n B a=>?_,λb o e n a=>?_,λb o e a=>?_,λb A e=>M b A (I.base.tups b A e),λb o A e=>J b o A (I.base.frzs b o A e),λb N e=>?_⟩,?_,λx c e=>?_,?_,λx c e=>?_,λp W=>?_,Q,I.len⟩
 ·exact f b o (E b o e) B (w b o e a) (I.base.keep b o e n B a) (I.base.free b o e n a)
 ·obtain⟨O,t⟩:=I.base.slot b o e n B a;obtain⟨R,F⟩:=y b _ (E b o e) B (w b o e a) t (I.base.free b o e n a);exact⟨R,F⟩
 ·obtain⟨G,t⟩:=I.base.there b o e a;exact free b G (w b o e a) t (I.base.free b o e n a)
 ·obtain⟨G,t⟩:=I.base.there b o e a;exact C b G (w b o e a) t
 ·obtain⟨m1,t⟩:=I.base.tbls b N e;obtain⟨Z,F⟩:=L b _ t;exact⟨m1++Z,by rw[F,Array.append_assoc]⟩
 ·obtain⟨m,hn,hl⟩:=I.loc;refine⟨m,ns m hn,λi x v t F Y=>?_⟩;obtain⟨u,r,l⟩:=hl i x v t F Y;refine⟨u,r,?_⟩;rcases l with l | ⟨k,c,e,z⟩
  ·exact .inl l
  ·exact .inr ⟨k,c,e,h x c e _ z⟩
 ·obtain⟨v,z⟩:=I.cell x c e;exact⟨v,h x c e v z⟩
 ·obtain⟨m,⟨o,_,_,D,_⟩,_⟩:=I.loc;exact free _ o (λz=>(g _ z).2.1 rfl) D I.free
 ·obtain⟨v,o,D,P⟩:=I.cell x c e;exact free c o (λz=>(g c z).2.2.1 x c e rfl) D (I.freeC x c e)
 ·obtain⟨e,n,ne,T,d⟩:=I.pin p W;have j:=λz=>(g p.1 z).2.2.2 p W rfl;exact⟨f p.1 p.2 ne T j e n,free p.1 p.2 j e n,ne,T,d⟩
theorem Inv.un{t':Nat}(I:Inv X jz σ H s)(u:Un X.fs [] H H' s.heap h')(f:HOk X.prog X.w H' h'):Inv X jz σ H' { s with heap:=h',toks:=t' }:=by
 obtain⟨m,⟨o,q,ep,h,r⟩,_⟩:=id I.loc;obtain⟨p,j⟩:=u.any h I.free (by simp)
 exact I.step (ch:=[]) (λ_ z=>nomatch z) (λb o _ c _ e n=>u.keep b o e n c (by simp)) (λb o _ c _ e n=>u.slot b o e n c (by simp)) (λb o _ e n=>u.free b o e n (by simp)) (λb o _ e=>u.there b o e (by simp)) u.tups u.frzs u.tbls (λl i=>by
  obtain⟨t,d,g,a,k⟩:=i;rw[h] at a;cases a;exact⟨_,d,g,j,k⟩) f I.bare
theorem Inv.call{k:Array GenState}{t':Nat}{t:Drawn}{ch:List aH}(I:Inv X jz σ H s)(u:Un (Ni X.stack) ch H H' s.heap h')(i:HOk X.prog X.w H' h')(w:gm k)
  (f:∀b∈ch,(b∈X.ex\/X.s₀.heap.objs.size<=b)/\b≠X.env.locals/\(∀x c,X.env.cells.lookup x=aA c->c≠b)/\∀p∈X.pn++jz,p.1≠b) :
  Inv X jz σ H' { s with heap:=h',gens:=k,drawn:=t,toks:=t' }:=by
 obtain⟨m,⟨o,C,ep,l,r⟩,_⟩:=id I.loc;obtain⟨B,h⟩:=u.any l I.free λz=>(f _ z).2.1 rfl
 exact I.step f (λb o h y a e n=>u.keep b o e n (λz=>(af.mp (I.stkSub b z)).elim h y) a) (λb o _ _ a e n=>u.any e n a) (λb o a e n=>u.free b o e n a) (λb o a e=>u.there b o e a) u.tups u.frzs u.tbls (λA q=>by
  obtain⟨D,g,j,d,v⟩:=q;rw[l] at d;cases d;exact⟨_,g,j,h,v⟩) i w
theorem Inv.turned{t':Nat}{a:aH}(I:Inv X jz σ H s)(k:∀b o,b≠a->s.heap.get? b=aA o->h'.get? b=aA o)(y:H a=none)(g:a≠X.env.locals)
  (l:a∈X.ex\/X.s₀.heap.objs.size<=a) (j:∀x c,X.env.cells.lookup x=aA c->c≠a) (w:∀p∈X.pn++jz,p.1≠a):Inv X jz σ H { s with heap:=h',toks:=t' }:=by
 have f:∀b u,H b=aA u->b≠a:=λb u e z=>by rw[z,y] at e;cases e
 refine I.step (ch:=[a]) (λb A=>?_) (λb o _ _ d e _=>k b o (λz=>d (by simp[z])) e) (λb o _ _ d e _=>⟨o.slots,k b o (λz=>d (by simp[z])) e⟩) (λ_ _ _ _ n=>n)
  (λb o d e=>⟨o,k b o (λz=>d (by simp[z])) e⟩) (λ_ _ e=>e) (λ_ _ _ e=>e) (λb B e=>⟨#[],by rw[e];simp⟩) (λm h=>?_) (λb u e=>?_) I.bare
 ·have e:b=a:=by simpa using A
  subst e;exact⟨l,g,j,w⟩
 ·obtain⟨o,i,ep,t,r⟩:=h;exact⟨o,i,ep,k _ o (aj g) t,r⟩
 ·refine(I.hok b u e).stay (λc v d q=>k c v ?_ q) (λ_ q=>q) (λ_ _ q=>q) λ_ _ q=>q;rcases d with z | z
  ·rw[z];exact f b u e
  ·exact f c _ z
theorem Inv.tok(I:Inv X jz σ H s)(t:Nat):Inv X jz σ H { s with toks:=t }:=I.un Un.refl I.hok
theorem Inv.kept{t':Nat}(I:Inv X jz σ H s)(k:∀b u,s.heap.get? b=aA u->h'.get? b=aA u):Inv X jz σ H { s with heap:=h',toks:=t' }:=I.un (Un.kept k) (I.hok.kept k)
theorem Inv.laid{a:aH}{o:HO}{t':Nat}(I:Inv X jz σ H s)(k:∀b u,s.heap.get? b=aA u->h'.get? b=aA u)(c:s.heap.objs.size<=a)(new:ObjOk X.prog X.w (upd H a o) h' a o) :
  Inv X jz σ (upd H a o) { s with heap:=h',toks:=t' }:=I.un (Un.laid k c (I.hok.fresh c)) (I.hok.laid k c new)
theorem Inv.write{x e:aH}{o:HO}{t':Nat}(I:Inv X jz σ H s)(c:VY (H x))(d:e=x\/H e=aA (.own x))(k:∀b u,b≠e->s.heap.get? b=aA u->h'.get? b=aA u)(a:∃u,h'.get? e=aA u)
  (new:ObjOk X.prog X.w (upd H x o) h' x o):Inv X jz σ (upd H x o) { s with heap:=h',toks:=t' }:=I.un (Un.write c d k a) (I.hok.write c d k a new)
theorem Inv.weak{a:List (Option V)}(I:Inv X jz σ H s)(f:a.length=σ.length)(w:∀(i:Nat) v,a[i]?=aA (aA v)->σ[i]?=aA (aA v)):Inv X jz a H s:=
 ⟨I.ok,I.os,I.bare,I.base,let⟨m,c,b⟩:=I.loc;⟨m,c,λi x v d g e=>b i x v d (w i v g) e⟩,I.cell,I.free,I.freeC,I.pin,I.hok,f.trans I.len⟩
theorem Inv.pins_of{a:List (aH×cx)}(I:Inv X jz σ H s)(h:∀p∈a,s.heap.get? p.1=aA p.2/\H p.1=none/\p.1≠X.env.locals/\p.1∉X.fs/\∀v,p.2.data≠.cell v):Inv X a σ H s:=
 ⟨I.ok,I.os,I.bare,I.base,I.loc,I.cell,I.free,I.freeC,λp b=>(bb.mp b).elim (λz=>I.pin p (bR _ z)) (h p),I.hok,I.len⟩
theorem Ob{N:List ah}(e:N.Nodup){i j:Nat}{x:ah}(a:N[i]?=aA x)(b:N[j]?=aA x):i=j:=by obtain⟨g,c⟩:=aV.mp a;obtain⟨f,d⟩:=aV.mp b;exact(jR e).mp (c.trans d.symm)
theorem Lk{M:Model}{A:bj}{E:aF->aL->Prop}{i:Nat}{x:ah}{v:V}{u:aF}{Q:Unit->aL->Prop}(I:Inv X jz σ H s)(hN:X.N.Nodup)(S:X.N[i]?=aA x)(w:Ig X.env.scope x)(r:RelV v u)
  (h:∀s',Inv X jz (σ.set i (aA v)) H s'->(∃a,cE a s.heap s'.heap/\(a=X.env.locals\/X.env.cells.lookup x=aA a))->Q () s') (hf:X.fn x=aC\/X.env.scope.names.lookup x=aA .local:=by first | exact .inl rfl | exact .inr rfl | assumption):bB M A (storeName X.env x u) Q E s:=by
 obtain⟨m,hn,hl⟩:=id I.loc;have P:(X.env.scope.kind==.class || (X.env.scope.kind==.module&&X.env.locals != X.env.globals))=aB:=by rw[I.ok.kind];rfl
 have D:i<σ.length:=by rw[I.len];exact(aV.mp S).1
 have cne:=I.cne
 have l:∀{a:aH}{N:bU},(∃o,s.heap.get? a=aA o/\H a=none)->cE a s.heap N->HOk X.prog X.w H N:=λ{a N} ha f b ob e=>by
  obtain⟨_,_,B⟩:=ha;refine(I.hok b ob e).stay (λc Y t q=>(f.2 c ?_).trans q) (λ_ q=>q) (λ_ _ q=>q) λ_ _ q=>q;rintro rfl;rcases t with rfl | t
  ·rw[B] at e;cases e
  ·rw[B] at t;cases t
 rcases w with F | F
 ·refine wpAny_storeName_local F hn (λN Z f=>?_) P;obtain⟨oL,_,_,hoL,_⟩:=id hn;refine h _ ⟨I.ok,I.os,I.bare,⟨λb o e n J w=>?_,λb o e n J w=>?_,I.base.free,λb o e w=>?_,I.base.tups,I.base.frzs,I.base.tbls⟩,⟨_,Z,λj y v' g C e3=>?_⟩,λy c e=>?_,I.free,I.freeC,λp hp=>?_,l ⟨oL,hoL,I.free⟩ f,by simpa using I.len⟩ ⟨_,f,.inl rfl⟩
  ·exact(f.2 b (az (a0 (aR e) I.ok.above))).trans (I.base.keep b o e n J w)
  ·obtain⟨sl,g⟩:=I.base.slot b o e n J w;exact⟨sl,(f.2 b (az (a0 (aR e) I.ok.above))).trans g⟩
  ·obtain⟨o',g⟩:=I.base.there b o e w;exact⟨o',(f.2 b (az (a0 (aR e) I.ok.above))).trans g⟩
  ·by_cases L:j=i
   ·subst L;rw[S] at g;cases g;rw[gn D] at C;cases C;exact⟨u,r,.inl ⟨F,by simp⟩⟩
   ·rw[iG (aj L)] at C;obtain⟨u',r',q⟩:=hl j y v' g C e3;refine⟨u',r',?_⟩;rcases q with⟨k,e⟩ | ⟨k,c,e,z⟩
    ·refine .inl ⟨k,?_⟩;have:y≠x:=λe=>L (Ob hN g (e▸S));simp[this,e]
    ·exact .inr ⟨k,c,e,z.sameBut f (cne y c e)⟩
  ·obtain⟨Y,z⟩:=I.cell y c e;exact⟨Y,z.sameBut f (cne y c e)⟩
  ·obtain⟨e,n,ne,nf,d⟩:=I.pin p hp;exact⟨(f.2 p.1 ne).trans e,n,ne,nf,d⟩
 ·have G:X.fn x=aC:=by
   rcases hf with z | z
   ·exact z
   ·rw[z] at F;cases F
  obtain⟨c,t⟩:=I.ok.has x (.inl F);obtain⟨Y,z⟩:=I.cell x c t;refine wpAny_storeName_cell I.ok.kind F t z (λN U f=>?_);obtain⟨oc,R,O⟩:=id z;refine h { s with heap:=N } ⟨I.ok,I.os,I.bare,⟨λb o e n J w=>?_,λb o e n J w=>?_,I.base.free,λb o e w=>?_,I.base.tups,I.base.frzs,I.base.tbls⟩,⟨m,hn.sameBut f (aj (cne x c t)),λj y v' g C e3=>?_⟩,λy W e=>?_,I.free,I.freeC,λp hp=>?_,l ⟨oc,R,I.freeC x c t⟩ f,by simpa using I.len⟩ ⟨c,f,.inr t⟩
  ·exact(f.2 b (az (a0 (aR e) (I.ok.cab x c G t)))).trans (I.base.keep b o e n J w)
  ·obtain⟨sl,g⟩:=I.base.slot b o e n J w;exact⟨sl,(f.2 b (az (a0 (aR e) (I.ok.cab x c G t)))).trans g⟩
  ·obtain⟨o',g⟩:=I.base.there b o e w;exact⟨o',(f.2 b (az (a0 (aR e) (I.ok.cab x c G t)))).trans g⟩
  ·by_cases L:j=i
   ·subst L;rw[S] at g;cases g;rw[gn D] at C;cases C;exact⟨u,r,.inr ⟨.inl F,c,t,U⟩⟩
   ·rw[iG (aj L)] at C;obtain⟨u',r',q⟩:=hl j y v' g C e3;refine⟨u',r',?_⟩;rcases q with q | ⟨k,W,e,z'⟩
    ·exact .inl q
    ·refine .inr ⟨k,W,e,z'.sameBut f ?_⟩;rintro rfl;exact L (Ob hN g (I.ok.inj _ _ _ e t▸S))
  ·by_cases T:W=c
   ·subst T;exact⟨_,U⟩
   ·obtain⟨w2,z2⟩:=I.cell y W e;exact⟨w2,z2.sameBut f T⟩
  ·obtain⟨e,n,ne,nf,d⟩:=I.pin p hp;refine⟨(f.2 p.1 ?_).trans e,n,ne,nf,d⟩;intro q;rw[q,R] at e;have q':oc=p.2:=av e;exact d Y (by rw[<-q'];exact O)
theorem SG{M:Model}{A:bj}{E:aF->aL->Prop}{i:Nat}{x:ah}{v:V}{u:aF}{Q:Unit->aL->Prop}(I:Inv X jz σ H s)(f:X.N.Nodup)(e:X.N[i]?=aA x)(b:Ig X.env.scope x)(r:RelV v u)
  (h:∀a,Inv X jz (σ.set i (aA v)) H a->Q () a) (c:X.fn x=aC\/X.env.scope.names.lookup x=aA .local:=by first | exact .inl rfl | exact .inr rfl | assumption):bB M A (storeName X.env x u) Q E s:=
 Lk I f e b r (λa d _=>h a d) c
theorem Inv.call'{a:aL}{ch:List aH}(I:Inv X jz σ H s)(h:a.os=s.os)(u:Un (Ni X.stack) ch H H' s.heap a.heap)(d:HOk X.prog X.w H' a.heap)(g:gm a.gens)
  (f:∀b∈ch,(b∈X.ex\/X.s₀.heap.objs.size<=b)/\b≠X.env.locals/\(∀x c,X.env.cells.lookup x=aA c->c≠b)/\∀p∈X.pn++jz,p.1≠b):Inv X jz σ H' a:=by
 obtain⟨i,l,k,t',j⟩:=a;have e:=h;subst e;exact I.call u d g f
end
abbrev XK:=aF->Option aH->Hp->Prop
abbrev St:=List (Option V)
abbrev VK:=V->Hp->Prop
abbrev TE:=St->Hp->VK->Prop
abbrev TT:=St->Hp->(Bool->Hp->Prop)->Prop
abbrev TA:=St->Hp->(List V->Hp->Prop)->Prop
structure YF where
 nx:St->Hp->Prop
 rt:VK
 bk:St->Hp->Prop:=λ_ _=>False
 ct:St->Hp->Prop:=λ_ _=>False
abbrev TS:=YF->St->Hp->Prop
noncomputable def EP(X:Cx)(jz:List (aH×cx))(σ:St)(Q:VK)(u:aF)(s':aL):Prop:=∃v H',Inv X jz σ H' s'/\RelV v u/\Q v H'
noncomputable def TP(X:Cx)(jz:List (aH×cx))(σ:St)(Q:Bool->Hp->Prop)(b:Bool)(s':aL):Prop:=∃H',Inv X jz σ H' s'/\Q b H'
noncomputable def AP(X:Cx)(jz:List (aH×cx))(σ:St)(Q:List V->Hp->Prop)(us:List aF)(s':aL):Prop:=∃vs H',Inv X jz σ H' s'/\Vals vs us/\Q vs H'
noncomputable def SP(X:Cx)(jz:List (aH×cx))(D:YF)(f:Flow)(s':aL):Prop:=
 match f with
 | .next=>∃σ' H',Inv X jz σ' H' s'/\D.nx σ' H'
 | .brk=>∃σ' H',Inv X jz σ' H' s'/\D.bk σ' H'
 | .cont=>∃σ' H',Inv X jz σ' H' s'/\D.ct σ' H'
 | .ret u=>∃v σ' H',Inv X jz σ' H' s'/\RelV v u/\D.rt v H'
noncomputable def PE(X:Cx)(e:au)(t:TE):Prop:=
 ∀(jz:List (aH×cx))(s:aL)(σ:St)(H:Hp)(Q:VK),Inv X jz σ H s->t σ H Q->bB (model X.prog X.w) X.A (eval e X.env) (EP X jz σ Q) X.xe s
noncomputable def PT(X:Cx)(e:au)(t:TT):Prop:=
 ∀(jz:List (aH×cx))(s:aL)(σ:St)(H:Hp)(Q:Bool->Hp->Prop),Inv X jz σ H s->t σ H Q->bB (model X.prog X.w) X.A (ja e X.env (eval e X.env)) (TP X jz σ Q) X.xe s
noncomputable def PW(X:Cx)(e:au)(t:TT):Prop:=
 ∀(whole:Sem aF)(jz:List (aH×cx))(s:aL)(σ:St)(H:Hp)(Q:Bool->Hp->Prop),Inv X jz σ H s->t σ H Q->bB (model X.prog X.w) X.A (ja e X.env whole) (TP X jz σ Q) X.xe s
theorem PW.pt{X:Cx}{e:au}{t:TT}(h:PW X e t):PT X e t:=h _
noncomputable def PA(X:Cx)(es:List au)(t:TA):Prop:=
 ∀(pos:di)(jz:List (aH×cx))(s:aL)(σ:St)(H:Hp)(Q:List V->Hp->Prop),Inv X jz σ H s->t σ H Q->bB (model X.prog X.w) X.A (spliced (dj pos (aT es X.env))) (AP X jz σ Q) X.xe s
noncomputable def PS(X:Cx)(st:b7)(t:TS):Prop:=
 ∀(jz:List (aH×cx))(s:aL)(σ:St)(H:Hp)(D:YF),Inv X jz σ H s->t D σ H->bB (model X.prog X.w) X.A (exec st X.env) (SP X jz D) X.xe s
noncomputable def PSs(X:Cx)(st:List b7)(t:TS):Prop:=
 ∀(jz:List (aH×cx))(s:aL)(σ:St)(H:Hp)(D:YF),Inv X jz σ H s->t D σ H->bB (model X.prog X.w) X.A (execs st X.env) (SP X jz D) X.xe s
theorem Yz{b:Type}{t:Sem b}{Q c:b->aL->Prop}{M:Model}{A:bj}{E:aF->aL->Prop}{s:aL}(h:bB M A t Q E s)(d:∀a s,Q a s->c a s):bB M A t c E s:=cQ h d λ_ _ x=>x
section
variable {X:Cx}
theorem bin{a b:au}{m l:TE}(t:PE X a m)(A:PE X b l){i:List (aH×cx)}{s:aL}{c:St}{H:Hp}{R:V->V->Hp->Prop}(I:Inv X i c H s)(h:m c H λx j=>l c j λy d=>R x y d)
  {k:Type} {Q:k->aL->Prop} {f:aF->aF->Sem k}
  (w:∀v u s2 x y d,Inv X i c d s2->RelV x v->RelV y u->R x y d->bB (model X.prog X.w) X.A (f v u) Q X.xe s2) :
  bB (model X.prog X.w) X.A (eval a X.env) (λv g=>bB (model X.prog X.w) X.A (eval b X.env) (λu e=>bB (model X.prog X.w) X.A (f v u) Q X.xe e) X.xe g) X.xe s:=by
 refine Yz (t i s c H _ I h) λv s1 ⟨x,j,p,z,q⟩=>?_;refine Yz (A i s1 c j _ p q) λu s2 ⟨y,d,n,o,r⟩=>?_;exact w v u s2 x y d n z o r
noncomputable def RW(i:Nat):TE:=λσ H Q=>∃v,σ[i]?=aA (aA v)/\Q v H
noncomputable def tC(v:V):TE:=λ_ H Q=>Q v H
theorem G4{i:Nat}{x:ah}{f:di}(w:X.N[i]?=aA x)(q:DJ X.env.scope x)(g:(x==("__debug__" : ah))=aB:=by decide)(j:(x==("__classdict__" : ah))=aB:=by decide):PE X (.Name x f) (RW i):=by
 intro y s n H Q I h;obtain⟨v,e,h⟩:=h;obtain⟨m,p,t⟩:=I.loc;obtain⟨u,r,l⟩:=t i x v w e q;have b:EP X y n Q u s:=⟨v,H,I,r,h⟩;rcases l with⟨d,o⟩ | ⟨d,c,k,a⟩
 ·exact jb (wpAny_loadName_local I.ok.kind d p o b) g
 ·rcases d with d | d
  ·exact jb (wpAny_loadName_cell I.ok.kind d k a b) g
  ·exact jb (wpAny_loadName_free I.ok.kind d k a b j) g
theorem G5{i j pos}:PE X (.Constant (.int i) j pos) (tC (.int i)):=λ_ _ _ H _ I h=>wpAny_Constant_int ⟨.int i,H,I.tok _,⟨_,rfl⟩,h⟩
theorem EG{b j pos}:PE X (.Constant (.bool b) j pos) (tC (.bl b)):=λ_ _ _ H _ I h=>Constant_bool ⟨.bl b,H,I,rfl,h⟩
theorem G6{j pos}:PE X (.Constant .none j pos) (tC .non):=λ_ _ _ H _ I h=>Constant_none ⟨.non,H,I,rfl,h⟩
noncomputable def Gl(X:Cx)(x:ah):Prop:=X.env.kindOf x=aA .globalImplicit
theorem Ih{E:aF->aL->Prop}{e:List (aH×cx)}{s:aL}{c:St}{H:Hp}{x:ah}{u:aF}{a:di}{Q:aF->aL->Prop}(I:Inv X e c H s)(b:Gl X x)(d:X.mg x=aA u)(h:Q u s)
  (f:(x==("__debug__" : ah))=aB:=by decide):bB (model X.prog X.w) X.A (eval (.Name x a) X.env) Q E s:=
 fu I.ok.kind b (Calls.loadGlobal_global (by rw[I.ok.glob];exact I.mod.glob.keeps I.bk) d h) f
theorem V5{E:aF->aL->Prop}{k:List (aH×cx)}{s:aL}{b:St}{H:Hp}{x:ah}{u:aF}{a:di}{Q:aF->aL->Prop}(I:Inv X k b H s)(j:Gl X x)(c:X.mg x=none)(i:cb x=aA u)(h:Q u s)
  (g:x≠"__name__":=by decide) (d:(x==("__debug__" : ah))=aB:=by decide):bB (model X.prog X.w) X.A (eval (.Name x a) X.env) Q E s:=by
 obtain⟨l,f,e⟩:=I.mod.blt;exact fu I.ok.kind j (Calls.loadGlobal_builtin (by rw[I.ok.glob];exact I.mod.glob.keeps I.bk) c (by rw[I.ok.blt];exact f.keeps I.bk) ((e x g).trans i) h) d
theorem Ii{x:ah}{v:V}{u:aF}{a:di}(b:Gl X x)(c:X.mg x=none)(e:cb x=aA u)(r:RelV v u)(d:x≠"__name__":=by decide)(f:(x==("__debug__" : ah))=aB:=by decide):PE X (.Name x a) (tC v):=
 λ_ _ _ H _ I h=>V5 I b c e ⟨v,H,I,r,h⟩ d f
variable {a b:au} {ta tb:TE} {pos:di}
noncomputable def PC(X:Cx)(op:jc)(a b:au)(t:TE):Prop:=
 ∀(jz:List (aH×cx))(s:aL)(σ:St)(H:Hp)(Q:VK),Inv X jz σ H s->t σ H Q->
  bB (model X.prog X.w) X.A (eval a X.env) (λv s₁=>bB (model X.prog X.w) X.A (eval b X.env) (λu s₂=>bB (model X.prog X.w) X.A (eO op v u) (EP X jz σ Q) X.xe s₂) X.xe s₁) X.xe s
theorem Ko(b:au){op:jc}(h:op≠.In)(a:op≠.NotIn):cz op b=aB:=by
 have c:(op==jc.In)=aB:=by cases op<;>first | rfl | exact absurd rfl h
 have d:(op==jc.NotIn)=aB:=by cases op<;>first | rfl | exact absurd rfl a
 cases b<;>simp[cz,c,d]
noncomputable def Gs(ta:TE):TE:=λσ H Q=>ta σ H λx H1=>Q (.bl (!decide (x = .non))) H1
theorem RelV.none_iff{x:V}{v:aF}(r:RelV x v):(v==aF.none)=decide (x = .non):=by
 cases x with
 | non=>cases r;rfl
 | bl _=>cases r;rfl
 | int _=>obtain⟨t,rfl⟩:=r;rfl
 | str _=>obtain⟨t,rfl⟩:=r;rfl
 | byt _=>obtain⟨t,rfl⟩:=r;rfl
 | flt _=>obtain⟨t,rfl⟩:=r;rfl
 | ref _=>cases r;rfl
 | ty _=>cases r;rfl
theorem Ij{j pos'}(d:PE X a ta):PC X .IsNot a (.Constant .none j pos') (Gs ta):=by intro e s c H Q I h;refine Yz (d e s c H _ I h) λv s1 ⟨x,g,f,i,b⟩=>?_;exact Constant_none (isnot_none_gen ⟨.bl _,g,f,by rw[i.none_iff];rfl,b⟩)
noncomputable def tB(t:TE):TT:=λσ H Q=>t σ H λx H1=>∃c,x = .bl c/\Q c H1
theorem G7{op:jc}{t:TE}(h:PC X op a b t)(e:cz op b=aB:=by first | exact Ko _ (by decide) (by decide) | rfl):PT X (.Compare a [op] [b] pos) (tB t):=by intro m s f H Q I g;refine iD (Yz (h m s f H _ I g) λv s1 e=>Yz e λu s2 l=>Yz l λc o ⟨x,j,i,n,k⟩=>?_) e;obtain⟨d,rfl,q⟩:=k;cases n;exact cS ⟨j,i,q⟩
theorem G8{e:au}{t:TE}(h:PE X e t)(k:∀whole,ja e X.env whole=(do let v <-whole;standAt e.pos;holding [v] (truthy v)):=by intro _;rfl):PT X e (tB t):=by intro i s a H Q I b;refine isTrue_plain (Yz (h i s a H _ I b) λv s1 ⟨x,f,c,j,g⟩=>?_) (k _);obtain⟨d,rfl,q⟩:=g;cases j;exact cS ⟨f,c,q⟩
variable {tA tB':TT} {Yh:List au}
noncomputable def EH(t u:TT):TT:=λσ H Q=>t σ H λc H1=>if c=aC then u σ H1 Q else Q aB H1
noncomputable def CT(t u:TT):TT:=λσ H Q=>t σ H λc H1=>if c=aC then Q aC H1 else u σ H1 Q
noncomputable def D7(t:TT):TT:=λσ H Q=>t σ H λc H1=>Q (!c) H1
theorem Ik(d:PT X a tA):PW X (.BoolOp .And [a] pos) tA:=by
 intro g f s b H Q I h;refine isTrue_and (Yz (d f s b H Q I h) λc s1 e=>?_)
 cases c with
 | true=>exact isTrue_and_nil e
 | false=>exact e
theorem G9(d:PT X a tA):PW X (.BoolOp .Or [a] pos) tA:=by
 intro g f s b H Q I h;refine isTrue_or (Yz (d f s b H Q I h) λc s1 e=>?_)
 cases c with
 | false=>exact isTrue_or_nil e
 | true=>exact e
theorem Fb(k:PT X a tA)(l:PW X (.BoolOp .And (b::Yh) pos) tB'):PW X (.BoolOp .And (a::b::Yh) pos) (EH tA tB'):=by
 intro j f s e H Q I h;refine isTrue_and (Yz (k f s e H _ I h) λc s1 ⟨i,g,d⟩=>?_)
 cases c with
 | true=>exact l j f s1 e i Q g d
 | false=>exact⟨i,g,d⟩
theorem EI(k:PT X a tA)(l:PW X (.BoolOp .Or (b::Yh) pos) tB'):PW X (.BoolOp .Or (a::b::Yh) pos) (CT tA tB'):=by
 intro j f s e H Q I h;refine isTrue_or (Yz (k f s e H _ I h) λc s1 ⟨i,g,d⟩=>?_)
 cases c with
 | true=>exact⟨i,g,d⟩
 | false=>exact l j f s1 e i Q g d
theorem Fc(d:PT X a tA):PT X (.UnaryOp .Not a pos) (D7 tA):=by intro e s b H Q I h;exact isTrue_not (d e s b H (λc f=>Q (!c) f) I h)
noncomputable def EJ(ta tb:TE):TE:=λσ H Q=>ta σ H λx H1=>∃c,x = .bl c/\if c=aC then tb σ H1 Q else Q (.bl aB) H1
noncomputable def EK(ta:TE):TE:=λσ H Q=>ta σ H λx H1=>∃c,x = .bl c/\Q (.bl (!c)) H1
theorem Fd{op}{t:TE}(h:PE X a t):PE X (.BoolOp op [a] pos) t:=λd s b H Q I c=>BoolOp_one (h d s b H Q I c)
theorem Fe(j:PE X a ta)(l:PE X (.BoolOp .And (b::Yh) pos) tb):PE X (.BoolOp .And (a::b::Yh) pos) (EJ ta tb):=by
 intro f s e H Q I h;refine BoolOp_and (Yz (j f s e H _ I h) λv s1 ⟨x,i,g,k,d⟩=>?_);obtain⟨c,rfl,d⟩:=d;cases k;refine cS ?_
 cases c with
 | true=>exact l f s1 e i Q g d
 | false=>exact⟨.bl aB,i,g,rfl,d⟩
theorem Ff(e:PE X a ta):PE X (.UnaryOp .Not a pos) (EK ta):=by intro f s d H Q I h;refine UnaryOp_ (Yz (e f s d H _ I h) λv s1 ⟨x,i,g,j,b⟩=>?_);obtain⟨c,rfl,b⟩:=b;cases j;exact not_of (cS ⟨.bl (!c),i,g,rfl,b⟩)
noncomputable def Ba(t:TT)(ta tb:TE):TE:=λσ H Q=>t σ H λc H1=>if c=aC then ta σ H1 Q else tb σ H1 Q
theorem Kp{c:au}(k:PT X c tA)(l:PE X a ta)(m:PE X b tb):PE X (.IfExp c a b pos) (Ba tA ta tb):=by
 intro f s e H Q I h;refine wpAny_IfExp (Yz (k f s e H _ I h) λd s1 ⟨j,i,g⟩=>?_)
 cases d with
 | true=>exact l f s1 e j Q i g
 | false=>exact m f s1 e j Q i g
end
noncomputable def SqL(K:aD)(H:Hp)(a:aH)(xs:List V):Prop:=
 Rd H a (.lst xs)\/
  ∃(o:cx) (k7:Array aF) (n:Nat),K.lookup a=aA o/\o.cls = .type "list"/\o.dict=none/\o.data = .seq k7 n/\k7.size<=sizeLine/\Vals xs k7.toList
noncomputable def SqT(K:aD)(H:Hp)(a:aH)(xs:List V):Prop:=
 Rd H a (.tup xs)\/
  ∃(o:cx) (k7:Array aF) (n:Nat),K.lookup a=aA o/\o.cls = .type "tuple"/\o.data = .seq k7 n/\k7.size<=sizeLine/\Vals xs k7.toList
noncomputable def D8:aF->Option V
 | .none=>aA .non
 | .bool b=>aA (.bl b)
 | .int i _=>aA (.int i)
 | .str x _=>aA (.str x)
 | .bytes b _=>aA (.byt b)
 | .float b _=>aA (.flt b)
 | .ref a=>aA (.ref a)
 | .type n=>aA (.ty n)
 | _=>none
theorem RelV.abs{x:V}{u:aF}(r:RelV x u):D8 u=aA x:=by
 cases x with
 | non=>cases r;rfl
 | bl _=>cases r;rfl
 | int _=>obtain⟨t,rfl⟩:=r;rfl
 | str _=>obtain⟨t,rfl⟩:=r;rfl
 | byt _=>obtain⟨t,rfl⟩:=r;rfl
 | flt _=>obtain⟨t,rfl⟩:=r;rfl
 | ref _=>cases r;rfl
 | ty _=>cases r;rfl
theorem RelV.inj{x y:V}{u:aF}(r:RelV x u)(q:RelV y u):x=y:=av (r.abs.symm.trans q.abs)
theorem Vals.inj:∀{xs ys:List V}{us:List aF},Vals xs us->Vals ys us->xs=ys
 | _,_,_,.nil,.nil=>rfl
 | _,_,_,.cons r t,.cons r' t'=>by rw[r.inj r',Vals.inj t t']
section
variable {X:Cx} {jz:List (aH×cx)} {σ:St} {H:Hp} {s:aL} {a:aH} {xs ys:List V}
theorem SqL.of{K:aD}(h:H a=aA (.lst xs)):SqL K H a xs:=.inl (.inl h)
theorem SqT.of{K:aD}(h:H a=aA (.tup xs)):SqT K H a xs:=.inl (.inl h)
theorem Inv.list(I:Inv X jz σ H s)(h:SqL X.K H a xs):∃b:List aF,Vals xs b/\PlainL s.heap a b.toArray/\xs.length<=sizeLine:=by
 rcases h with h | ⟨o,b,n,g,c,f,d,i,r⟩
 ·obtain⟨z,b,n,r,e⟩:=h.ok I.hok;exact⟨b,r,⟨_,n,e,rfl,rfl,rfl⟩,z⟩
 ·refine⟨b.toList,r,⟨o,n,I.kIn a o g,c,f,by simpa using d⟩,?_⟩;have e:=r.length;simp only[eA] at e;omega
theorem Inv.tuple(I:Inv X jz σ H s)(h:SqT X.K H a xs):∃b:List aF,Vals xs b/\IsTup s.heap a b.toArray/\xs.length<=sizeLine:=by
 rcases h with h | ⟨o,b,n,f,c,d,g,r⟩
 ·obtain⟨z,b,r,p⟩:=h.ok I.hok;exact⟨b,r,p,z.1⟩
 ·refine⟨b.toList,r,⟨o,I.kIn a o f,c,n,by simpa using d⟩,?_⟩;have e:=r.length;simp only[eA] at e;omega
theorem Inv.list_inj(I:Inv X jz σ H s)(h:SqL X.K H a xs)(g:SqL X.K H a ys):xs=ys:=by
 obtain⟨i,r,⟨o,n,e,_,_,d⟩,_⟩:=I.list h;obtain⟨b,j,⟨l,k,c,_,_,f⟩,_⟩:=I.list g;rw[e] at c;cases c;rw[d] at f;injection f with d1 _
 have:i=b:=by simpa using congrArg jt d1
 subst this;exact r.inj j
theorem Inv.tuple_inj(I:Inv X jz σ H s)(h:SqT X.K H a xs)(g:SqT X.K H a ys):xs=ys:=by
 obtain⟨i,r,⟨o,e,_,n,d⟩,_⟩:=I.tuple h;obtain⟨b,j,⟨l,c,_,k,f⟩,_⟩:=I.tuple g;rw[e] at c;cases c;rw[d] at f;injection f with d1 _
 have:i=b:=by simpa using congrArg jt d1
 subst this;exact r.inj j
end
abbrev Cx.wish(X:Cx)(E:aF->aL->Prop):Cx:={ X with xe:=E }
abbrev Cx.nox(X:Cx):Cx:=X.wish λ_ _=>False
theorem Cx.Ok.wish{X:Cx}(ok:X.Ok)(E:aF->aL->Prop):(X.wish E).Ok:=
 ⟨ok.mod,ok.kind,ok.glob,ok.blt,ok.above,ok.inj,ok.has,ok.cab,ok.hd,ok.frames,ok.stk,ok.exf,ok.bs,ok.bsz,ok.noex,ok.exfs,ok.funs,ok.frf,ok.tab,ok.cod⟩
theorem Cx.Ok.unwish{X:Cx}{E:aF->aL->Prop}(ok:(X.wish E).Ok):X.Ok:=
 ⟨ok.mod,ok.kind,ok.glob,ok.blt,ok.above,ok.inj,ok.has,ok.cab,ok.hd,ok.frames,ok.stk,ok.exf,ok.bs,ok.bsz,ok.noex,ok.exfs,ok.funs,ok.frf,ok.tab,ok.cod⟩
section
variable {X:Cx} {jz:List (aH×cx)} {σ:St} {H:Hp} {s:aL} {E:aF->aL->Prop}
theorem Inv.wish(I:Inv X jz σ H s)(E:aF->aL->Prop):Inv (X.wish E) jz σ H s:=⟨I.ok.wish E,I.os,I.bare,I.base,I.loc,I.cell,I.free,I.freeC,I.pin,I.hok,I.len⟩
theorem Inv.unwish(I:Inv (X.wish E) jz σ H s):Inv X jz σ H s:=⟨I.ok.unwish,I.os,I.bare,I.base,I.loc,I.cell,I.free,I.freeC,I.pin,I.hok,I.len⟩
theorem SP.unwish{D:YF}{f:Flow}{c:aL}(h:SP (X.wish E) jz D f c):SP X jz D f c:=by
 cases f with
 | next=>obtain⟨a,b,I,q⟩:=h;exact⟨a,b,I.unwish,q⟩
 | brk=>obtain⟨a,b,I,q⟩:=h;exact⟨a,b,I.unwish,q⟩
 | cont=>obtain⟨a,b,I,q⟩:=h;exact⟨a,b,I.unwish,q⟩
 | ret u=>obtain⟨v,a,b,I,r,q⟩:=h;exact⟨v,a,b,I.unwish,r,q⟩
theorem PSs.nox{st:List b7}{t:TS}(h:PSs X.nox st t):PSs X st t:=λc s a H D I b=>
 cQ (h c s a H D (I.wish _) b) (λ_ _ q=>q.unwish) λ_ _ z=>dW z
end
section
variable {X:Cx} {st:b7} {Yh:List b7} {t u:TS} {e:au} {te:TE} {pos:di}
noncomputable def Gu:TS:=λD σ H=>D.nx σ H
noncomputable def D9(t u:TS):TS:=λD σ H=>t { D with nx:=u D } σ H
theorem Il:PSs X [] Gu:=λ_ _ a H _ I h=>fQ ⟨a,H,I,h⟩
theorem Oc(g:PS X st t)(c:PSs X Yh u):PSs X (st::Yh) (D9 t u):=by
 intro b s d H D I h;refine wpAny_execs_cons (Yz (g b s d H { D with nx:=u D } I h) λf s1 q=>?_)
 cases f with
 | next=>
  obtain⟨a,e,i,q⟩:=q;exact c b s1 a e D i q
 | ret v=>exact q
 | brk=>exact q
 | cont=>exact q
theorem My(b:PS X st t):PSs X [st] t:=by
 intro c s a H D I h;refine wpAny_execs_cons (Yz (b c s a H D I h) λf s1 q=>?_)
 cases f with
 | next=>exact fQ q
 | ret v=>exact q
 | brk=>exact q
 | cont=>exact q
theorem Inv.quiet{b:List (aH×cx)}{a:St}{H:Hp}{s:aL}(I:Inv X b a H s):interactive X.env=aB:=by simp[interactive,I.ok.kind]
noncomputable def Mz(te:TE):TS:=λD σ H=>te σ H λ_ H1=>D.nx σ H1
theorem So(i:PE X e te)(g:f9 e none pos.line X.env=pure aB:=by rfl):PS X (.Expr e pos) (Mz te):=by intro c s a H D I h;exact wpAny_Expr_any (Yz (i c s a H _ I h) λv s1 ⟨x,f,d,j,b⟩=>⟨a,f,d,b⟩) I.quiet g
noncomputable def Ca(te:TE):TS:=λD σ H=>te σ H D.rt
theorem Nk(i:PE X e te):PS X (.Return (aA e) pos) (Ca te):=by intro c s a H D I h;exact wpAny_Return_some (Yz (i c s a H _ I h) λv s1 ⟨x,f,d,g,b⟩=>⟨x,a,f,d,g,b⟩)
noncomputable def Cb(c:TT)(t u:TS):TS:=λD σ H=>c σ H λb H1=>if b=aC then t D σ H1 else u D σ H1
theorem EL{c:au}{a b:List b7}{k:TT}(l:PT X c k)(m:PSs X a t)(n:PSs X b u):PS X (.If c a b pos) (Cb k t u):=by
 intro f s e H D I h;refine wpAny_If (Yz (l f s e H _ I h) λd s1 ⟨i,g,j⟩=>?_)
 cases d with
 | true=>exact m f s1 e i D g j
 | false=>exact n f s1 e i D g j
end
abbrev TG:=V->St->Hp->(St->Hp->Prop)->Prop
abbrev Gv:=List V->St->Hp->(St->Hp->Prop)->Prop
noncomputable def PG(X:Cx)(target:au)(t:TG):Prop:=
 ∀(jz:List (aH×cx))(s:aL)(σ:St)(H:Hp)(v:V)(u:aF)(Q:St->Hp->Prop),Inv X jz σ H s->RelV v u->t v σ H Q->
  bB (model X.prog X.w) X.A (assign target X.env u) (λ_ s'=>∃σ' H',Inv X jz σ' H' s'/\Q σ' H') X.xe s
noncomputable def DK(X:Cx)(ts:List au)(t:Gv):Prop:=
 ∀(jz:List (aH×cx))(s:aL)(σ:St)(H:Hp)(vs:List V)(us:List aF)(Q:St->Hp->Prop),Inv X jz σ H s->Vals vs us->t vs σ H Q->
  bB (model X.prog X.w) X.A (assignInOrder ((gA ts X.env).map (·.2)) us) (λ_ s'=>∃σ' H',Inv X jz σ' H' s'/\Q σ' H') X.xe s
abbrev Fg:=V->V->V->Hp->(Hp->Prop)->Prop
noncomputable def EM(X:Cx)(t:Fg):Prop:=
 ∀(jz:List (aH×cx))(s:aL)(σ:St)(H:Hp)(o i v:V)(ov iv u:aF)(Q:Hp->Prop),Inv X jz σ H s->RelV o ov->RelV i iv->RelV v u->t o i v H Q->
  bB (model X.prog X.w) X.A (setItem ov iv u) (λ_ s'=>∃H',Inv X jz σ H' s'/\Q H') X.xe s
section
variable {X:Cx} {pos:di}
noncomputable def Uu(i:Nat):TG:=λv σ H Q=>Q (σ.set i (aA v)) H
theorem Sq{i:Nat}{x:ah}(e:X.N.Nodup)(d:X.N[i]?=aA x)(a:Ig X.env.scope x)(b:X.fn x=aC\/X.env.scope.names.lookup x=aA .local:=by first | exact .inl rfl | exact .inr rfl | assumption):PG X (.Name x pos) (Uu i):=by intro g s f H v u Q I r h;exact wpAny_assign_Name (SG I e d a r (λj c=>⟨_,H,c,h⟩) b)
noncomputable def EN:Gv:=λvs σ H Q=>vs=[]/\Q σ H
noncomputable def Gw(t:TG)(u:Gv):Gv:=λvs σ H Q=>∃v r,vs=v::r/\t v σ H λσ' H'=>u r σ' H' Q
theorem Wo:DK X [] EN:=by intro b s a H vs c Q I r h;obtain⟨e,h⟩:=h;subst e;cases r;exact assignInOrder_nil ⟨a,H,I,h⟩
theorem Yb{e:au}{a:List au}{t:TG}{u:Gv}(m:PG X e t)(l:DK X a u)
  (j:(gA (e::a) X.env).map (·.2)=assign e X.env::(gA a X.env).map (·.2):=by rfl):DK X (e::a) (Gw t u):=by
 intro c s d H vs n Q I r h;obtain⟨v,o,f,h⟩:=h;subst f
 cases r with
 | cons r rr=>
  rw[j];refine assignInOrder_cons (Yz (m c s d H _ _ _ I r h) λ_ s1 ⟨b,i,g,k⟩=>?_);exact l c s1 b i _ _ Q g rr k
noncomputable def EO(K:aD)(n:Nat)(t:Gv):TG:=λv σ H Q=>∃a xs,v = .ref a/\SqT K H a xs/\xs.length=n/\t xs σ H Q
theorem V6{c:List au}{k:Nat}{t:Gv}{n:Nat}(m:X.calm=aC)(h:DK X c t)
  (y:(gA c X.env).length=n:=by rfl) (f:(gA c X.env).findIdx? (·.1)=none:=by rfl):PG X (.Tuple c k pos) (EO X.K n t):=by
 intro A s i H v u Q I r d;obtain⟨a,p,j,q,z,d⟩:=d;subst j;cases r;obtain⟨C,g,w,D⟩:=I.tuple q;refine assign_Tuple_tuple (I.ok.hd m) w (by simp[y,<-z,g.length]) f λB x=>?_;have l:=I.kept (t':=s.toks) λb o e=>x b o (az (aR e)) e;exact h A _ i H p _ Q l (by simpa using g) d
noncomputable def Fh(to ti:TE)(t:Fg):TG:=λv σ H Q=>to σ H λo H1=>ti σ H1 λi H2=>t o i v H2 λH3=>Q σ H3
theorem Vg{o i:au}{e f:TE}{t:Fg}(q:PE X o e)(B:PE X i f)(m:EM X t)
  (F:∀v,assign (.Subscript o i pos) X.env v=(do
   let a <-holding [v] (eval o X.env);let b <-holding [v,a] (eval i X.env)
   standAt pos
   holding [v,a,b] (setItem a b v)
   release [v,a,b] []):=by intro _;rfl):PG X (.Subscript o i pos) (Fh e f t):=by
 intro d s c H v u Q I r h;refine aJ (gX (Yz (q d s c H _ I h) λa s1 ⟨x,l,k,D,n⟩=>?_));refine aJ (gX (Yz (B d s1 c l _ k n) λb s2 ⟨y,C,g,j,z⟩=>?_));refine aJ (i6 (aJ (gX (Yz (m d s2 c C x y v a b u _ g D j r z) λ_ E ⟨A,p,w⟩=>?_))));exact wpAny_release ⟨c,A,p,w⟩
noncomputable def Nl(te:TE)(g:TG):TS:=λD σ H=>te σ H λx H1=>g x σ H1 D.nx
theorem Vh{a e:au}{b:TE}{g:TG}(p:PE X e b)(n:PG X a g)(k:swapsWithSole [a] e pos.line X.env=pure aB:=by rfl)(f:swappedStores [a] e X.env=pure none:=by rfl)
  (m:(gA [a] X.env).map (·.2)=[assign a X.env]:=by rfl):PS X (.Assign [a] e pos) (Nl b g):=by
 intro d s c H D I h;refine wpAny_Assign_stores (Yz (p d s c H _ I h) λv s1 ⟨x,j,i,o,l⟩=>?_) k f;rw[m];exact Yz (n d s1 c j x v _ i o l) λ_ s2 q=>q
theorem Fi{i:Nat}{x:ah}{e:au}{b:TE}{a:di}(n:X.N.Nodup)(m:X.N[i]?=aA x)(l:Ig X.env.scope x)(r:PE X e b)(j:f9 e (aA (.Name x a)) pos.line X.env=pure aB:=by rfl)(o:X.fn x=aC\/X.env.scope.names.lookup x=aA .local:=by first | exact .inl rfl | exact .inr rfl | assumption) :
  PS X (.Assign [.Name x a] e pos) (Nl b (Uu i)):=by
 intro p s d H D I h;refine wpAny_Assign_Name (Yz (r p s d H _ I h) λv s1 ⟨y,g,f,q,k⟩=>?_) j;exact SG f n m l q (λs2 c=>⟨_,g,c,k⟩) o
end
section
variable {X:Cx} {pos:di}
noncomputable def Fj(c:TT)(tb:TS):TS:=λD σ H=>∃W:Nat->St->Hp->Prop,(∃m,W m σ H)/\∀m σ H,W m σ H->
 c σ H λb H1=>if b=aC then ∃N:St->Hp->Prop,(∀σ' H',N σ' H'->∃m',m'<m/\W m' σ' H')/\tb { D with nx:=N,ct:=N,bk:=D.nx } σ H1 else D.nx σ H1
theorem Kq{c:au}{e:List b7}{u:TT}{x:TS}(w:iV (model X.prog X.w) X.A X.env X.xe)(E:PT X c u)(L:PSs X e x):PS X (.While c e [] pos) (Fj u x):=by
 intro p s A H D I h;obtain⟨W,⟨B,J⟩,turn⟩:=h;refine wpAny_While (codeAny_whileLoop (λn F=>∃σ' H',Inv X p σ' H' F/\W n σ' H') ?_ B ⟨A,H,I,J⟩);rintro n s1 ⟨d,t,C,G⟩;refine dH w (Yz (E p s1 d t _ C (turn n d t G)) λb s2 ⟨z,r,j⟩=>?_)
 cases b with
 | true=>
  obtain⟨N,y,j⟩:=j;refine dH w (Yz (L p s2 d z _ r j) λf M i=>?_)
  cases f with
  | next=>
   obtain⟨a,g,m,o⟩:=i;obtain⟨k,l,q⟩:=y a g o;exact⟨k,l,a,g,m,q⟩
  | cont=>
   obtain⟨a,g,m,o⟩:=i;obtain⟨k,l,q⟩:=y a g o;exact⟨k,l,a,g,m,q⟩
  | brk=>exact i
  | ret v=>exact i
 | false=>
  exact fQ ⟨d,z,r,j⟩
end
structure It where
 go:Nat->Hp->Prop
 yld:Nat->Hp->V->Hp->Prop
 stop:Nat->Hp->Prop
noncomputable def Wq(X:Cx)(jz:List (aH×cx))(H:Hp)(b:aH):Prop:=
 H b=none/\b≠X.env.locals/\b∉X.fs/\(b∈X.ex\/X.s₀.heap.objs.size<=b)/\(∀x c,X.env.cells.lookup x=aA c->c≠b)/\∀p∈X.pn++jz,p.1≠b
theorem Inv.fpOk{X:Cx}{f:List (aH×cx)}{h:St}{H d:Hp}{s:aL}{b:aH}(I:Inv X f h H s)(a:s.heap.objs.size<=b)(i:d b=none):Wq X f d b:=by
 refine⟨i,du (a0 I.lt a),I.nofs a,.inr (aS I.sz a),λx c e z=>?_,λp g z=>?_⟩
 ·obtain⟨v,q⟩:=I.cell x c e;exact absurd (a0 q.lt (by rw[z];exact a)) (br _)
 ·exact absurd (a0 (aR (I.pin p g).1) (by rw[z];exact a)) (br _)
structure QU(P:bM)(w:bz)(K:aD)(tg:au)(J:It)(fp:List aH)(it:aH)(tn:Nat->bU->Prop):Prop where
 mem:it∈fp
 obj:∀i h,tn i h->∀b∈fp,∃o,h.get? b=aA o/\∀v,o.data≠.cell v
 keep:∀i h h',tn i h->(∀b∈fp,∀o,h.get? b=aA o->h'.get? b=aA o)->tn i h'
 item:∀(X:Cx),X.prog=P->X.w=w->X.K=K->X.calm=aC->∀(i:Nat)(jz:List (aH×cx))(s:aL)(σ:St)(H:Hp)(E:aF->aL->Prop),Inv X jz σ H s->(∀b∈fp,Wq X jz H b)->tn i s.heap->J.go i H->
  bB (model P w) X.A (ju (.ref it)) (λr s1=>∃u,r=aA u/\
   bB (model P w) X.A (hU tg (.ref it) u) (λ_ s2=>∃x H',Inv X jz σ H' s2/\RelV x u/\J.yld i H x H'/\tn (i+1) s2.heap/\∀b∈fp,H' b=none) E s1) E s
 done:∀(X:Cx),X.prog=P->X.w=w->X.K=K->X.calm=aC->∀(i:Nat)(jz:List (aH×cx))(s:aL)(σ:St)(H:Hp)(E:aF->aL->Prop),Inv X jz σ H s->(∀b∈fp,Wq X jz H b)->tn i s.heap->J.stop i H->
  bB (model P w) X.A (ju (.ref it)) (λr s1=>r=none/\Inv X jz σ H s1) E s
 self:∀(A:bj)(i:Nat)(s:aL)(Q:aF->aL->Prop)(E:aF->aL->Prop),tn i s.heap->Q (.ref it) s->bB (model P w) A (pyIter (.ref it)) Q E s
abbrev TI:=St->Hp->(It->Hp->Prop)->Prop
noncomputable def CU(X:Cx)(jz:List (aH×cx))(σ:St)(tg:au)(R:It->Hp->Prop)(itv:aF)(s2:aL):Prop:=
 ∃(it:aH) (fp:List aH) (tn:Nat->bU->Prop) (J:It) (H':Hp),itv = .ref it/\Inv X jz σ H' s2/\QU X.prog X.w X.K tg J fp it tn/\tn 0 s2.heap/\(∀b∈fp,Wq X jz H' b)/\R J H'
noncomputable def PI(X:Cx)(tg iter:au)(wi:TI):Prop:=
 ∀(jz:List (aH×cx))(s:aL)(σ:St)(H:Hp)(R:It->Hp->Prop),Inv X jz σ H s->wi σ H R->
  bB (model X.prog X.w) X.A (eval iter X.env) (λv s1=>bB (model X.prog X.w) X.A (pyIter v) (CU X jz σ tg R) X.xe s1) X.xe s
theorem Kr{M:Model}{A:bj}{E:aF->aL->Prop}{s:aL}{c:au}{b:aH}{u:aF}{o:cx}{n:String}{vs:Array aF}{Q:Unit->aL->Prop}(f:s.heap.get? b=aA o)(d:o.cls = .type n)(g:o.data = .fields vs)
    (e:["enumerate","zip","dict_itemiterator","dict_reverseitemiterator","odict_iterator","itertools.zip_longest","itertools.pairwise"].contains n=aB) (a:Q () s):bB M A (hU c (.ref b) u) Q E s:=by
  cases c<;>first
    | exact ag a
    | (cases u<;>first
        | exact ag a
        | (refine aJ (wpAny_load f ?_)
           rw[d,g];show bB M A (if(["enumerate","zip","dict_itemiterator","dict_reverseitemiterator","odict_iterator","itertools.zip_longest","itertools.pairwise"].contains n&&vs[0]?==aA (iH _))=aC then _ else _) Q E s;rw[k9 (by intro h;rw[e] at h;cases h)];exact ag a))
noncomputable def Cc(K:aD)(a:aH):It:=
 ⟨λi H=>∃xs x,SqL K H a xs/\xs[i]?=aA x,λi H x H'=>H'=H/\∀xs,SqL K H a xs->xs[i]?=aA x,λi H=>∃xs,SqL K H a xs/\xs.length<=i⟩
noncomputable def CV(K:aD)(a:aH):It:=
 ⟨λi H=>∃xs x,SqT K H a xs/\xs[i]?=aA x,λi H x H'=>H'=H/\∀xs,SqT K H a xs->xs[i]?=aA x,λi H=>∃xs,SqT K H a xs/\xs.length<=i⟩
noncomputable def ER(lo:Int)(n:Nat):It:=⟨λi _=>i<n,λi H x H'=>H'=H/\x = .int (lo+i),λi _=>n<=i⟩
theorem Ll{P:bM}{w:bz}{K:aD}{W:au}(a f:aH):QU P w K W (Cc K a) [f] f (λi h=>h.IsListIter f a i) where
 mem:=by simp
 obj:=λi h st b g=>by
  have e:b=f:=by simpa using g
  subst e;obtain⟨o,e,c,d⟩:=st;exact⟨o,e,λv z=>by rw[d] at z;cases z⟩
 keep:=λi h G st k=>st.at λo e=>k f (by simp) o e
 item:=by intro X r q y J i Z s L H E I m st C;subst r q y;obtain⟨R,x,l,B⟩:=C;obtain⟨Q,t,p,U⟩:=I.list l;obtain⟨u,T,M⟩:=t.get B;obtain⟨A,f1,f2,F,D,n⟩:=m f (by simp);refine wpAny_pyNext_list_item st p.isList (by simpa using T) λG j N=>?_;have O:=I.turned (t':=s.toks) (λb o g e=>(N.2 b g).trans e) A f1 F D n;obtain⟨o,e,c,d⟩:=id j;exact⟨u,rfl,Kr e c d rfl ⟨x,H,O,M,⟨rfl,λys Y=>by rw[I.list_inj Y l];exact B⟩,j,λb g=>(m b g).1⟩⟩
 done:=by intro X r q y J i Z s L H E I m st C;subst r q y;obtain⟨R,l,B⟩:=C;obtain⟨Q,t,p,U⟩:=I.list l;obtain⟨A,f1,f2,F,D,n⟩:=m f (by simp);have hl:=t.length;exact wpAny_pyNext_list_end (I.ok.hd J) st p.isList (by simp;omega) λG S=>⟨rfl,I.turned (λb o g e=>S b o g e) A f1 F D n⟩
 self:=λ_ _ _ _ _ st h=>wpAny_pyIter_listiter st h
theorem Nm{P:bM}{w:bz}{K:aD}{W:au}(a f:aH):QU P w K W (CV K a) [f] f (λi h=>h.IsTupleIter f a i) where
 mem:=by simp
 obj:=λi h st b g=>by
  have e:b=f:=by simpa using g
  subst e;obtain⟨o,e,c,d⟩:=st;exact⟨o,e,λv z=>by rw[d] at z;cases z⟩
 keep:=λi h G st k=>st.at λo e=>k f (by simp) o e
 item:=by intro X r q y J i Z s L H E I m st C;subst r q y;obtain⟨R,x,l,B⟩:=C;obtain⟨Q,t,p,U⟩:=I.tuple l;obtain⟨u,T,M⟩:=t.get B;obtain⟨A,f1,f2,F,D,n⟩:=m f (by simp);refine wpAny_pyNext_tuple_item st (p) (by simpa using T) λG j N=>?_;have O:=I.turned (t':=s.toks) (λb o g e=>(N.2 b g).trans e) A f1 F D n;obtain⟨o,e,c,d⟩:=id j;exact⟨u,rfl,Kr e c d rfl ⟨x,H,O,M,⟨rfl,λys Y=>by rw[I.tuple_inj Y l];exact B⟩,j,λb g=>(m b g).1⟩⟩
 done:=by intro X r q y J i Z s L H E I m st C;subst r q y;obtain⟨R,l,B⟩:=C;obtain⟨Q,t,p,U⟩:=I.tuple l;obtain⟨A,f1,f2,F,D,n⟩:=m f (by simp);have hl:=t.length;exact wpAny_pyNext_tuple_end (I.ok.hd J) st (p) (by simp;omega) λG S=>⟨rfl,I.turned (λb o g e=>S b o g e) A f1 F D n⟩
 self:=λ_ _ _ _ _ st h=>wpAny_pyIter_tupleiter st h
theorem Nn{P:bM}{w:bz}{K:aD}{J:au}(a:aH)(lo:Int)(n:Nat):QU P w K J (ER lo n) [a] a (λi h=>IsRangeIter h a (lo+(i:Nat)*1) ((n:Int)-(i:Nat)) 1) where
 mem:=by simp
 obj:=λi h st b c=>by
  have e:b=a:=by simpa using c
  subst e
  exact⟨_,st,λv z=>by
   have C:=z;cases C⟩
 keep:=λi h j st k=>k a (by simp) _ st
 item:=by intro X y u A l i B s x H E I f st p;subst y u A;obtain⟨m,f1,f2,r,q,g⟩:=f a (by simp);have W:=Walks.range (prog:=X.prog) (w:=X.w) (I.ok.hd l) a lo 1 n;refine W.item i s _ _ p st λv j tk G d kk=>?_;obtain⟨t,rfl⟩:=G;have D:Inv X B x H { s with heap:=j,toks:=tk }:=I.turned (λb o c e=>kk b o (by simpa using c) e) m f1 r q g;refine⟨_,rfl,Kr d rfl rfl rfl ⟨.int (lo+i),H,D,⟨t,?_⟩,⟨rfl,rfl⟩,d,λb c=>(f b c).1⟩⟩;rw[dU]
 done:=by intro X y u A l i B s x H E I f st p;obtain⟨m,f1,f2,r,q,g⟩:=f a (by simp);exact wpAny_pyNext_range_end (I.ok.hd l) st (by have:n<=i:=p;omega) λj F=>⟨rfl,I.turned (λb o c e=>F b o c e) m f1 r q g⟩
 self:=λ_ _ _ _ _ st h=>wpAny_pyIter_rangeiter st h
section
variable {X:Cx} {tg:au}
noncomputable def ES(K:aD)(tl:TE):TI:=λσ H R=>tl σ H λx H1=>∃a,x = .ref a/\(∃xs,SqL K H1 a xs)/\R (Cc K a) H1
noncomputable def Cd(K:aD)(tl:TE):TI:=λσ H R=>tl σ H λx H1=>∃a,x = .ref a/\(∃xs,SqT K H1 a xs)/\R (CV K a) H1
theorem Im{l:au}{d:TE}(m:PE X l d):PI X tg l (ES X.K d):=by
 intro n s f H R I h;refine Yz (m n s f H _ I h) λv s1 ⟨x,g,c,r,j⟩=>?_;obtain⟨a,e,⟨w,k⟩,q⟩:=j;subst e;cases r;obtain⟨u,t,p,y⟩:=c.list k;refine wpAny_pyIter_list p.isList ?_;refine⟨s1.heap.objs.size,[s1.heap.objs.size],_,_,g,rfl,c.kept λb o e=>aE _ e,Ll a _,⟨_,aZ _ rfl,rfl,rfl⟩,λb i=>?_,q⟩;have e:b=s1.heap.objs.size:=by simpa using i
 subst e;exact c.fpOk (aG _) (c.hok.fresh (aG _))
theorem Fl{l:au}{d:TE}(m:PE X l d):PI X tg l (Cd X.K d):=by
 intro n s f H R I h;refine Yz (m n s f H _ I h) λv s1 ⟨x,g,c,r,j⟩=>?_;obtain⟨a,e,⟨w,k⟩,q⟩:=j;subst e;cases r;obtain⟨u,t,p,y⟩:=c.tuple k;refine ie (p) ?_;refine⟨s1.heap.objs.size,[s1.heap.objs.size],_,_,g,rfl,c.kept λb o e=>aE _ e,Nm a _,⟨_,aZ _ rfl,rfl,rfl⟩,λb i=>?_,q⟩;have e:b=s1.heap.objs.size:=by simpa using i
 subst e;exact c.fpOk (aG _) (c.hok.fresh (aG _))
theorem Od{f:List (aH×cx)}{c:St}{H:Hp}{s:aL}{R:It->Hp->Prop}{E:aF->aL->Prop}{lo a:Int}{t u v:Tok}{tk:Nat}(I:Inv X f c H s)(j : -(2^62)<=lo)(i:lo<2^62)(k : -(2^62)<=a)(m:a<2^62)
  (q:R (ER lo (a-lo).toNat) H):bB (model X.prog X.w) X.A (pyIter (.ref s.heap.objs.size)) (CU X f c tg R) E { s with heap:=s.heap.push { cls:=.type "range",data:=.fields #[.int lo t,.int a u,.int 1 v] },toks:=tk }:=by
 refine wpAny_pyIter_range (IsRange.new ..) (small_one j i k m) ?_;have d:Inv X f c H { s with heap:=s.heap.push { cls:=.type "range",data:=.fields #[.int lo t,.int a u,.int 1 v] },toks:=tk }:=I.kept λb o e=>aE _ e
 refine⟨(s.heap.push { cls:=.type "range",data:=.fields #[.int lo t,.int a u,.int 1 v] }).objs.size,[(s.heap.push { cls:=.type "range",data:=.fields #[.int lo t,.int a u,.int 1 v] }).objs.size],_,_,H,rfl,
  d.kept λb o e=>aE _ e,Nn _ lo (a-lo).toNat,?_,λb h=>?_,q⟩
 ·have g:lo+((0:Nat):Int)*1=lo:=by simp
  have l:(((a-lo).toNat:Nat):Int)-((0:Nat):Int)=iX.Range.rangeSize lo a 1:=by rw[rangeSize_one];split<;>omega
  rw[g,l];exact aZ _ rfl
 ·have e:b=(s.heap.push { cls:=.type "range",data:=.fields #[.int lo t,.int a u,.int 1 v] }).objs.size:=by simpa using h
  subst e;exact d.fpOk (aG _) (d.hok.fresh (aG _))
noncomputable def ET(ta:TA):TI:=λσ H R=>ta σ H λvs H1=>∃j:Int,vs=[.int j]/\-(2^62)<=j/\j<2^62/\R (ER 0 j.toNat) H1
noncomputable def EU(ta:TA):TI:=λσ H R=>ta σ H λvs H1=>∃i j:Int,vs=[.int i,.int j]/\(-(2^62)<=i/\i<2^62/\-(2^62)<=j/\j<2^62)/\R (ER i (j-i).toNat) H1
theorem Lm{a:au}{d:TA}{p b:di}(m:Gl X "range")(g:X.mg "range" = none)(n:PA X [a] d)(k:aT [a] X.env=[(aB,eval a X.env)]:=by rfl):PI X tg (.Call (.Name "range" p) [a] [] b) (ET d):=by
 intro o s f H R I h;refine Call_ (V5 I m g boot_range (cN (Yz (n b o s f H _ I h) λw s1 ⟨vs,v,i,u,c⟩=>?_) k rfl));obtain⟨j,e,c,l,q⟩:=c;subst e
 cases u with
 | cons r rr=>
  cases rr;obtain⟨t,rfl⟩:=r;exact call_range_1 (Od i (by omega) (by omega) c l (by simpa using q))
theorem Ln{a b:au}{g:TA}{p c:di}(w:Gl X "range")(l:X.mg "range" = none)(x:PA X [a,b] g)(n:aT [a,b] X.env=[(aB,eval a X.env),(aB,eval b X.env)]:=by rfl)(d:aT [b] X.env=[(aB,eval b X.env)]:=by rfl) :
  PI X tg (.Call (.Name "range" p) [a,b] [] c) (EU g):=by
 intro y s k H R I h;refine Call_ (V5 I w l boot_range (cN (Yz (x c y s k H _ I h) λB s1 ⟨vs,A,m,z,f⟩=>?_) (by rw[n,d]) (by rw[d];rfl)));obtain⟨i,j,e,⟨f,v,o,u⟩,q⟩:=f;subst e
 cases z with
 | cons r rr=>
  cases rr with
  | cons r' rr=>
   cases rr;obtain⟨t,rfl⟩:=r;obtain⟨t',rfl⟩:=r';exact call_range_2 (Od m f v o u q)
noncomputable def Ce(wi:TI)(g:TG)(tb:TS):TS:=λD σ H=>wi σ H λJ H1=>∃W:Nat->Nat->St->Hp->Prop,(∃m,W 0 m σ H1)/\∀i m σ H,W i m σ H->
 (J.stop i H/\D.nx σ H)\/(J.go i H/\∃N:St->Hp->Prop,(∀σ' H',N σ' H'->∃m',m'<m/\W (i+1) m' σ' H')/\∀x H',J.yld i H x H'->g x σ H' λσ2 H2=>tb { D with nx:=N,ct:=N,bk:=D.nx } σ2 H2)
noncomputable def U5(fp:List aH)(h:bU):List (aH×cx):=fp.filterMap λb=>(h.get? b).map λo=>(b,o)
theorem Wr{a:List aH}{h:bU}{b:aH}{o:cx}(c:b∈a)(e:h.get? b=aA o):(b,o)∈U5 a h:=ig.mpr ⟨b,c,by rw[e];rfl⟩
theorem Lo{a:List aH}{h:bU}{p:aH×cx}(d:p∈U5 a h):p.1∈a/\h.get? p.1=aA p.2:=by
 obtain⟨b,c,e⟩:=ig.mp d
 cases q:h.get? b with
 | none=>rw[q] at e;cases e
 | some o=>
  rw[q] at e;have f:=av e;subst f;exact⟨c,q⟩
theorem Inv.pinned{a:List (aH×cx)}{f:St}{H:Hp}{s:aL}{c:List aH}(I:Inv X a f H s)(l:∀b∈c,Wq X a H b)(i:∀b∈c,∃o,s.heap.get? b=aA o/\∀v,o.data≠.cell v):Inv X (a++U5 c s.heap) f H s:=
 I.pins_of λp k=>(bb.mp k).elim (λz=>I.pin p (aa _ z)) λz=>by obtain⟨h,e⟩:=Lo z;obtain⟨j,f1,f2,_⟩:=l p.1 h;obtain⟨o,g,d⟩:=i p.1 h;rw[e] at g;cases g;exact⟨e,j,f1,f2,d⟩
theorem Inv.unpinned{b d:List (aH×cx)}{a:St}{H:Hp}{s:aL}(I:Inv X (b++d) a H s):Inv X b a H s:=I.pins_of λp c=>I.pin p (aa _ (bR _ c))
theorem Fm{c:au}{w:List b7}{wi:TI}{g:TG}{tb:TS}{M:di}(E:iV (model X.prog X.w) X.A X.env X.xe)(hc:X.calm=aC)(hi:PI X tg c wi)(hg:PG X tg g)(q:PSs X w tb)
  (hs:∀x,bT c X.env x=pure x:=by intro _;rfl):PS X (.For tg c w [] M) (Ce wi g tb):=by
 intro y s Z H D I h;refine wpAny_For (Yz (hi y s Z H _ I h) λv s1 h1=>Yz h1 λitv s2 h2=>?_) hs;obtain⟨it,B,tn,J,H2,e,I2,T,O,f2,W,⟨m0,w0⟩,turn⟩:=h2;subst e
 -- what stays aC of the iterator's objects through the loop
 have p:∀{H':Hp},(∀b∈B,H' b=none)->∀b∈B,Wq X y H' b:=λhn b q=>⟨hn b q,(f2 b q).2⟩;refine codeAny_forLoop_any (λn s'=>∃i σ' H',Inv X y σ' H' s'/\tn i s'.heap/\(∀b∈B,H' b=none)/\W i n σ' H') ?_ m0 ⟨0,Z,H2,I2,O,λb q=>(f2 b q).1,w0⟩;rintro n s3 ⟨i,k,L,I3,C,G,w3⟩;rcases turn i n k L w3 with⟨F,qn⟩ | ⟨go,N,hN,step⟩
 ·refine dH E (Yz (T.done X rfl rfl rfl hc i y s3 k L X.xe I3 (p G) C F) λr s4 ⟨Q,I4⟩=>?_);subst Q;exact fQ ⟨k,L,I4,qn⟩
 ·refine dH E (Yz (T.item X rfl rfl rfl hc i y s3 k L X.xe I3 (p G) C go) λr s4 ⟨u,Q,h4⟩=>?_);subst Q;refine dH E (Yz h4 λ_ s5 ⟨x,Y,I5,r5,y5,z,P⟩=>?_);have U:=I5.pinned (p P) (T.obj _ _ z);refine dH E (Yz (hg _ s5 k Y x u _ U r5 (step x Y y5)) λ_ s6 ⟨R,H6,I6,q6⟩=>?_);refine dH E (Yz (q _ s6 R H6 _ I6 q6) λf S t=>?_);have again:∀{a:St}{l:Hp},Inv X (y++U5 B s5.heap) a l S->N a l->∃m,m<n/\∃i σ' H',Inv X y σ' H' S/\tn i S.heap/\(∀b∈B,H' b=none)/\W i m σ' H':=λ{a l} j A=>by obtain⟨m',hm,w7⟩:=hN a l A;refine⟨m',hm,i+1,a,l,j.unpinned,T.keep _ _ _ z λb q o e=>(j.pin (b,o) (aa _ (aa _ (Wr q e)))).1,λb q=>?_,w7⟩;obtain⟨o,e,d⟩:=T.obj _ _ z b q;exact(j.pin (b,o) (aa _ (aa _ (Wr q e)))).2.1
  cases f with
  | next=>obtain⟨a,l,j,A⟩:=t;exact again j A
  | cont=>obtain⟨a,l,j,A⟩:=t;exact again j A
  | brk=>obtain⟨a,l,j,t⟩:=t;exact⟨a,l,j.unpinned,t⟩
  | ret v=>obtain⟨x7,a,l,j,r7,t⟩:=t;exact⟨x7,a,l,j.unpinned,r7,t⟩
end
abbrev R2:=V->V->Hp->VK->Prop
noncomputable def U4(X:Cx)(f:aF->aF->Sem aF)(r:R2):Prop:=
 ∀(jz:List (aH×cx))(s:aL)(σ:St)(H:Hp)(x y:V)(v u:aF)(Q:VK),Inv X jz σ H s->RelV x v->RelV y u->r x y H Q->
  bB (model X.prog X.w) X.A (f v u) (EP X jz σ Q) X.xe s
noncomputable def Cf(X:Cx)(f:aF->Sem aF)(r:V->Hp->VK->Prop):Prop:=
 ∀(jz:List (aH×cx))(s:aL)(σ:St)(H:Hp)(x:V)(v:aF)(Q:VK),Inv X jz σ H s->RelV x v->r x H Q->
  bB (model X.prog X.w) X.A (f v) (EP X jz σ Q) X.xe s
noncomputable def Xk(X:Cx)(f:aF)(r:List V->Hp->VK->Prop):Prop:=
 ∀(jz:List (aH×cx))(s:aL)(σ:St)(H:Hp)(xs:List V)(us:List aF)(Q:VK),Inv X jz σ H s->Vals xs us->r xs H Q->
  bB (model X.prog X.w) X.A (call f us) (EP X jz σ Q) X.xe s
noncomputable def Cg(X:Cx)(r:V->Hp->(Bool->Hp->Prop)->Prop):Prop:=
 ∀(jz:List (aH×cx))(s:aL)(σ:St)(H:Hp)(x:V)(v:aF)(Q:Bool->Hp->Prop),Inv X jz σ H s->RelV x v->r x H Q->
  bB (model X.prog X.w) X.A (truthy v) (TP X jz σ Q) X.xe s
noncomputable def Ey(r:R2)(ta tb:TE):TE:=λσ H Q=>ta σ H λx H1=>tb σ H1 λy H2=>r x y H2 Q
noncomputable def Bb(r:V->Hp->VK->Prop)(ta:TE):TE:=λσ H Q=>ta σ H λx H1=>r x H1 Q
noncomputable def rI(C:Int->Int->Prop)(g:Int->Int->V):R2:=λx y H Q=>∃i j,x = .int i/\y = .int j/\C i j/\Q (g i j) H
noncomputable def Gx(g:Int->Int->V):R2:=λx y H Q=>∃i j,x = .int i/\y = .int j/\Q (g i j) H
noncomputable def rU(g:Int->V):V->Hp->VK->Prop:=λx H Q=>∃i,x = .int i/\Q (g i) H
section
variable {X:Cx} {a b c:au} {ta tb tc:TE} {pos:di}
theorem Fo(p:PE X a ta)(t:PE X b tb){i:List (aH×cx)}{s:aL}{c:St}{H:Hp}{R:V->V->Hp->Prop}(I:Inv X i c H s)
  (h:ta c H λx j=>tb c j λy d=>R x y d) {Q:aF->aL->Prop} {f:aF->aF->Sem aF}
  (q:∀v u s2 x y d,Inv X i c d s2->RelV x v->RelV y u->R x y d->bB (model X.prog X.w) X.A (f v u) Q X.xe s2) :
  bB (model X.prog X.w) X.A (eval a X.env) (λv g=>bB (model X.prog X.w) X.A (eval b X.env) (λu e=>bB (model X.prog X.w) X.A (f v u) Q X.xe e) X.xe g) X.xe s:=by
 refine Yz (p i s c H _ I h) λv s1 ⟨x,j,m,r,n⟩=>?_;refine Yz (t i s1 c j _ m n) λu s2 ⟨y,d,k,l,o⟩=>?_;exact q v u s2 x y d k r l o
theorem Ks{op:Operator}{r:R2}(f:U4 X (ck op) r)(i:PE X a ta)(l:PE X b tb):PE X (.BinOp a op b pos) (Ey r ta tb):=by intro j s d H Q I h;exact wpAny_BinOp (Fo i l I h λv u s2 x y k c g e q=>f j s2 d k x y v u Q c g e q)
theorem EV{op:UnaryOp}{r:V->Hp->VK->Prop}(f:Cf X (unaryOp op) r)(e:PE X a ta):PE X (.UnaryOp op a pos) (Bb r ta):=by intro c s b H Q I h;exact UnaryOp_ (Yz (e c s b H _ I h) λv s1 ⟨x,i,g,j,d⟩=>f c s1 b i x v Q g j d)
theorem Fp{f:aF->aF->Sem aF}{C:Int->Int->Prop}{g:Int->Int->Int}
  (rule:∀(i j:Int)(t u:Tok)(s:aL)(Q:aF->aL->Prop)(E:aF->aL->Prop),C i j->Q (.int (g i j) s.toks) { s with toks:=s.toks+1 }->bB (model X.prog X.w) X.A (f (.int i t) (.int j u)) Q E s) :
  U4 X f (rI C λi j=>.int (g i j)):=by
 intro e s d H x y v u Q I c b h;obtain⟨i,j,rfl,rfl,a,q⟩:=h;obtain⟨t,rfl⟩:=c;obtain⟨t',rfl⟩:=b;exact rule i j t t' s _ _ a ⟨.int (g i j),H,I.tok _,⟨_,rfl⟩,q⟩
theorem EW{f:aF->aF->Sem aF}{g:Int->Int->Int}
  (rule:∀(i j:Int)(t u:Tok)(s:aL)(Q:aF->aL->Prop)(E:aF->aL->Prop),Q (.int (g i j) s.toks) { s with toks:=s.toks+1 }->bB (model X.prog X.w) X.A (f (.int i t) (.int j u)) Q E s) :
  U4 X f (Gx λi j=>.int (g i j)):=by
 intro d s c H x y v u Q I b a h;obtain⟨i,j,rfl,rfl,q⟩:=h;obtain⟨t,rfl⟩:=b;obtain⟨t',rfl⟩:=a;exact rule i j t t' s _ _ ⟨.int (g i j),H,I.tok _,⟨_,rfl⟩,q⟩
theorem EX{f:aF->aF->Sem aF}{g:Int->Int->Bool}
  (rule:∀(i j:Int)(t u:Tok)(s:aL)(Q:aF->aL->Prop)(E:aF->aL->Prop),Q (.bool (g i j)) s->bB (model X.prog X.w) X.A (f (.int i t) (.int j u)) Q E s) :
  U4 X f (Gx λi j=>.bl (g i j)):=by
 intro d s c H x y v u Q I b a h;obtain⟨i,j,rfl,rfl,q⟩:=h;obtain⟨t,rfl⟩:=b;obtain⟨t',rfl⟩:=a;exact rule i j t t' s _ _ ⟨.bl (g i j),H,I,rfl,q⟩
noncomputable def Np(i j:Int):Prop:=0<j/\j<1073741824
noncomputable def Gy(i j:Int):Prop:=j≠0/\j.natAbs<1073741824
noncomputable def Lp(i j:Int):Prop:=0<=j/\j<=1000000/\i.natAbs<2^64
noncomputable def CMul(i j:Int):Prop:=(-(2^64)<i/\i<2^64)\/(-(2^64)<j/\j<2^64)
theorem CMul.ok{i j:Int}(h:CMul i j):IntMulOk i j:=by
 rcases h with⟨b,a⟩ | ⟨b,a⟩
 ·exact .of_left (intBits_le_64 b a)
 ·exact .of_right (intBits_le_64 b a)
theorem Fq:U4 X (ck .Add) (Gx λi j=>.int (i+j)):=EW λ_ _ _ _ _ _ _ q=>add_int q
theorem Fs:U4 X (ck .Sub) (Gx λi j=>.int (i-j)):=EW λ_ _ _ _ _ _ _ q=>sub_int q
theorem Ft:U4 X (ck .Mult) (rI CMul λi j=>.int (i*j)):=Fp λ_ _ _ _ _ _ _ a q=>mul_int q a.ok
theorem Io:U4 X (ck .FloorDiv) (rI Np λi j=>.int (i/j)):=Fp λi j _ _ _ _ _ a q=>by have c:=a.1;have b:=a.2;exact jD (by omega) (by rw[gC i (by omega)];exact q) (.inl (PyProof.noPylong_small (by omega)))
theorem Fu:U4 X (ck .Mod) (rI (λ_ j=>0<j) λi j=>.int (i%j)):=Fp λi j _ _ _ _ _ a q=>by exact mod_int' (by omega) (by rw[Int.fmod_eq_emod_of_nonneg i (by omega)];exact q)
theorem Ip:U4 X (ck .Mod) (rI (λ_ j=>j≠0) λi j=>.int (i.fmod j)):=Fp λ_ _ _ _ _ _ _ a q=>mod_int' a q
theorem Fv:U4 X (ck .Pow) (rI Lp λi j=>.int (i^j.toNat)):=Fp λ_ _ _ _ _ _ _ a q=>pow_int_small a.1 a.2.1 a.2.2 q
theorem Bc{f:aF->Sem aF}{g:Int->Int}
  (rule:∀(i:Int)(t:Tok)(s:aL)(Q:aF->aL->Prop)(E:aF->aL->Prop),Q (.int (g i) s.toks) { s with toks:=s.toks+1 }->bB (model X.prog X.w) X.A (f (.int i t)) Q E s) :
  Cf X f (rU λi=>.int (g i)):=by
 intro c s b H x v Q I a h;obtain⟨i,rfl,q⟩:=h;obtain⟨t,rfl⟩:=a;exact rule i t s _ _ ⟨.int (g i),H,I.tok _,⟨_,rfl⟩,q⟩
theorem Fx:Cf X (unaryOp .USub) (rU λi=>.int (-i)):=Bc λ_ _ _ _ _ q=>neg_int q
end
section
variable {X:Cx} {a b c:au} {ta tb tc:TE} {pos:di}
theorem EY:U4 X (eO .Lt) (Gx λi j=>.bl (decide (i<j))):=EX λ_ _ _ _ _ _ _ q=>lt_int q
theorem EZ:U4 X (eO .Gt) (Gx λi j=>.bl (decide (j<i))):=EX λ_ _ _ _ _ _ _ q=>gt_int q
theorem U6(b:au){op:jc}(h:op≠.In:=by decide)(a:op≠.NotIn:=by decide):cz op b=aB:=by
 have c:(op==jc.In)=aB:=by cases op<;>first | rfl | exact absurd rfl h
 have d:(op==jc.NotIn)=aB:=by cases op<;>first | rfl | exact absurd rfl a
 cases b<;>simp[cz,c,d]
theorem Iq{op:jc}{r:R2}(g:U4 X (eO op) r)(j:PE X a ta)(m:PE X b tb)(e:cz op b=aB):PE X (.Compare a [op] [b] pos) (Ey r ta tb):=by intro k s d H Q I h;exact wpAny_Compare1 (Fo j m I h λv u s2 x y l c i f q=>g k s2 d l x y v u Q c i f q) e
noncomputable def MA(t:TE):TT:=λσ H Q=>t σ H λx H'=>∃k,x = .bl k/\Q k H'
theorem Ir{op:jc}{r:R2}(p:U4 X (eO op) r)(B:PE X a ta)(E:PE X b tb)(i:cz op b=aB):PT X (.Compare a [op] [b] pos) (MA (Ey r ta tb)):=by
 intro f s d H Q I h
 refine iD (Yz (B f s d H _ I h) λv s1 ⟨x,m,l,D,n⟩=>Yz (E f s1 d m _ l n) λu s2 ⟨y,C,g,j,w⟩=>
  Yz (p f s2 d C x y v u _ g D j w) λc F ⟨z,A,o,t,k,e,q⟩=>?_) i
 subst e;cases t;exact cS ⟨A,o,q⟩
noncomputable def Ci(K:aD)(x:V)(H:Hp)(k:Bool):Prop:=
 match x with
 | .non=>k=aB
 | .bl b=>k=b
 | .int i=>k=(i != 0)
 | .str y=>y.length<=sizeLine/\k=((y.length:Int) != 0)
 | .byt y=>y.size<=sizeLine/\k=((y.size:Int) != 0)
 | .ref p=>(∃xs,SqL K H p xs/\k = !xs.isEmpty)\/(∃xs,SqT K H p xs/\k = !xs.isEmpty)\/∃k3,H p=aA (.dK k3)/\k = !k3.isEmpty
 | _=>False
theorem Nq{b:Type}{a:List (b×V)}{vs:List (b×aF)}(r:KV a vs):(!vs.isEmpty) = !a.isEmpty:=by cases r<;>rfl
theorem SH{a:List V}{b:List aF}(r:Vals a b):(!b.toArray.isEmpty) = !a.isEmpty:=by cases r<;>simp
theorem QV:(sizeLine:Nat)<2^63:=by rw[iI];decide
theorem tru_ok:Cg X (λx H Q=>∃k,Ci X.K x H k/\Q k H):=by
 intro A s w H x v Q I d h;obtain⟨k,e,q⟩:=h;have z:=iI
 cases x with
 | non=>
  cases d;have a:=e;subst a;exact truthy_none ⟨H,I,q⟩
 | bl b=>
  cases d;have a:=e;subst a;exact cS ⟨H,I,q⟩
 | int i=>
  obtain⟨t,rfl⟩:=d;have a:=e;subst a;exact PySem.P.truthy_int ⟨H,I,q⟩
 | str y=>
  obtain⟨t,rfl⟩:=d;obtain⟨o,a⟩:=e;subst a;exact PySem.P.truthy_str (by omega) ⟨H,I.tok _,q⟩
 | byt y=>
  obtain⟨t,rfl⟩:=d;obtain⟨o,a⟩:=e;subst a;exact PySem.W.truthy_bytes (by omega) ⟨H,I.tok _,q⟩
 | ref p=>
  cases d;have a:=e;rcases a with⟨n,f,a⟩ | ⟨n,f,a⟩ | ⟨B,f,a⟩
  ·subst a;obtain⟨l,r,g,j⟩:=I.list f;have c:=r.length;exact wpAny_truthy_list g.isList (by simp only[aP];omega) ⟨H,I.tok _,by rw[SH r];exact q⟩
  ·subst a;obtain⟨l,r,g,j⟩:=I.tuple f;have c:=r.length;exact truthy_tuple g (by simp only[aP];omega) ⟨H,I.tok _,by rw[SH r];exact q⟩
  ·subst a;obtain⟨j,u,vs,r,m⟩:=I.hok p _ f;have c:=Paired.length r;exact wpAny_truthy_dict u m (by omega) ⟨H,I.tok _,by rw[Nq r];exact q⟩
 | _=>exact(e).elim
theorem TZ{x:V}{a:List aF}(r:Vals [x] a):∃u,a=[u]/\RelV x u:=by
 cases r with
 | cons r1 r2=>cases r2;exact⟨_,rfl,r1⟩
theorem Gz{x y:V}{a:List aF}(r:Vals [x,y] a):∃u w',a=[u,w']/\RelV x u/\RelV y w':=by
 cases r with
 | cons r1 r2=>
  cases r2 with
  | cons r3 r4=>cases r4;exact⟨_,_,rfl,r1,r3⟩
theorem Oe:Xk X (.builtin "abs") (λa H Q=>∃i,a=[.int i]/\Q (.int (if i<0 then -i else i)) H):=by intro c s b H a d Q I r h;obtain⟨i,rfl,q⟩:=h;obtain⟨u,rfl,t,rfl⟩:=TZ r;exact call_abs_int λu tk=>⟨.int (if i<0 then -i else i),H,I.tok _,⟨_,rfl⟩,q⟩
theorem Lq(c:X.calm=aC):Xk X (.builtin "min") (λb H Q=>∃i j,b=[.int i,.int j]/\Q (.int (if j<i then j else i)) H):=by
 intro l s d H b g Q I r h;obtain⟨i,j,rfl,q⟩:=h;obtain⟨u,e,rfl,⟨t,rfl⟩,⟨t',rfl⟩⟩:=Gz r;refine min_two_ints (I.ok.hd c) λf tk k=>⟨_,H,I.kept k,?_,q⟩;by_cases a:j<i
 ·rw[k8 a,k8 a];exact⟨_,rfl⟩
 ·rw[k9 a,k9 a];exact⟨_,rfl⟩
noncomputable def E4(K:aD)(x:V)(H:Hp)(n:Nat):Prop:=
 match x with
 | .str y=>y.length<=sizeLine/\n=y.length
 | .byt y=>y.size<=sizeLine/\n=y.size
 | .ref p=>(∃xs,SqL K H p xs/\n=xs.length)\/∃xs,SqT K H p xs/\n=xs.length
 | _=>False
theorem Kt:Xk X (.builtin "len") (λc H Q=>∃x n,c=[x]/\E4 X.K x H n/\Q (.int n) H):=by
 intro w s m H c v Q I r h;obtain⟨x,n,rfl,e,q⟩:=h;obtain⟨u,rfl,g⟩:=TZ r;have o:=iI
 cases x with
 | str y=>
  obtain⟨t,rfl⟩:=g;obtain⟨l,b⟩:=e;subst b;exact len_str (by omega) ⟨.int _,H,I.tok _,⟨_,rfl⟩,q⟩
 | byt y=>
  obtain⟨t,rfl⟩:=g;obtain⟨l,b⟩:=e;subst b;exact PySem.W.len_bytes (by omega) ⟨.int _,H,I.tok _,⟨_,rfl⟩,q⟩
 | ref p=>
  cases g;have b:=e;rcases b with⟨c,f,b⟩ | ⟨c,f,b⟩
  ·subst b;obtain⟨j,i,d,k⟩:=I.list f;have a:=i.length;exact Calls.call_len_list d.isList (by simp only[aP];omega) ⟨.int c.length,H,I.tok _,⟨_,by simp only[aP];rw[a]⟩,q⟩
  ·subst b;obtain⟨j,i,d,k⟩:=I.tuple f;have a:=i.length;exact len_tuple d (by simp only[aP];omega) ⟨.int c.length,H,I.tok _,⟨_,by simp only[aP];rw[a]⟩,q⟩
 | _=>exact(e).elim
end
structure ObjM(h:bU)(x dx C:aH)(mA:ah->Option aF):Prop where
 obj:h.get? x=aA (gz C dx)
 ns:h.Ns1 dx mA
 ne:dx≠x
theorem Lr{h:bU}{g:aH}{d:ah->Option aF}(n:h.Ns1 g d):∃od,h.get? g=aA od/\∀b,iJ b od=aA (d b):=by
 obtain⟨o,f,ep,k,j,p,_,i⟩:=n;refine⟨o,k,λb=>?_⟩;have e:=i b;unfold nsFind findBy at e;rw[<-Array.find?_toList] at e;unfold iJ;rw[j]
 dsimp only
 split
 ·rename_i y q;rw[q] at e;exact congrArg aA e
 ·rename_i q;rw[q] at e;have a:f.toList.any (·.refKey)=aB:=by rw[eY];intro y l;obtain⟨z,t,c⟩:=p y (Array.mem_toList_iff.mp l);simp[DictEntry.refKey,c]
  have m:¬f.toList.any (·.refKey)=aC:=by rw[a];exact bO
  rw[k9 m];exact congrArg aA e
theorem ObjM.look{h:bU}{x c C:aH}{b:ah->Option aF}(I:ObjM h x c C b):∃a,PySem.W.InstAt h x (gz C c) C (aA a)/\∀name,iJ name a=aA (b name):=
 let⟨a,d,e⟩:=Lr I.ns
 ⟨a,⟨I.obj,rfl,rfl,d⟩,e⟩
section
variable {P:bM} {w:bz} {H H':Hp} {h h':bU} {a C dx:aH} {fs fs':List (ah×V)}
theorem Iu(c:HOk P w H h)(e:H a=aA (.ins C dx fs)):∃b,ObjM h a dx C b/\(∀f,G3 (fs.lookup f) (b f))/\js b (fs.map (·.1))/\fs.length<=1000/\H dx=aA (.own a):=by obtain⟨d,z,ne,g,b,n,r,q⟩:=(c a _ e);exact⟨b,⟨g,n,ne⟩,r,q,z,d⟩
end
structure Cls(K:aD)(C:aH):Prop where
 pg:jS K C ah.empty=aC
 hd:PySem.W.hasDictIn K C=aC
 po:PySem.W.plainOver K C=aC
 sa:jd K (.ref C) "__setattr__" = aA (aA (.builtin "object.__setattr__"))
theorem Cls.get{K:aD}{C:aH}(c:Cls K C)(f:ah):jS K C f=aC:=c.pg
section
variable {X:Cx} {jz:List (aH×cx)} {σ:St} {H:Hp} {s:aL} {A:bj} {E:aF->aL->Prop} {Q:aF->aL->Prop} {c:aF} {b:Bool}
inductive TyOf(K:aD)(H:Hp):V->aF->Prop where
 | non:TyOf K H .non (.type "NoneType")
 | bl (x:Bool):TyOf K H (.bl x) (.type "bool")
 | int (i:Int):TyOf K H (.int i) (.type "int")
 | str (x:ah):TyOf K H (.str x) (.type "str")
 | flt (x:UInt64):TyOf K H (.flt x) (.type "float")
 | lst {a:aH} {xs:List V} (e:H a=aA (.lst xs)):TyOf K H (.ref a) (.type "list")
 | frz {a:aH} {o:cx} {xs:List V} (e:H a=aA (.frz o (.lst xs))):TyOf K H (.ref a) (.type "list")
 | tup {a:aH} {xs:List V} (e:H a=aA (.tup xs)):TyOf K H (.ref a) (.type "tuple")
 | dK {a:aH} {k3:List (Sn×V)} (e:H a=aA (.dK k3)):TyOf K H (.ref a) (.type "dict")
 | dT {a:aH} {k3:List (List Sn×V)} (e:H a=aA (.dT k3)):TyOf K H (.ref a) (.type "dict")
 | ins {a C dx:aH} {fs:List (ah×V)} (e:H a=aA (.ins C dx fs)) (cl:Cls K C) (ha:jd K (.ref C) "__class__" = aA (aA (.builtin "object.__class__")))
   (hn:PySem.W.specialIn K (.builtin "object.__class__") "__get__" = aA (aA (.builtin "getset_descriptor.__get__"))) (htk:PySem.W.takesIn K (.builtin "object.__class__")=aA aC)
   (hm:PySem.W.mroIn K C (.type "object")=aA aC):TyOf K H (.ref a) (.ref C)
theorem Ls{x:V}{u t:aF}(I:Inv X jz σ H s)(d:RelV x u)(ty:TyOf X.K H x t)(e:cT X.K t c=aA b)(h:∀tk,Q (.bool b) { s with toks:=tk }) :
  bB (model X.prog X.w) A (call (.builtin "isinstance") [u,c]) Q E s:=by
 cases ty with
 | non=>cases (d);exact bt PySem.W.kitx_none I.kIn cY e (λz=>nomatch z) h
 | bl y=>cases (d);exact bt PySem.W.kitx_bool I.kIn cY e (λz=>nomatch z) h
 | int i=>obtain⟨t,q⟩:=(d);cases q;exact bt PySem.W.kitx_int I.kIn cY e (λz=>nomatch z) h
 | str y=>obtain⟨t,q⟩:=(d);cases q;exact bt PySem.W.kitx_str I.kIn cY e (λz=>nomatch z) h
 | flt y=>obtain⟨t,q⟩:=(d);cases q;exact bt PySem.W.kitx_float I.kIn cY e (λz=>nomatch z) h
 | @lst a j ea=>
  cases (d);obtain⟨_,_,n,_,f⟩:=(I.hok a _ ea);exact bt jE I.kIn ⟨_,f,rfl⟩ e (λz=>nomatch z) h
 | @frz a ob j ea=>
  cases (d);obtain⟨_,_,_,n,_,f⟩:=(I.hok a _ ea);exact bt jE I.kIn ⟨_,f,rfl⟩ e (λz=>nomatch z) h
 | @tup a j ea=>
  cases (d);obtain⟨_,_,_,p⟩:=(I.hok a _ ea);obtain⟨o,f,g,_⟩:=p;exact bt PySem.W.kitx_tuple I.kIn ⟨o,f,g⟩ e (λz=>nomatch z) h
 | @dK a k3 ea=>
  cases (d);obtain⟨_,_,vs,_,p⟩:=(I.hok a _ ea);obtain⟨o,k,ep,f,g,_⟩:=p;exact bt jF I.kIn ⟨o,f,g.1⟩ e (λz=>nomatch z) h
 | @dT a k3 ea=>
  cases (d);obtain⟨_,_,j,_,o,k,ep,f,g,_⟩:=(I.hok a _ ea);exact bt jF I.kIn ⟨o,f,g.1⟩ e (λz=>nomatch z) h
 | @ins a C dx fs ea cl ha hn htk hm=>
  cases (d);obtain⟨m,O,_⟩:=Iu I.hok ea;obtain⟨l,J,_⟩:=O.look;exact bt (PySem.W.kitx_own (cl.get _) cl.hd ha hn htk hm) I.kIn J e (λz=>nomatch z) h
end
structure Room(k:Nat)(A:bj):Prop where
 hd:A.handled=none
 dp:A.depth+3*k+5<iK
 un:A.units+16*k+200<i7
 gd:A.guards=aA []
theorem Room.mono{j k:Nat}{A:bj}(r:Room k A)(h:j<=k):Room j A:=⟨r.hd,by have:=r.dp;omega,by have:=r.un;omega,r.gd⟩
theorem Room.deeper{k:Nat}{A:bj}(r:Room (k+1) A)(env:jQ):Room k (A.deeper env):=
 ⟨r.hd,by have:=r.dp;show A.depth+1+3*k+5<_;omega,by have:=r.un;show A.units+3+16*k+200<_;omega,r.gd⟩
theorem Room.depth{k:Nat}{A:bj}(r:Room k A):A.depth<iK:=by have:=r.dp;omega
theorem Room.units{k:Nat}{A:bj}(r:Room k A):A.units+64<i7:=by have:=r.un;omega
noncomputable def Iv:TA:=λ_ H Q=>Q [] H
noncomputable def SI(ta:TE)(tr:TA):TA:=λσ H Q=>ta σ H λx H1=>tr σ H1 λxs H2=>Q (x::xs) H2
section
variable {X:Cx} {e:au} {es:List au} {te:TE} {t:TA} {pos:di}
theorem SJ:PA X [] Iv:=λ_ _ _ _ H Q I h=>Calls.spliced_nil ⟨[],H,I,.nil,h⟩
theorem XI(o:PE X e te)(i:PA X es t)(k:aT (e::es) X.env=(aB,eval e X.env)::aT es X.env:=by rfl):PA X (e::es) (SI te t):=by intro a c s b H Q I h;rw[k];refine Calls.spliced_cons (Yz (o c s b H _ I h) λu s1 ⟨x,j,g,q,l⟩=>?_);exact Yz (i a c s1 b j _ g l) λr s2 ⟨m,p,d,f,n⟩=>⟨x::m,p,d,.cons q f,n⟩
noncomputable def E5(t:TA):TE:=λσ H Q=>t σ H λxs H1=>xs.length<=sizeLine/\∀p,H1 p=none->Q (.ref p) (upd H1 p (.tup xs))
noncomputable def Cj(t:TA):TE:=λσ H Q=>t σ H λxs H1=>xs.length<=sizeLine/\∀p,H1 p=none->Q (.ref p) (upd H1 p (.lst xs))
theorem Ku{x1}(h:PA X es t):PE X (.Tuple es x1 pos) (E5 t):=by intro k s c H Q I g;refine wpAny_Tuple_spliced (Yz (h pos k s c H _ I g) λi s1 ⟨f,d,a,r,z,q⟩=>⟨by rw[<-r.length];exact z,?_⟩);have j:=a.hok.fresh (aG _);refine⟨.ref s1.heap.objs.size,upd d s1.heap.objs.size (.tup f),a.laid (λb u e=>aE _ e) (aG _) ?_,rfl,q _ j⟩;exact⟨⟨z,λo e=>SF e⟩,i,r,⟨_,aZ _ rfl,rfl,_,rfl⟩⟩
theorem Kv(h:PA X es t):PE X (.List es pos) (Cj t):=by intro k s c H Q I g;refine wpAny_List_spliced (Yz (h pos k s c H _ I g) λi s1 ⟨f,d,a,r,z,q⟩=>⟨by rw[<-r.length];exact z,?_⟩);have j:=a.hok.fresh (aG _);refine⟨.ref s1.heap.objs.size,upd d s1.heap.objs.size (.lst f),a.laid (λb u e=>aE _ e) (aG _) ?_,rfl,q _ j⟩;exact⟨z,i,0,r,aZ _ rfl⟩
end
abbrev Sp:=List V->Hp->VK->XK->Prop
abbrev Iw:=List jQ->Hp->aL->XK->aF->aL->Prop
structure Iy(P:bM)(w:bz)(K:aD)(mg:ah->Option aF)(base:bU)(A:bj)(outer:List jQ)(s:aL)(H:Hp):Prop where
 frames:A.frames=aA outer
 mod:Mod K mg base
 bs:∀b o,base.get? b=aA o->s.heap.get? b=aA o/\H b=none
 bsz:base.objs.size<=s.heap.objs.size
 funs:s.heap.FunFrames base outer
 frf:∀b∈Ni outer,H b=none
 tab:TabsH K mg base H
 hok:HOk P w H s.heap
 bare:gm s.gens
noncomputable def CE(outer:List jQ)(P:bM)(w:bz)(H:Hp)(s:aL)(Q:VK)(u:aF)(s':aL):Prop:=
 ∃v H',s'.os=s.os/\gm s'.gens/\Un (Ni outer) [] H H' s.heap s'.heap/\HOk P w H' s'.heap/\RelV v u/\Q v H'
noncomputable def CR(CX:Iw)(outer:List jQ)(P:bM)(w:bz)(H:Hp)(s:aL)(Q:VK)(E:XK)(r:jv)(s':aL):Prop:=
 match r with
 | .ok (.ret u)=>CE outer P w H s Q u s'
 | .ok _=>False
 | .error e=>CX outer H s E e s'
structure T9(P:bM)(w:bz)(K:aD)(mg:ah->Option aF)(base:bU)(CX:Iw)(k:Nat)(f:aH)(fd:dP)(ps:List ah)(sp:Sp):Prop where
 len:∀vs H Q E,sp vs H Q E->vs.length=ps.length
 run:∀(A:bj)(outer:List jQ)(s:aL)(H:Hp)(args:Args)(us:List aF)(vs:List V)(Q:VK)(E:XK),Room k A->Iy P w K mg base A outer s H->jG s fd args (ps.zip us)->Vals vs us->sp vs H Q E->
  gp (model P w) A (.call (.ref f) args) (CR CX outer P w H s Q E) s
section
variable {X:Cx} {jz:List (aH×cx)} {σ:St} {H:Hp} {s s':aL}
theorem Inv.env0(I:Inv X jz σ H s):Iy X.prog X.w X.K X.mg X.base X.A X.stack s H:=
 ⟨I.ok.frames,I.ok.mod,I.bs,aS I.ok.bsz I.sz,I.stack,I.stkFree,I.ok.tab.un I.base,I.hok,I.bare⟩
theorem Inv.after{Q:VK}{u:aF}(I:Inv X jz σ H s)(h:CE X.stack X.prog X.w H s Q u s'):EP X jz σ Q u s':=by obtain⟨v,f,os,a,un,c,r,q⟩:=h;obtain⟨i,g,d,t,e⟩:=s';obtain rfl:=os;exact⟨v,f,I.call un c a (λb z=>absurd z (by simp)),r,q⟩
end
noncomputable def Kw(sp:Sp)(dvs:List V)(E:XK)(t:TA):TE:=λσ H Q=>t σ H λvs H1=>sp (vs++dvs) H1 Q E
noncomputable def Binds(K:aD)(fd:dP)(ps:List ah)(ds:List aF):Prop:=
 ∀(s:aL)(us:List aF),K.In s.heap->(us++ds).length=ps.length->jG s fd ⟨us,[]⟩ (ps.zip (us++ds))
theorem Binds.all{K:aD}{c:dP}{b:List ah}(h:∀a:List aF,a.length=b.length->gD c ⟨a,[]⟩=pure (b.zip a)):Binds K c b []:=λs a _ d=>by rw[cw] at d ⊢;exact .of_eq (h a d)
noncomputable def Nr(CX:Iw)(X:Cx)(E:XK):Prop:=∀(jz:List (aH×cx))(σ:St)(H:Hp)(s:aL)(e:aF)(s':aL),Inv X jz σ H s->CX X.stack H s E e s'->X.xe e s'
section
variable {X:Cx} {CX:Iw} {k:Nat} {f C:aH} {fd:dP} {ps:List ah} {sp:Sp} {dvs:List V} {ds:List aF} {E:XK} {x m:ah} {p pos apos:di} {e o:au} {es:List au} {ta:TE} {t:TA}
theorem Fy{d:List (aH×cx)}{c:St}{H:Hp}{s:aL}{Q:VK}{a:List aF}{vs:List V}(F:T9 X.prog X.w X.K X.mg X.base CX k f fd ps sp)(i:Room k X.A)(o:Binds X.K fd ps ds)(j:Vals dvs ds)(m:Nr CX X E)
  (I:Inv X d c H s) (r:Vals vs a) (h:sp (vs++dvs) H Q E):bB (model X.prog X.w) X.A (call (.ref f) a) (EP X d c Q) X.xe s:=by
 have g:=r.append j;have n:(a++ds).length=ps.length:=by rw[<-g.length];exact F.len _ _ _ _ h
 refine wpAny_call (jH (F.run X.A X.stack s H ⟨a,[]⟩ (a++ds) (vs++dvs) Q E i I.env0 (o s a I.kIn n) g h) λr l b=>?_)
 cases r with
 | error e=>exact m d c H s e l I b
 | ok fl=>
  cases fl with
  | ret u=>exact I.after b
  | next=>exact dW b
  | brk=>exact dW b
  | cont=>exact dW b
theorem Iz(F:T9 X.prog X.w X.K X.mg X.base CX k f fd ps sp)(i:Room k X.A)(m:Gl X x)(g:X.mg x=aA (.ref f))(v:eZ X.K (.ref f)=aC)(u:Binds X.K fd ps ds)(j:Vals dvs ds)(l:Nr CX X E)
  (n:PA X (e::es) t) (a:(x==("__debug__" : ah))=aB:=by decide) (w:aT (e::es) X.env=(aB,eval e X.env)::aT es X.env:=by rfl) (b:(dj pos (aT es X.env)).any (·.1)=aB:=by rfl) :
  PE X (.Call (.Name x p) (e::es) [] pos) (Kw sp dvs E t):=by
 intro o s d H Q I h;refine gE (Ih I m g ?_ a);refine PySem.W.callWith_K I.ok.mod.kin v (Yz (n pos o s d H _ I h) λz s1 ⟨vs,y,c,r,q⟩=>⟨c.kIn,?_⟩) w b;exact Fy F i u j l c r q
end
structure Zl(N P:List ah)(sc:dA):Prop where
 kind:sc.kind = .function
 co:sc.isCoroutine=aB
 gen:sc.isGenerator=aB
 nd:N.Nodup
 pre:N.take P.length=P
 par:∀x∈P,sc.names.lookup x=aA .local\/sc.names.lookup x=aA .cell
 nofree:∀y∈sc.names,y.2≠.free
theorem Qs{kindOf:ah->Option dB}{x:ah}:∀{binds:List (ah×aF)}{m:ah->Option aF},(∀v,(x,v)∉binds)->je kindOf binds m x=m x
 | [],_,_=>rfl
 | (n,v)::r,m,h=>by
  unfold je;rw[Qs λw a=>h w (aW _ a)];split
  ·have:x≠n:=by rintro rfl;exact h v a9
   simp[this]
  ·rfl
theorem Qt{kindOf:ah->Option dB}{x:ah}:∀{binds:List (ah×aF)}{m:ah->Option aF},(∀v,(x,v)∉binds)->jf kindOf binds m x=m x
 | [],_,_=>rfl
 | (n,v)::r,m,h=>by
  unfold jf;rw[Qt λw a=>h w (aW _ a)];split
  ·rfl
  ·have:x≠n:=by rintro rfl;exact h v a9
   simp[this]
theorem Qu{kindOf:ah->Option dB}{x:ah}{v:aF}:∀{P:List ah}{vs:List aF}{i:Nat}{m:ah->Option aF},P.Nodup->P[i]?=aA x->vs[i]?=aA v->kindOf x=aA .local->
  je kindOf (P.zip vs) m x=aA v
 | [],_,_,_,_,h,_,_=>by simp at h
 | _::_,[],_,_,_,_,h,_=>by simp at h
 | p::P,w::vs,0,m,nd,h1,h2,hk=>by simp at h1 h2;subst h1;subst h2;show je kindOf ((p,w)::P.zip vs) m p=_;unfold je;rw[Qs λv a=>(bP.mp nd).1 (hV a).1,k8 hk];simp
 | p::P,w::vs,i+1,m,nd,h1,h2,hk=>by show je kindOf ((p,w)::P.zip vs) m x=_;unfold je;exact Qu (i:=i) (bP.mp nd).2 (by simpa using h1) (by simpa using h2) hk
theorem Qv{kindOf:ah->Option dB}{x:ah}{v:aF}:∀{P:List ah}{vs:List aF}{i:Nat}{m:ah->Option aF},P.Nodup->P[i]?=aA x->vs[i]?=aA v->kindOf x≠aA .local->
  jf kindOf (P.zip vs) m x=aA v
 | [],_,_,_,_,h,_,_=>by simp at h
 | _::_,[],_,_,_,_,h,_=>by simp at h
 | p::P,w::vs,0,m,nd,h1,h2,hk=>by simp at h1 h2;subst h1;subst h2;show jf kindOf ((p,w)::P.zip vs) m p=_;unfold jf;rw[Qt λv a=>(bP.mp nd).1 (hV a).1,k9 hk];simp
 | p::P,w::vs,i+1,m,nd,h1,h2,hk=>by show jf kindOf ((p,w)::P.zip vs) m x=_;unfold jf;exact Qv (i:=i) (bP.mp nd).2 (by simpa using h1) (by simpa using h2) hk
noncomputable def start(N:List ah)(vs:List V):St:=vs.map aA++aU (N.length-vs.length) none
noncomputable def SK(CX:Iw)(P:bM)(w:bz)(K:aD)(mg:ah->Option aF)(base:bU)(N:List ah)(qual:ah)(scope:dA)(f:aH)(cd:aF)(A:bj)(outer:List jQ)(s:aL)(H:Hp)(E:XK):Cx where
 prog:=P
 w:=w
 K:=K
 mg:=mg
 base:=base
 A:=A.deeper (fI qual scope s.heap.objs.size f cd)
 N:=N
 s₀:=s
 H₀:=H
 env:=fI qual scope s.heap.objs.size f cd
 outer:=outer
 stack:=fI qual scope s.heap.objs.size f cd::outer
 ex:=[]
 calm:=aC
 fn:=λ_=>aC
 pn:=[]
 xe:=λe s'=>bB (model P w) (A.deeper (fI qual scope s.heap.objs.size f cd)) (leaving (fI qual scope s.heap.objs.size f cd) e) (λ_ s''=>CX outer H s E e s'') (λe' s''=>CX outer H s E e' s'') s'
theorem Of{a:dA}{n:Nat}{x:ah}(h:a.names.lookup x=aA .cell):∃c,(fj n a.names []).lookup x=aA c:=by have q:=gq a.names n [] (.inl h);exact bZ.mp q
theorem IA{a b c:ah}(h:a++c=b++c):a=b:=by
 obtain⟨a⟩:=a;obtain⟨b⟩:=b;have d:a++c.cps=b++c.cps:=congrArg ah.cps h;have f:a.toList++c.cps.toList=b.toList++c.cps.toList:=by rw[<-iY,<-iY,d]
 have e:=Array.toList_inj.mp (List.append_cancel_right f);rw[e]
theorem Lu{M:Iw}{P:bM}{w:bz}{K:aD}{J:ah->Option aF}{base:bU}{N n:List ah}{g:ah}{d:dA}{f:aH}{D:aF}{A:bj}{j:List jQ}{s s1:aL}{H:Hp}{E:XK}{I:List aF}{vs:List V}
  (L:cO K D g=aC) (S:Zl N n d) (R:A.handled=none) (m:Iy P w K J base A j s H) (Z:vs.length=n.length) (r:Vals vs I)
  (x:InCallC s s.heap.objs.size (je (fI g d s.heap.objs.size f D).kindOf (n.zip I) λ_=>none) (fj (s.heap.objs.size+1) d.names []) (jf (fI g d s.heap.objs.size f D).kindOf (n.zip I) λ_=>none) s1) :
  Inv (SK M P w K J base N g d f D A j s H E) [] (start N vs) H s1:=by
 have W:n.length<=N.length:=by have:=congrArg fK S.pre;rw[cA] at this;omega
 obtain⟨F,tk,rfl,Q⟩:=x.done;have o:∀b:aH,b∉(SK M P w K J base N g d f D A j s H E).ex:=λb z=>absurd (show b∈([]:List aH) from z) (by simp)
 refine⟨⟨m.mod,S.kind,rfl,rfl,aG _,λy z c F l=>?_,λy t=>?_,λy c _ h=>?_,λ_=>R,bj.frames_deeper m.frames,.inr ⟨rfl,rfl⟩,λb z=>absurd z (o b),m.bs,m.bsz,λb _ _=>o b,λb z=>absurd z (o b),m.funs,m.frf,m.tab,λq _ U _=>by rw[<-IA U];exact L⟩,
  rfl,m.bare,Un.kept Q,⟨_,x.toInCall.ns,λi y v F l Y=>?_⟩,λy c h=>⟨_,x.cell y c h⟩,m.hok.fresh (aG _),λy c h=>?_,λp B=>absurd (show p∈([]:List (aH×cx)) from B) (by simp),m.hok.kept Q,?_⟩
 ·exact name_of_addr x.apart (cW F) (cW l)
 ·have t:=t;rcases t with t | t
  ·exact Of t
  ·exact absurd rfl (S.nofree _ (cW t))
 ·exact cP (x.above y c (cW h))
 ·have G:i<vs.length:=by
   unfold start at l;by_cases G:i<vs.length
   ·exact G
   ·rw[bK (by simpa using G)] at l;rw[b6] at l;split at l<;>cases l
  have X:vs[i]?=aA v:=by
   unfold start at l;rw[ar (by simpa using G),aQ] at l
   cases e:vs[i]? with
   | none=>rw[e] at l;cases l
   | some a=>rw[e] at l;cases l;rfl
  obtain⟨u,O,T⟩:=r.get X;have B:n[i]?=aA y:=by rw[<-S.pre,gY (by omega)];exact F
  have C:n.Nodup:=by rw[<-S.pre];exact S.nd.sublist (List.take_sublist _ _)
  refine⟨u,T,?_⟩;rcases S.par y (dk B) with k | k
  ·exact .inl ⟨k,Qu C B O k⟩
  ·obtain⟨c,e⟩:=Of k;refine .inr ⟨.inl k,c,e,?_⟩;have q:=x.cell y c e;rw[Qv C B O (by show d.names.lookup y≠_;rw[k];decide)] at q;exact q
 ·exact m.hok.fresh (cP (x.above y c (cW h)))
 ·unfold start;show _=N.length;rw[bH,aO,cX];omega
theorem YM{O:Iw}{P:bM}{w:bz}{K:aD}{R:ah->Option aF}{base:bU}{k:Nat}{f:aH}{l d:ah}{h:Arguments}{i:List b7}{a:dA}{dV kV L Z g ct oc:aF}{an od:Option aH}
  {X:Array (Option aF)} {N M:List ah} {sp:Sp} (lk:K.lookup f=aA ⟨oc,od,.func (cG l d h i a dV kV L Z an g ct),X⟩) (G:cO K g d=aC) (S:Zl N M a)
  (len:∀vs H Q E,sp vs H Q E->vs.length=M.length)
  (p:∀(A:bj)(c:List jQ)(s:aL)(H:Hp)(vs:List V)(Q:VK)(E:XK),Room k (A.deeper (fI d a s.heap.objs.size f g))->sp vs H Q E->
   ∃t,PSs (SK O P w K R base N d a f g A c s H E) i t/\t { nx:=λ_ m=>Q .non m,rt:=Q } (start N vs) H) :
  T9 P w K R base O (k+1) f (cG l d h i a dV kV L Z an g ct) M sp:=by
 refine⟨len,λA c s H args us vs Q E T F hb r D=>?_⟩;have hl:=len _ _ _ _ D;have KX:=F.mod.kin.keeps λb o e=>(F.bs b o e).1;have U:=F.mod.nolimit.keeps λb o e=>(F.bs b o e).1
 have z:∀y∈M.zip us,a.names.lookup y.1=aA .local\/(a.names.lookup y.1=aA .cell/\((fj (s.heap.objs.size+1) a.names []).lookup y.1).isSome=aC):=λ⟨n,v⟩ hy=>by
  rcases S.par n (hV hy).1 with q | q
  ·exact .inl q
  ·exact .inr ⟨q,gq _ _ _ (.inl q)⟩
 refine codeAny_call_function T.depth (KX _ _ lk) rfl S.co S.gen rfl (PySem.W.codeRec_of KX G) (hb _ _ _ _ ?_);refine wpAny_newFunctionEnv_cells S.kind z λenv he s1 x=>?_;subst he;refine⟨U.keeps x.toInCall.keep,codeAny_func ?_⟩;obtain⟨t,ht,hq⟩:=p A c s H vs Q E (T.deeper _) D;have I:Inv (SK O P w K R base N d a f g A c s H E) [] (start N vs) H s1:=Lu G S T.hd F hl r x;refine cQ (ht [] s1 (start N vs) H _ I hq) (λfl Y B=>?_) λe Y B=>B
 have C:∀{j:St}{m:Hp}{v:V}{u:aF},Inv (SK O P w K R base N d a f g A c s H E) [] j m Y->RelV v u->Q v m->CE c P w H s Q u Y:=
  λ{j m v u} J W q=>⟨v,m,J.os,J.bare,J.base,J.hok,W,q⟩
 cases fl with
 | ret u=>
  obtain⟨v,j,m,J,W,q⟩:=B;exact C J W q
 | next=>
  obtain⟨j,m,J,q⟩:=B;exact C (v:=V.non) J rfl q
 | brk=>
  obtain⟨_,_,_,q⟩:=B;exact dW q
 | cont=>
  obtain⟨_,_,_,q⟩:=B;exact dW q
section
variable {X:Cx} {x:ah} {p pos:di} {e:au} {es:List au} {t:TA} {id T:String} {r:List V->Hp->VK->Prop}
noncomputable def DL(r:List V->Hp->VK->Prop)(t:TA):TE:=λσ H Q=>t σ H λvs H1=>r vs H1 Q
theorem Kx(k:Xk X (.builtin id) r)(o:Gl X x)(f:X.mg x=none)(m:cb x=aA (.builtin id))(q:PA X (e::es) t)(l:x≠"__name__":=by decide)(a:(x==("__debug__" : ah))=aB:=by decide)
  (v:aT (e::es) X.env=(aB,eval e X.env)::aT es X.env:=by rfl) (b:(dj pos (aT es X.env)).any (·.1)=aB:=by rfl):PE X (.Call (.Name x p) (e::es) [] pos) (DL r t):=by
 intro d s c H Q I h;refine gE (V5 I o f m ?_ l a);exact PyProof.Rows.callWith_builtin1 (Yz (q pos d s c H _ I h) λn s1 ⟨vs,i,g,u,j⟩=>k d s1 c i vs n Q g u j) v b
theorem Qw(k:Xk X (.type T) r)(o:Gl X x)(f:X.mg x=none)(m:cb x=aA (.type T))(q:PA X (e::es) t)(l:x≠"__name__":=by decide)(a:(x==("__debug__" : ah))=aB:=by decide)
  (v:aT (e::es) X.env=(aB,eval e X.env)::aT es X.env:=by rfl) (b:(dj pos (aT es X.env)).any (·.1)=aB:=by rfl):PE X (.Call (.Name x p) (e::es) [] pos) (DL r t):=by
 intro d s c H Q I h;refine gE (V5 I o f m ?_ l a);exact cN (Yz (q pos d s c H _ I h) λn s1 ⟨vs,i,g,u,j⟩=>k d s1 c i vs n Q g u j) v b
end
end L2
namespace HT
open PySem PyProof.Rows
section
variable {prog:bM} {w:bz} {A:bj} {E:aF->aL->Prop} {s:aL}
theorem cat_tup{t b:aH}{vs a:List aF}{Q:aF->aL->Prop}(B:IsTup s.heap t vs.toArray)(C:IsTup s.heap b a.toArray)(q:vs≠[])
  (z:a=[]->Q (.ref t) s) (x:a≠[]->Q (.ref s.heap.objs.size) { s with heap:=s.heap.push { cls:=.type "tuple",data:=.seq (vs++a).toArray } })
  (l:vs.length+a.length<=sizeLine):bB (model prog w) A (ck .Add (.ref t) (.ref b)) Q E s:=by
 obtain⟨⟨j,r,g,o⟩,i,y,n,v⟩:=id B;obtain⟨⟨u,f,data2,d⟩,c,m,p,k⟩:=id C;subst y v m k;have e:vs.toArray++a.toArray=(vs++a).toArray:=by simp
 by_cases h:a=[]
 ·exact jI ⟨_,i,rfl⟩ ⟨_,c,rfl⟩ g8 i8 eh eQ (eG _ _)
   (tuple_addW1 t b vs.toArray a.toArray n p r f o d (by simpa using q) (by simp[h])) ⟨i,c,z h⟩
 ·refine jI ⟨_,i,rfl⟩ ⟨_,c,rfl⟩ g8 i8 eh eQ (eG _ _)
   (tuple_addW2 t b vs.toArray a.toArray n p r f o d (by simpa using q) (by simpa using h) (by rw[aP];exact l)) ⟨i,c,?_⟩
  rw[e];exact x h
noncomputable def sIx(n d:Nat):Option Int->Nat
 | none=>d
 | some v=>if v<0 then(v+(n:Int)).toNat else min v.toNat n
theorem sIx_none(n d:Nat):sIx n d none=d:=rfl
theorem sIx_nat(n d k:Nat):sIx n d (aA (k:Int))=min k n:=rfl
theorem MB(v:Int)(n d:Nat):(if v<0 then max (v+(n:Int)) 0 else min v (n:Int))=((sIx n d (aA v):Nat):Int):=by
 show(if v<0 then max (v+(n:Int)) 0 else min v (n:Int))=(((if v<0 then(v+(n:Int)).toNat else min v.toNat n):Nat):Int);by_cases a:v<0
 ·simp only[k8 a];omega
 ·simp only[k9 a];omega
theorem Nt(lo a:Option Int)(n:Nat):gO lo a 1 (n:Int)=(((sIx n 0 lo:Nat):Int),((sIx n n a:Nat):Int)):=by
 refine Prod.ext ?_ ?_
 ·cases lo with
  | none=>rfl
  | some v=>exact MB v n 0
 ·cases a with
  | none=>rfl
  | some v=>exact MB v n n
theorem Nu(i j:Nat):dG (i:Int) (j:Int) 1=j-i:=by
 unfold dG;split<;>omega
theorem SM{v:aF}{o:Option Int}{Q:Option Int->aL->Prop}(p:ij v o)(h:Q o s):bB (model prog w) A (iX.Slice.slicePartIndex v) Q E s:=by
 cases p with
 | none=>exact slicePart_none h
 | int i t=>exact slicePart_int h
theorem U7{e:aH}{f d:aF}{lo b:Option Int}{n:Nat}{Q:Int×Int×Nat->aL->Prop}(k:s.heap.IsSliceOf e f d .none)(i:ij f lo)(g:ij d b)
  (h:Q (((sIx n 0 lo:Nat):Int),1,sIx n n b-sIx n 0 lo) s):bB (model prog w) A (iX.Slice.sliceApplied (.ref e) (pure (n:Int))) Q E s:=by
 obtain⟨os,c,j,a⟩:=id k;refine aJ (aJ (cD c a rfl (aJ (cD c a rfl (aJ (cD c a rfl (ag ?_)))))));refine aJ (slicePart_none ?_);refine aJ (SM i (aJ (SM g (aJ (ag ?_)))));show bB _ _ (match gO lo b 1 (n:Int) with | (lo,b)=>pure (lo,(1:Int),dG lo b 1)) _ _ s;rw[Nt lo b n];show bB _ _ (pure (((sIx n 0 lo:Nat):Int),(1:Int),dG ((sIx n 0 lo:Nat):Int) ((sIx n n b:Nat):Int) 1)) _ _ s;rw[Nu];exact ag h
theorem Ky(a:Array aF)(i k:Nat):((aI k).filterMap λ(m:Nat)=>a[((i:Int)+(m:Int)*1).toNat]?).toArray=((a.toList.drop i).take k).toArray:=by
 have e:(λ(m:Nat)=>a[((i:Int)+(m:Int)*1).toNat]?)=λm=>a[i+m]?:=by
  funext m;have:((i:Int)+(m:Int)*1).toNat=i+m:=by omega
  rw[this]
 rw[e];have:=pick_run a i k;rw[List.filterMap_map] at this;have b:((λx=>a[x]?) ∘ λx=>i+x)=λm=>a[i+m]?:=rfl;rw[b] at this;rw[this]
theorem getItem_tuple_cut{t e:aH}{a:Array aF}{m l:aF}{lo c:Option Int}{Q:aF->aL->Prop}(d:IsTup s.heap t a)(k:s.heap.IsSliceOf e m l .none)(p:ij m lo)(o:ij l c)
  (n:¬(sIx a.size 0 lo=0/\sIx a.size a.size c=a.size))
  (h:Q (.ref s.heap.objs.size) { s with heap:=s.heap.push { cls:=.type "tuple",data:=.seq ((a.toList.drop (sIx a.size 0 lo)).take (sIx a.size a.size c-sIx a.size 0 lo)).toArray } })
  (u:a.size<=sizeLine):bB (model prog w) A (j8 (.ref t) (.ref e)) Q E s:=by
 have b:sizeOk (.seq ((a.toList.drop (sIx a.size 0 lo)).take (sIx a.size a.size c-sIx a.size 0 lo)).toArray):=by show((a.toList.drop (sIx a.size 0 lo)).take (sIx a.size a.size c-sIx a.size 0 lo)).toArray.size<=sizeLine;rw[aP,cA,cZ,eA];omega
 obtain⟨os,j,g,r⟩:=id k;have f:s.TypeIs (.ref e) "slice":=⟨os,j,g⟩;unfold j8
 try with_reducible refine gX ?_
 first | refine aJ (ag ?_) | skip
 refine aJ (wpAny_sequenceKey d.typeIs rfl ?_)
 refine aJ (cq d.typeIs dO
  (dw dO d.typeIs entry_tuple_getitem ?_ (args_tuple_getitem _ _)))
 show bB _ _ (iX.Tuple.tupleItemsOf (.ref t) >>= _) _ _ s;refine aJ (tupleItemsOf_ d ?_);refine aJ (wpAny_typeOf f ?_);refine aJ (U7 k p o ?_);have i:¬((((sIx a.size 0 lo:Nat):Int)==0&&(1:Int)==1&&(sIx a.size a.size c-sIx a.size 0 lo)==a.size)=aC):=by intro q;rw[bW,bW] at q;have v:=eq_of_beq q.1.1;have x:=eq_of_beq q.2;exact n ⟨by omega,by omega⟩
 show bB _ _ (if(((sIx a.size 0 lo:Nat):Int)==0&&(1:Int)==1&&(sIx a.size a.size c-sIx a.size 0 lo)==a.size)=aC then _ else _) _ _ s;rw[k9 i,Ky]
 first
  | exact aJ (cu (ag ⟨_,rfl,ag h⟩) b)
  | exact aJ (cu (aJ (ag (ag ⟨_,rfl,ag h⟩))) b)
  | exact aJ (aJ (cu (ag (ag ⟨_,rfl,ag h⟩)) b))
  | exact aJ (aJ (cu (ag ⟨_,rfl,ag h⟩) b))
end
end HT
namespace L2
open PySem PySem.Spec PyProof.Rows
abbrev TO:=St->Hp->(Option Int->Hp->Prop)->Prop
noncomputable def PO(X:Cx)(e:Option au)(t:TO):Prop:=
 ∀(jz:List (aH×cx))(s:aL)(σ:St)(H:Hp)(Q:Option Int->Hp->Prop),Inv X jz σ H s->t σ H Q->
  bB (model X.prog X.w) X.A (evalPart e X.env) (λu s'=>∃o H',Inv X jz σ H' s'/\ij u o/\Q o H') X.xe s
noncomputable def IB:TO:=λ_ H Q=>Q none H
noncomputable def E6(t:TE):TO:=λσ H Q=>t σ H λx H1=>∃i,x = .int i/\Q (aA i) H1
section
variable {X:Cx} {e:au} {te:TE} {lo hi:Option au} {tl th:TO} {pos p2:di}
theorem IC:PO X none IB:=by intro b s a H Q I h;exact ag ⟨none,H,I,.none,h⟩
theorem ID(h:PE X e te):PO X (aA e) (E6 te):=by intro d s b H Q I c;refine Yz (h d s b H _ I c) λu s1 ⟨x,g,f,j,a⟩=>?_;obtain⟨i,rfl,q⟩:=a;obtain⟨t,rfl⟩:=j;exact⟨aA i,g,f,.int i t,q⟩
noncomputable def Ck(X:Cx)(r:V->Option Int->Option Int->Hp->VK->Prop):Prop:=
 ∀(jz:List (aH×cx))(s:aL)(σ:St)(H:Hp)(x:V)(v vl vu:aF)(lo hi:Option Int)(sl:aH)(Q:VK),Inv X jz σ H s->RelV x v->s.heap.IsSliceOf sl vl vu .none->ij vl lo->ij vu hi->r x lo hi H Q->
  ∃T id,typeLookup (.type T) "__getitem__" = pure (aA (.builtin id))/\s.TypeIs v T/\bB (model X.prog X.w) X.A (j8 v (.ref sl)) (EP X jz σ Q) X.xe s
noncomputable def Be(r:V->Option Int->Option Int->Hp->VK->Prop)(te:TE)(tl th:TO):TE:=λσ H Q=>te σ H λx H1=>tl σ H1 λl H2=>th σ H2 λu H3=>r x l u H3 Q
theorem Og{r:V->Option Int->Option Int->Hp->VK->Prop}(n:Ck X r)(L:PE X e te)(E:PO X lo tl)(B:PO X hi th):PE X (.Subscript e (.Slice lo hi none p2) pos) (Be r te tl th):=by intro d s a H Q I h;refine Subscript_ (Yz (L d s a H _ I h) λv s1 ⟨x,o,m,J,p⟩=>?_);refine wpAny_Slice (Yz (E d s1 a o _ m p) λg s2 ⟨l,G,j,y,C⟩=>Yz (B d s2 a G _ j C) λf c ⟨u,i,w,t,A⟩=>?_);refine ag ?_;have z:Inv X d a i { c with heap:=c.heap.push { cls:=.type "slice",data:=.fields #[g,f,.none] } }:=w.kept λb M q=>aE _ q;obtain⟨T,id,k,D,F⟩:=n d { c with heap:=c.heap.push { cls:=.type "slice",data:=.fields #[g,f,.none] } } a i x v g f l u c.heap.objs.size Q z J (bU.IsSliceOf.new ..) y t A;exact tail_any D k F rfl
noncomputable def Lv(xs:List V)(lo hi:Option Int):List V:=(xs.drop (HT.sIx xs.length 0 lo)).take (HT.sIx xs.length xs.length hi-HT.sIx xs.length 0 lo)
theorem T2(a:List V)(lo b:Option Int):(Lv a lo b).length<=a.length:=by unfold Lv;rw[cA,cZ];omega
noncomputable def Cm(K:aD):V->Option Int->Option Int->Hp->VK->Prop:=λx lo hi H Q=>∃a xs,x = .ref a/\SqT K H a xs/\
 ¬(HT.sIx xs.length 0 lo=0/\HT.sIx xs.length xs.length hi=xs.length)/\∀p,H p=none->Q (.ref p) (upd H p (.tup (Lv xs lo hi)))
theorem Fz:Ck X (Cm X.K):=by
 intro A s u H x v B z lo i w Q I t k n m h;obtain⟨a,d,rfl,p,j,q⟩:=h;cases t;obtain⟨l,r,f,g⟩:=I.tuple p;have c:l.toArray.size=d.length:=by rw[aP];exact r.length.symm
 refine⟨"tuple",_,dO.lookup,f.typeIs,?_⟩;refine HT.getItem_tuple_cut f k n m (by rw[c];exact j) ?_ (by rw[c];exact g);rw[c];refine⟨.ref s.heap.objs.size,_,I.laid (λb y q=>aE _ q) (aG _) ?_,rfl,q _ (I.hok.fresh (aG _))⟩;exact⟨⟨aS (T2 d lo i) g,λo e=>SF e⟩,_,(r.drop (HT.sIx d.length 0 lo)).take (HT.sIx d.length d.length i-HT.sIx d.length 0 lo),jT _ _⟩
noncomputable def E7(K:aD):R2:=λx y H Q=>∃a b xs ys,x = .ref a/\y = .ref b/\SqT K H a xs/\SqT K H b ys/\xs≠[]/\xs.length+ys.length<=sizeLine/\
 (ys=[]->Q (.ref a) H)/\(ys≠[]->∀p,H p=none->Q (.ref p) (upd H p (.tup (xs++ys))))
theorem Vals.nil_iff{a:List V}{b:List aF}(r:Vals a b):b=[]↔a=[]:=by
 cases r with
 | nil=>simp
 | cons _ _=>simp
theorem IE:U4 X (ck .Add) (E7 X.K):=by intro E s t H x y v u Q I n k h;obtain⟨a,b,C,A,rfl,rfl,p,r,m,f,j,l⟩:=h;cases n;cases k;obtain⟨B,d,i,_⟩:=I.tuple p;obtain⟨g,c,p2,_⟩:=I.tuple r;refine HT.cat_tup i p2 (λz=>m (d.nil_iff.mp z)) (λz=>⟨.ref a,H,I,rfl,j (c.nil_iff.mp z)⟩) (λz=>?_) (by rw[<-d.length,<-c.length];exact f);refine⟨.ref s.heap.objs.size,_,I.laid (λb D q=>aE _ q) (aG _) ?_,rfl,l (λw=>z (c.nil_iff.mpr w)) _ (I.hok.fresh (aG _))⟩;exact⟨⟨by rw[bH];exact f,λo e=>SF e⟩,_,d.append c,jT _ _⟩
end
noncomputable def Nj(n:Nat)(i:Int):Option Nat:=if 0<=i then(if i<n then aA i.toNat else none) else if -(n:Int)<=i then aA (i+n).toNat else none
noncomputable def U8{α:Type}(xs:List α)(i:Int):Option α:=(Nj xs.length i).bind λj=>xs[j]?
theorem MC{n:Nat}{i:Int}{j:Nat}(h:Nj n i=aA j):seqIndex? i n=aA j/\j<n/\-(n:Int)<=i/\i<n:=by
 unfold Nj at h;by_cases b:0<=i
 ·rw[k8 b] at h;by_cases a:i<n
  ·rw[k8 a] at h;have e:=av h;exact⟨by rw[jZ b a,e],by omega,by omega,a⟩
  ·rw[k9 a] at h;cases h
 ·rw[k9 b] at h;by_cases a : -(n:Int)<=i
  ·rw[k8 a] at h;have e:=av h;exact⟨by rw[jJ (by omega) a,e],by omega,a,by omega⟩
  ·rw[k9 a] at h;cases h
theorem QW{b:Type}{a:List b}{i:Int}{v:b}(h:U8 a i=aA v):∃j,seqIndex? i a.length=aA j/\a[j]?=aA v/\j<a.length/\-(a.length:Int)<=i/\i<a.length:=by
 unfold U8 at h
 cases e:Nj a.length i with
 | none=>rw[e] at h;cases h
 | some j=>
  rw[e] at h;obtain⟨f,c,g,d⟩:=MC e;exact⟨j,f,h,c,g,d⟩
theorem Xn{b:Type}{a:List b}{j:Nat}{v:b}(h:a[j]?=aA v):U8 a (j:Int)=aA v:=by
 have c:=(aV.mp h).1;have e:Nj a.length (j:Int)=aA j:=by unfold Nj;rw[k8 (by omega),k8 (by omega)];simp
 unfold U8;rw[e];exact h
noncomputable def QX(b:au):Prop:=∀o i,subscripted b aB o i=operate [o,i] (j8 o i)
noncomputable def IxR(X:Cx)(r:R2):Prop:=
 ∀(value slice:au)(jz:List (aH×cx))(s:aL)(σ:St)(H:Hp)(x y:V)(v u:aF)(Q:VK),Inv X jz σ H s->RelV x v->RelV y u->r x y H Q->
  subscripted slice aB v u=operate [v,u] (j8 v u)->bB (model X.prog X.w) X.A (subscriptTail value slice v u) (EP X jz σ Q) X.xe s
noncomputable def Bf(X:Cx)(id:String)(r:V->List V->Hp->VK->Prop):Prop:=
 ∀(jz:List (aH×cx))(s:aL)(σ:St)(H:Hp)(x:V)(xs:List V)(v:aF)(us:List aF)(Q:VK),Inv X jz σ H s->RelV x v->Vals xs us->r x xs H Q->
  bB (model X.prog X.w) X.A (call (.builtin id) (v::us)) (EP X jz σ Q) X.xe s
section
variable {X:Cx} {a b:au} {ta tb:TE} {pos:di}
theorem IxR.or{r f:R2}(h:IxR X r)(j:IxR X f):IxR X (λx y H Q=>r x y H Q\/f x y H Q):=by
 intro a b i s c H x y v u Q I g e q d;rcases q with q | q
 ·exact h a b i s c H x y v u Q I g e q d
 ·exact j a b i s c H x y v u Q I g e q d
theorem Kz{r:R2}(e:IxR X r)(j:PE X a ta)(m:PE X b tb)(f:QX b):PE X (.Subscript a b pos) (Ey r ta tb):=by intro k s d H Q I h;exact Subscript_ (Fo j m I h λv u s2 x y l c i g q=>e a b k s2 d l x y v u Q c i g q (f _ _))
noncomputable def FA(K:aD):R2:=λx y H Q=>∃p xs i v,x = .ref p/\y = .int i/\SqL K H p xs/\U8 xs i=aA v/\Q v H
noncomputable def E8(K:aD):R2:=λx y H Q=>∃p xs i v,x = .ref p/\y = .int i/\SqT K H p xs/\U8 xs i=aA v/\Q v H
noncomputable def E9:R2:=λx y H Q=>∃z i c,x = .str z/\y = .int i/\z.length<=sizeLine/\U8 z.cps.toList i=aA c/\Q (.str ⟨#[c]⟩) H
theorem ix_list:IxR X (FA X.K):=by
 intro d f G s m H x y v u Q I E B h g;obtain⟨p,L,i,z,rfl,rfl,C,J,q⟩:=h;cases E;obtain⟨t,rfl⟩:=B;obtain⟨n,r,c,N⟩:=I.list C;obtain⟨j,b,o,M,F,A⟩:=QW J;obtain⟨w,l,ZM⟩:=r.get o;have D:=r.length;have O:=QV;have a:EP X G m Q w s:=⟨z,H,I,ZM,q⟩;by_cases k:0<=i
 ·have e:i.toNat=j:=by rw[jZ k A] at b;exact av b
  exact item_listR c.isList k (by omega) (by rw[e];simpa using l) a g
 ·have e:(i+(n.toArray.size:Int)).toNat=j:=by rw[jJ (by omega) F] at b;rw[aP,<-D];exact av b
  exact gs c.isList.typeIs slot_list_getitem.lookup
   (wpAny_getItem_list_neg c.isList (by omega) (by rw[aP]<;>omega) (by omega) (by rw[e];simpa using l) ⟨rfl,a⟩) g
theorem ix_tup:IxR X (E8 X.K):=by
 intro b c A s e H x y v u Q I o k h f;obtain⟨p,F,i,z,rfl,rfl,m,C,q⟩:=h;cases o;obtain⟨t,rfl⟩:=k;obtain⟨D,r,d,J⟩:=I.tuple m;obtain⟨j,l,g,G,M,E⟩:=QW C;obtain⟨w,B,ZM⟩:=r.get g;have n:=r.length;have L:=QV;have a:EP X A e Q w s:=⟨z,H,I,ZM,q⟩
 exact gs d.typeIs slot_tuple_getitem.lookup
  (getItem_tuple d (by omega) (by omega) (by rw[aP,<-n];exact l) (by simpa using B) ⟨rfl,a⟩) f
theorem FC:IxR X E9:=by
 intro a b D s w H x y v u Q I o l h f;obtain⟨z,i,c,rfl,rfl,B,r,q⟩:=h;obtain⟨t,rfl⟩:=o;obtain⟨t',rfl⟩:=l;obtain⟨j,d,g,A,p,k⟩:=QW r;have n:z.cps.toList.length=z.length:=by simp[ah.length]
 rw[n] at d p k;have C:=QV
 exact tail_any (typeIs_str s z t) slot_str_getitem.lookup (getItem_str (by
  have e:decide (i < -(2^63:Int))=aB:=decide_eq_false (by omega);have m:decide (i ≥ 2^63)=aB:=decide_eq_false (by omega);rw[e,m,Bool.or_false]) (by rw[d];simpa using g) ⟨.str ⟨#[c]⟩,H,I.tok _,⟨_,rfl⟩,q⟩) f
noncomputable def CW(K:aD):R2:=λx y H Q=>FA K x y H Q\/E8 K x y H Q\/E9 x y H Q
theorem FD:IxR X (CW X.K):=ix_list.or (ix_tup.or FC)
theorem Nv(a:List aF)(n j:Nat)(u:aF):ik (·.setIfInBounds j u) { cls:=.type "list",data:=.seq a.toArray n }={ cls:=.type "list",data:=.seq (a.set j u).toArray n }:=by simp[ik]
theorem Inv.lst{d:List (aH×cx)}{c:St}{H:Hp}{s:aL}{p:aH}{b:List V}(I:Inv X d c H s)(h:H p=aA (.lst b)) :
  ∃(a:List aF) (n:Nat),Vals b a/\s.heap.get? p=aA { cls:=.type "list",data:=.seq a.toArray n }/\b.length<=sizeLine:=by
 obtain⟨z,a,n,r,e⟩:=I.hok p _ h;exact⟨a,n,r,e,z⟩
theorem Inv.lstUpd{k:List (aH×cx)}{g:St}{H:Hp}{s:aL}{p:aH}{o c:List V}{i a:List aF}{n d:Nat}{f:cx->cx}(I:Inv X k g H s)(h:H p=aA (.lst o))
  (m:s.heap.get? p=aA { cls:=.type "list",data:=.seq i.toArray n }) (j:f { cls:=.type "list",data:=.seq i.toArray n }={ cls:=.type "list",data:=.seq a.toArray d }) (r:Vals c a) (v:c.length<=sizeLine) (t:Nat) :
  Inv X k g (upd H p (.lst c)) { s with heap:=s.heap.update p f,toks:=t }:=by
 have e:(s.heap.update p f).get? p=aA { cls:=.type "list",data:=.seq a.toArray d }:=by rw[iE f m (by rw[j]<;>rfl),j]
 refine I.write (by rw[h];trivial) (.inl rfl) (λb u l q=>(gu _ _ (aj l)).trans q) ⟨_,e⟩ ?_;exact⟨v,a,d,r,e⟩
noncomputable def KA:V->V->V->Hp->(Hp->Prop)->Prop:=λo i v H Q=>∃p xs k j,o = .ref p/\i = .int k/\H p=aA (.lst xs)/\Nj xs.length k=aA j/\Q (upd H p (.lst (xs.set j v)))
theorem Y8:EM X KA:=by
 intro L s C H o i v D F u Q I x B y h;obtain⟨p,G,k,j,rfl,rfl,g,z,q⟩:=h;cases x;obtain⟨t,rfl⟩:=B;obtain⟨e,n,r,b,A⟩:=I.lst g;obtain⟨a,E,f,l⟩:=MC z;have c:=r.length;have J:=QV
 have w:=
  I.lstUpd g b (Nv e n j u) (r.set y j) (by rw[bu];exact A) s.toks
 by_cases m:0<=k
 ·have d:k.toNat=j:=by rw[jZ m l] at a;exact av a
  exact PySem.W.ki_setAt b m (by omega) (by rw[aP,<-c];exact l) (by rw[d];exact⟨_,w,q⟩)
 ·have d:(k+(e.toArray.size:Int)).toNat=j:=by rw[jJ (by omega) f] at a;rw[aP,<-c];exact av a
  exact PySem.W.ki_setBack b (by omega) (by rw[aP,<-c];exact f) (by omega) (by rw[d];exact⟨_,w,q⟩)
theorem QY(lo a:Option Int)(n:Nat):(eT lo a none n).1=((HT.sIx n 0 lo:Nat):Int)/\(eT lo a none n).2.1=((HT.sIx n n a:Nat):Int)/\(eT lo a none n).2.2=1:=by
 refine⟨?_,?_,rfl⟩
 ·cases lo with
  | none=>simp[eT,HT.sIx]
  | some i=>
   simp only[eT,HT.sIx,jU];by_cases h:i<0
   ·simp only[h,if_true]<;>omega
   ·simp only[h,if_false]<;>omega
 ·cases a with
  | none=>simp[eT,HT.sIx]
  | some i=>
   simp only[eT,HT.sIx,jU];by_cases h:i<0
   ·simp only[h,if_true]<;>omega
   ·simp only[h,if_false]<;>omega
theorem RX(a:List aF)(lo b:Option Int):slicePick a.toArray lo b none=((a.drop (HT.sIx a.length 0 lo)).take (HT.sIx a.length a.length b-HT.sIx a.length 0 lo)).toArray:=by
 obtain⟨d,c,e⟩:=QY lo b a.toArray.size;unfold slicePick;rw[d,c,e];simp only[sliceRange_one,pick_run]<;>rfl
noncomputable def Cn(K:aD):V->Option Int->Option Int->Hp->VK->Prop:=λx lo hi H Q=>∃a xs,x = .ref a/\SqL K H a xs/\∀p,H p=none->Q (.ref p) (upd H p (.lst (Lv xs lo hi)))
theorem IF:Ck X (Cn X.K):=by intro w s n H x v y u lo f o Q I m g j i h;obtain⟨a,d,rfl,k,q⟩:=h;cases m;obtain⟨p,r,e,l⟩:=I.list k;have c:=r.length;refine⟨"list",_,slot_list_getitem.lookup,e.isList.typeIs,?_⟩;refine wpAny_getItem_list_slice e.isList g j i .none (by simp) ?_ (by rw[aP]<;>omega);rw[RX,<-c];refine⟨.ref s.heap.objs.size,_,I.laid (λb t q=>aE _ q) (aG _) ?_,rfl,q _ (I.hok.fresh (aG _))⟩;exact⟨aS (T2 d lo f) l,_,0,(r.drop (HT.sIx d.length 0 lo)).take (HT.sIx d.length d.length f-HT.sIx d.length 0 lo),aZ _ rfl⟩
theorem Ws:Xk X (.type "list") (λz H Q=>∃p f,z=[.ref p]/\(SqL X.K H p f\/SqT X.K H p f)/\∀l,H l=none->Q (.ref l) (upd H l (.lst f))):=by
 intro C s A H z D Q I r h;obtain⟨p,f,rfl,k,q⟩:=h;obtain⟨u,rfl,B⟩:=TZ r;cases B
 have i:∀(c:List aF),Vals f c->f.length<=sizeLine->∀(a:bU)(d:Nat),(∀b o',s.heap.get? b=aA o'->a.get? b=aA o')->
   a.get? s.heap.objs.size=aA { cls:=.type "list",dict:=none,data:=.seq c.toArray d,slots:=#[] }->EP X C A Q (.ref s.heap.objs.size) { s with heap:=a }:=λc g m a d t e=>
  ⟨.ref s.heap.objs.size,_,I.laid t (aG _) (show ObjOk X.prog X.w _ a _ (.lst f) from⟨m,c,d,g,e⟩),rfl,q _ (I.hok.fresh (aG _))⟩
 rcases k with k | k
 ·obtain⟨c,g,x,m⟩:=I.list k;have j:=g.length;obtain⟨o,y,w,n,v⟩:=x.isList;exact call_list_seq p (.inl rfl) y w v (λa d t e=>i c g m a d t e) (by simp only[aP]<;>omega)
 ·obtain⟨c,g,x,m⟩:=I.tuple k;have j:=g.length;obtain⟨o,y,w,n,v⟩:=x;exact call_list_seq p (.inr rfl) y w v (λa d t e=>i c g m a d t e) (by simp only[aP]<;>omega)
theorem Zr:Xk X (.type "tuple") (λk H Q=>∃p a,k=[.ref p]/\((SqL X.K H p a/\∀l,H l=none->Q (.ref l) (upd H l (.tup a)))\/(SqT X.K H p a/\Q (.ref p) H))):=by
 intro z s x H k y Q I r h;obtain⟨p,a,rfl,h⟩:=h;obtain⟨u,rfl,v⟩:=TZ r;cases v;rcases h with⟨d,q⟩ | ⟨d,q⟩
 ·obtain⟨i,f,c,m⟩:=I.list d;have j:=f.length;refine call_tuple_list c.isList (λt w=>?_) (by simp only[aP]<;>omega);have g:=I.kept (t':=s.toks) w
  have n:=
   g.laid (t':=s.toks) (λb o e=>aE _ e) (aG _) (show ObjOk X.prog X.w _ _ _ (.tup a) from⟨⟨m,λo e=>SF e⟩,i,f,jT _ _⟩)
  exact⟨.ref t.objs.size,_,n,rfl,q _ (g.hok.fresh (aG _))⟩
 ·obtain⟨i,f,c,m⟩:=I.tuple d;exact call_tuple_same c ⟨.ref p,H,I,rfl,q⟩
noncomputable def Co(K:aD)(T:String)(x:V)(H:Hp):Prop:=match x with
 | .str _=>T = "str"
 | .int _=>T = "int"
 | .ref p=>(T = "list"/\∃xs,SqL K H p xs)\/(T = "tuple"/\∃o,K.lookup p=aA o/\o.cls = .type "tuple"/\o.dict=none)\/
   (T = "dict"/\((∃k3,H p=aA (.dK k3))\/∃k3,H p=aA (.dT k3)))\/(T = "set"/\∃S n,H p=aA (.set S n))\/(T = "tuple"/\∃xs,H p=aA (.tup xs))
 | _=>False
theorem FE{w:List (aH×cx)}{k:St}{H:Hp}{s:aL}{T:String}{x:V}{v:aF}(I:Inv X w k H s)(r:RelV x v)(ty:Co X.K T x H) :
  s.TypeIs v T/\∀a,v = .ref a->∃ob,s.heap.get? a=aA ob/\ob.dict=none:=by
 cases x with
 | str z=>
  obtain⟨t,rfl⟩:=r;cases (ty);exact⟨typeIs_str s z t,λ_ e=>nomatch e⟩
 | int i=>
  obtain⟨t,rfl⟩:=r;cases (ty);exact⟨gv s i t,λ_ e=>nomatch e⟩
 | ref p=>
  cases r;rcases ty with⟨rfl,q,u⟩ | ⟨rfl,o,b,m,h⟩ | ⟨rfl,b⟩ | ⟨rfl,S,n,b⟩ | ⟨rfl,q,b⟩;rotate_left 4
  ·obtain⟨z,l,_,o,g,f,_⟩:=(I.hok p _ b);refine⟨⟨o,g,f⟩,λa e=>?_⟩;cases e;exact⟨o,g,z.2 o g⟩
  ·obtain⟨l,_,j,_⟩:=I.list u;refine⟨j.isList.typeIs,λa e=>?_⟩;cases e;obtain⟨o,n,e,c,h,_⟩:=j;exact⟨o,e,h⟩
  ·refine⟨⟨o,I.kIn p o b,m⟩,λa e=>?_⟩;cases e;exact⟨o,I.kIn _ o b,h⟩
  ·have z:∃o,s.heap.get? p=aA o/\o.ExactDict:=by
    rcases b with⟨y,b⟩ | ⟨y,b⟩
    ·obtain⟨_,_,_,_,o,_,_,e,d,_⟩:=I.hok p _ b;exact⟨o,e,d⟩
    ·obtain⟨_,_,_,_,o,_,_,e,d,_⟩:=I.hok p _ b;exact⟨o,e,d⟩
   obtain⟨o,e,d⟩:=z;refine⟨⟨o,e,d.1⟩,λa f=>?_⟩;cases f;exact⟨o,e,d.2.1⟩
  ·obtain⟨o,_,_,_,e,d,_⟩:=I.hok p _ b;refine⟨⟨o,e,d.1⟩,λa f=>?_⟩;cases f;exact⟨o,e,d.2.1⟩
 | _=>exact dW ty
noncomputable def Cp(K:aD)(T:String)(r:V->List V->Hp->VK->Prop)(to:TE)(t:TA):TE:=λσ H Q=>to σ H λx H1=>Co K T x H1/\t σ H1 λxs H2=>r x xs H2 Q
variable {o e:au} {es:List au} {to:TE} {t:TA} {name:ah} {apos cpos:di} {T id:String} {r:V->List V->Hp->VK->Prop}
theorem GA(E:PlainAttrs T)(f:Slot T name id)(j:typeOf (.builtin id)=pure (.type "method_descriptor"))(p:Bf X id r)(B:PE X o to)(F:PA X (e::es) t)
  (b:attributeBase o name X.env (eval o X.env)=eval o X.env:=by rfl)
  (d:((dj cpos (aT (e::es) X.env)).all (λx=>!x.1)&&(backToKw cpos (keywordEach [] X.env)).all (λx=>x.1.isSome)
   &&decide ((e::es).length+([]:List Keyword).length+(if([]:List Keyword).isEmpty then 0 else 1)<30))=aC:=by rfl)
  (c:(apos.endLine==cpos.line)=aC:=by rfl) (w:aT (e::es) X.env=(aB,eval e X.env)::aT es X.env:=by rfl) (a:(dj cpos (aT es X.env)).any (·.1)=aB:=by rfl) :
  PE X (.Call (.Attribute o name apos) (e::es) [] cpos) (Cp X.K T r to t):=by
 intro i s g H Q I h;refine wpAny_Call_method_late b d c rfl (Yz (B i s g H _ I h) λv s1 ⟨x,u,k,m,ty,y⟩=>?_);obtain⟨A,z⟩:=FE k m ty;refine⟨T,id,E,f,j,A,z,?_⟩;have l:=F cpos i s1 g u _ k y;rw[w] at l ⊢;refine Calls.callWith_builtin (by show(aB || (dj cpos (aT es X.env)).any (·.1))=aB;rw[a]<;>rfl) (Calls.evalArgs_plain ?_);exact Yz l λD s2 ⟨vs,G,n,q,C⟩=>p i s2 g G x vs v D Q n m q C
end
noncomputable def Cq(X:Cx)(id:String)(r:V->List V->Hp->VK->Prop):Prop:=
 ∀(jz:List (aH×cx))(s:aL)(σ:St)(H:Hp)(x:V)(xs:List V)(v:aF)(us:List aF)(Q:VK),Inv X jz σ H s->RelV x v->Vals xs us->r x xs H Q->
  bB (model X.prog X.w) X.A (call (.builtin id) (v::us)) (EP X jz σ Q) X.xe s
theorem Vals.one:∀{x:V}{us:List aF},Vals [x] us->∃u,us=[u]/\RelV x u
 | _,_,.cons r .nil=>⟨_,rfl,r⟩
theorem Vals.two:∀{x y:V}{us:List aF},Vals [x,y] us->∃u v,us=[u,v]/\RelV x u/\RelV y v
 | _,_,_,.cons r (.cons q .nil)=>⟨_,_,rfl,r,q⟩
theorem Vals.dropLast{a:List V}{b:List aF}(h:Vals a b):Vals a.dropLast b.dropLast:=by
 induction h with
 | nil=>exact .nil
 | cons r t ih=>
  cases t with
  | nil=>exact .nil
  | cons q t'=>exact .cons r ih
theorem Vals.rep{a:List V}{b:List aF}(h:Vals a b):∀k:Nat,Vals (aU k a).flatten (aU k b).flatten
 | 0=>.nil
 | k+1=>by rw[cy,cy,df,df];exact Vals.append h (Vals.rep h k)
theorem U9(a:List aF):∀(k:Nat)(acc:List aF),
  il (λc b=>c++b) acc.toArray (aU k a.toArray)=(acc++(aU k a).flatten).toArray
 | 0,acc=>by simp
 | k+1,acc=>by
  have e:acc.toArray++a.toArray=(acc++a).toArray:=by simp
  have d:(acc++a)++(aU k a).flatten=acc++(aU (k+1) a).flatten:=by rw[cy,df,el]
  rw[<-d,<-U9 a k (acc++a),<-e,cy,List.foldl_cons]
section
variable {X:Cx} {jz:List (aH×cx)} {σ:St} {H:Hp} {s:aL} {l b:aH} {xs ys zs:List V}
theorem Inv.lset{b a:List aF}{n:Nat}{f:Array aF->Array aF}{t':Nat}(I:Inv X jz σ H s)(i:H l=aA (.lst xs))
  (e:s.heap.get? l=aA { cls:=.type "list",data:=.seq b.toArray n }) (g:f b.toArray=a.toArray) (h:Vals ys a) (d:ys.length<=sizeLine) :
  Inv X jz σ (upd H l (.lst ys)) { s with heap:=s.heap.update l (ik f),toks:=t' }:=by
 have q:=PySem.IsL.update e f;rw[g] at q;refine I.write (by rw[i];exact trivial) (.inl rfl) (λk u c j=>(gu s.heap (ik f) (aj c)).trans j) ⟨_,q⟩ ?_;exact⟨d,a,_,h,q⟩
theorem Inv.lnew{a:List aF}{t':Nat}(I:Inv X jz σ H s)(c:Vals ys a)(b:ys.length<=sizeLine) :
  Inv X jz σ (upd H s.heap.objs.size (.lst ys)) { s with heap:=s.heap.push { cls:=.type "list",data:=.seq a.toArray },toks:=t' }:=
 I.laid (λ_ _ q=>aE _ q) (aG _) ⟨b,a,0,c,aZ _ rfl⟩
theorem Inv.fresh(I:Inv X jz σ H s):H s.heap.objs.size=none:=I.hok.fresh (aG _)
theorem Inv.lstM(I:Inv X jz σ H s)(b:H l=aA (.lst xs)):xs.length<=sizeLine/\∃(a:List aF) (n:Nat),Vals xs a/\xs.length=a.length/\s.heap.get? l=aA { cls:=.type "list",data:=.seq a.toArray n }:=by obtain⟨z,a,n,r,e⟩:=I.hok l _ b;exact⟨z,a,n,r,r.length,e⟩
theorem Oh{n:Nat}(h:n<=sizeLine):eH n=aB:=by exact decide_eq_false (by omega)
end
section
variable {X:Cx}
noncomputable def MD:V->List V->Hp->VK->Prop:=λx vs H Q=>∃l xs y,x = .ref l/\vs=[y]/\H l=aA (.lst xs)/\xs.length<sizeLine/\Q .non (upd H l (.lst (xs++[y])))
theorem Lw:Cq X "list.append" MD:=by intro o s g H x vs v k Q I f c h;obtain⟨l,i,y,rfl,rfl,a,j,q⟩:=h;cases f;obtain⟨u,rfl,b⟩:=c.one;obtain⟨z,d,n,r,m,e⟩:=I.lstM a;refine eM F.slot_list_append ⟨_,e,rfl⟩ F.entry_list_append (F.args_list_append_2 _ _) (PySem.list_append l d.toArray n u (by rw[aP];omega)) ⟨e,?_⟩;refine⟨.non,_,I.lset a e (by simp) (r.append (.cons b .nil)) ?_,rfl,q⟩;rw[bH,List.length_singleton];omega
noncomputable def IG:V->List V->Hp->VK->Prop:=λx vs H Q=>∃l b xs zs,x = .ref l/\vs=[.ref b]/\H l=aA (.lst xs)/\H b=aA (.lst zs)/\xs.length+zs.length<=sizeLine/\Q .non (upd H l (.lst (xs++zs)))
theorem mt_extend:Cq X "list.extend" IG:=by
 intro G s y H x vs v C Q I w k h;obtain⟨l,b,A,J,rfl,rfl,g,m,B,q⟩:=h;cases w;obtain⟨u,rfl,i⟩:=k.one;cases i;obtain⟨z,d,n,r,D,e⟩:=I.lstM g;obtain⟨E,a,p,j,t,o⟩:=I.lstM m;have f:d.toArray.size+a.toArray.size<=sizeLine:=by rw[aP,aP];omega
 have c:¬(!d.toArray.isEmpty&&eH (d.toArray.size+a.toArray.size))=aC:=by rw[Oh f,Bool.and_false];exact bO
 refine eM F.slot_list_extend ⟨_,e,rfl⟩ F.entry_list_extend (F.args_list_extend_2 _ _)
  (AutoSeq1.list_extend_list_list_0 l d.toArray n b a.toArray p c (by omega) (by omega)) ⟨e,o,?_⟩
 refine⟨.non,_,I.lset g e (by simp) (r.append j) ?_,rfl,q⟩;rw[bH];omega
noncomputable def Cs:R2:=λx y H Q=>∃l b xs zs,x = .ref l/\y = .ref b/\H l=aA (.lst xs)/\H b=aA (.lst zs)/\xs.length+zs.length<=sizeLine/\∀p,H p=none->Q (.ref p) (upd H p (.lst (xs++zs)))
theorem FF:U4 X (ck .Add) Cs:=by
 intro C s o H x y v u Q I m f h;obtain⟨l,b,p,D,rfl,rfl,i,g,w,q⟩:=h;cases m;cases f;obtain⟨z,c,n,r,A,e⟩:=I.lstM i;obtain⟨B,a,t,d,k,j⟩:=I.lstM g;refine PySem.P.add_list e j ?_ (by rw[aP,aP];omega);have ea:c.toArray++a.toArray=(c++a).toArray:=by simp
 rw[ea];exact⟨.ref _,_,I.lnew (r.append d) (by rw[bH];omega),rfl,q _ I.fresh⟩
noncomputable def Ct:R2:=λx y H Q=>∃l k xs,x = .ref l/\y = .int k/\H l=aA (.lst xs)/\-(2^63)<=k/\k<2^63/\xs.length*k.toNat<=sizeLine/\
 ∀p,H p=none->Q (.ref p) (upd H p (.lst (aU k.toNat xs).flatten))
theorem QZ{b:Type}(a:List b)(k:Nat):(aU k a).flatten.length=k*a.length:=by simp
theorem FG:U4 X (ck .Mult) Ct:=by
 intro N s L H x y v u Q I J p h;obtain⟨l,k,M,rfl,rfl,C,w,o,j,q⟩:=h;cases J;obtain⟨t,rfl⟩:=p;obtain⟨z,b,n,r,G,e⟩:=I.lstM C;have f:b.toArray.size*k.toNat<=sizeLine:=by rw[aP,<-G];exact j
 have d:¬b.toArray.size*k.toNat>(2^63-1)/8:=by
  have:(sizeLine:Nat)<=(2^63-1)/8:=by decide
  omega
 have i:¬(!Builtin.List.listFitsIndex k)=aC:=by rw[fitsIndex_both w o];exact bO
 have c:¬eH (b.toArray.size*k.toNat)=aC:=by rw[Oh f];exact bO
 have g:il (λA E=>A++E) #[] (aU (if b.toArray.isEmpty=aC then 0 else k.toNat) b.toArray)=(aU k.toNat b).flatten.toArray:=by
  have B:=λm=>by have:=U9 b m [];rw[List.nil_append] at this;exact this
  rw[B]
  cases b with
  | nil=>simp
  | cons a r'=>rw[k9 (by simp)]
 refine gP rfl ⟨_,e,rfl⟩ (λD=>gv D k t) noFill_list_mul F.fills_int_mul F.slot_int_rmul repeat_list F.slot_int_index.lookup
  (eM F.slot_int_rmul (gv s k t) F.entry_int_rmul (F.args_int_rmul_2 _ _) (int___rmul___int_list k t l b.toArray n)
   ⟨e,rfl,⟨_,e,rfl⟩,eM F.slot_list_mul ⟨_,e,rfl⟩ F.entry_list_mul (F.args_list_mul_2 _ _) (AutoListH.list___mul___list_int_3 l b.toArray n k t i d c) ⟨e,?_⟩⟩)
 rw[g];exact⟨.ref _,_,I.lnew (r.rep k.toNat) (by rw[QZ,cU];exact j),rfl,q _ I.fresh⟩
end
end L2
namespace Att
open PySem PySem.W PySem.Calls PyProof.Rows
theorem Sa{P:Params}{h:bU}:∀(c:List Int)(vs:List aF),WellAll P h vs (c.map jV)->IntsAre vs c:=by
 intro c
 induction c with
 | nil=>
  intro vs w;cases w;exact .nil
 | cons n c ih=>
  intro vs w
  cases w with
  | cons a b=>
   cases a;exact .cons _ _ (ih _ b)
theorem script_of{l:OpenLaw}{n:Nat}(t:l.most=aA n){P:Params}{h:bU}{b:List WData}{c:List aF}
  (e:l.row.toRowW.claim.pre b=aC) (m:WellAll P h c b) :
  ∃a vs f,c=[jP a]/\b=[WData.list (f.map jV)]/\h.get? a=aA { cls:=.type "list",data:=.seq vs.toArray }/\IntsAre vs f/\f.length<=n:=by
 have j:=(pre_splitW e).1;have o:=(pre_splitW e).2;obtain⟨d,r,rfl,q,p⟩:=hasAllW_cons j;obtain rfl:=hasAllW_nil p;obtain⟨u,rfl,s⟩:=hasW_list q;obtain⟨f,rfl⟩:=items_int s
 have g:f.length<=n:=by
  have i:(WTm.not (.lt (.lit (.int (n:Int))) (.len (.arg 0)))).holds [] { args:=[.list (f.map .int)] }=aC:=by have i:=(holds_andW o).1;rw[t] at i;exact i
  have k:=condW_of i (w_not (w_lt w_lit (w_len_list (w_arg rfl))))
  first
   | (rw[decide_eq_true q'] at k;exact absurd k rfl)
   | (simp at k;omega)
 cases m with
 | cons w1 w2=>
  cases w2
  cases w1 with
  | list ho hall=>exact⟨_,_,f,rfl,rfl,ho,Sa f _ hall,g⟩
theorem post_true(l:OpenLaw)(a:List WData):l.row.toRowW.claim.post a (.bool aC) a=aC:=
 postW_of
  (show WShape.has [] (.bool aC) .bool=aC by first | rfl | decide | simp[WShape.arms])
  (w_eq_bool (w_res rfl) w_lit) rfl
end Att
namespace L2
open PySem PySem.Spec PyProof.Rows
structure M2(X:Cx)(o:au)(m:ah)(apos:di)(e f:au)(cpos:di):Prop where
 base:attributeBase o m X.env (eval o X.env)=eval o X.env
 few:((dj cpos (aT [e,f] X.env)).all (λx=>!x.1)&&(backToKw cpos (keywordEach [] X.env)).all (λx=>x.1.isSome)
  &&decide (([e,f]:List au).length+([]:List Keyword).length+(if([]:List Keyword).isEmpty then 0 else 1)<30))=aC
 line:(apos.endLine==cpos.line)=aC
 trees:dj cpos (aT [e,f] X.env)=[(aB,eval e X.env),(aB,eval f X.env)]
theorem Qx:∀{vs:List aF}{ns:List Int},IntsAre vs ns->Vals (ns.map V.int) vs
 | _,_,.nil=>.nil
 | _,_,.cons n t h=>.cons ⟨t,rfl⟩ (Qx h)
noncomputable def FH(H:Hp):Prop:=∀b,H b=none\/∃o xs,H b=aA (.frz o (.lst xs))
theorem law_call{P:bM}{w:bz}{K:aD}{Q W:ah->Option aF}{CX:Iw}{k:Nat}{fa a:aH}{fd:dP}{x:ah}{sp:Sp}{f:aL}{vs:List aF}{U:List Int}
  (I:∀(q:ah)(c:aH),Li q=aC->cO K (.ref c) q=aC->False) (KX:K.In f.heap) (N:f.heap.Ns cJ Q) (j:f.heap.Ns ic W) (C:∀x:ah,x≠"__name__"->W x=cb x) (L:f.heap.NoLimit) (p:f.heap.NoSeer) (hg:f.gens = #[])
  (M:f.heap.get? a=aA { cls:=.type "list",data:=.seq vs.toArray }) (hi:IntsAre vs U) (hl:U.length<=sizeLine) (hr:Room k jK)
  (F:∀base:bU,K.In base->base.Ns cJ Q->T9 P w K Q base CX k fa fd [x] sp) (B:∀(s:aL)(u:aF),jG s fd ⟨[u],[]⟩ [(x,u)])
  (hsp:∀H:Hp,FH H->SqL K H a (U.map V.int)->sp [.ref a] H (λv _=>v = .bl aC) λ_ _ _=>False)
  (hCX:∀H e l,CX [] H f (λ_ _ _=>False) e l->False) :
  gp (model P w) jK (.call (.ref fa) ⟨[.ref a],[]⟩) (λr l=>r = .ok (.ret (.bool aC))/\OldK f.heap l.heap/\l.os=f.os/\gm l.gens) f:=by
 have rv:=Qx hi;have G:=hi.length
 -- from an abstract heap in which nothing but the script may be tracked
 have A:∀H:Hp,FH H->SqL K H a (U.map V.int)->HOk P w H f.heap->(∀b,H b≠none->b=a)->(H a≠none->K.lookup a=none)->
   gp (model P w) jK (.call (.ref fa) ⟨[.ref a],[]⟩) (λr l=>r = .ok (.ret (.bool aC))/\OldK f.heap l.heap/\l.os=f.os/\gm l.gens) f:=by
  intro H hO hS S hA hK;have g:∀{b:aH}{o:cx},f.heap.get? b=aA o->H b=none->(QT f.heap H).get? b=aA o:=λe n=>Kn e n
  have noA:∀{b:aH}{o:cx}{O:Array DictEntry}{ep:Nat},f.heap.get? b=aA o->o.data = .dict O ep->H b=none:=λ{b o O ep} e d=>by
   cases q:H b with
   | none=>rfl
   | some u=>
    have D:b=a:=hA b (by rw[q];simp);subst D;rw[M] at e;cases e;have d':Data.seq vs.toArray _=Data.dict O ep:=d;cases d'
  have i:∀{b:aH}{m:ah->Option aF},f.heap.Ns b m->(QT f.heap H).Ns b m:=λ{b m} ⟨o,O,ep,e,d,r⟩=>⟨o,O,ep,g e (noA e d),d,r⟩
  have E:K.In (QT f.heap H):=λb o e=>g (KX b o e) (by
   cases q:H b with
   | none=>rfl
   | some u=>
    have D:b=a:=hA b (by rw[q];simp);subst D;rw[hK (by rw[q];simp)] at e;cases e)
  have Z:∀{b:aH}{o:cx},f.heap.get? b=aA o->o.cls = .type "module"->H b=none:=λ{b o} e d=>by
   cases q:H b with
   | none=>rfl
   | some u=>
    have D:b=a:=hA b (by rw[q];simp);subst D;rw[M] at e;cases e;injection d with d
    exact absurd d (by decide)
  have hM:Mod K Q (QT f.heap H):=⟨E,i N,⟨W,i j,C⟩,let⟨X,t,y⟩:=L;⟨X,i t,y⟩,⟨let⟨X,t,y⟩:=p.statics;⟨X,i t,y⟩,let⟨mm,t,y⟩:=p.mods;⟨mm,i t,y⟩,⟨W,i j,C⟩,let⟨mg',bm,Y,t,y,h3,h4,h5⟩:=p.main;⟨mg',bm,Y,i t,y,g h3 (Z h3 h4),h4,h5⟩⟩⟩;have e0:Iy P w K Q (QT f.heap H) jK [] f H:=⟨rfl,hM,λb o e=>Ic e,Nat.le_of_eq (Lj _ _),trivial,λb j=>absurd (show b∈([]:List aH) from j) (by simp),λq c t y=>(I q c t y).elim,S,.of_eq hg⟩;refine jH ((F _ E (i N)).run jK [] f H ⟨[.ref a],[]⟩ [.ref a] [.ref a] _ _ hr e0 (B f (.ref a)) (.cons rfl .nil) (hsp H hO hS)) λr l h=>?_
  cases r with
  | error e=>exact(hCX H e l h).elim
  | ok fl=>
   cases fl with
   | next=>exact dW h
   | brk=>exact dW h
   | cont=>exact dW h
   | ret u=>
    obtain⟨v,H',os,T,un,J,r',q⟩:=h;have q':v = .bl aC:=q;subst q';obtain rfl:u=aF.bool aC:=r';refine⟨rfl,OldK.of_keep λb o e=>?_,os,T⟩
    cases q:H b with
    | none=>exact un.keep b o e q (by intro z;exact absurd (show b∈([]:List aH) from z) (by simp)) (by simp)
    | some u=>
     rcases hO b with z | ⟨Y,xs,z⟩
     ·rw[q] at z;cases z
     ·have z2:=un.frzs b Y _ z;obtain⟨e1,_⟩:=S b _ z;obtain⟨e2,_⟩:=J b _ z2;rw[e] at e1;cases e1;exact e2
 cases hk:K.lookup a with
 | some o=>
  -- the script is one of the module's own objects
  have e:=KX a o hk;rw[M] at e;cases e;refine A (λ_=>none) (λ_=>.inl rfl) (.inr ⟨_,vs.toArray,_,hk,rfl,rfl,rfl,by rw[aP,G];exact hl,by simpa using rv⟩) (λb u z=>by have R:(none:Option HO)=aA u:=z;cases R) (λb z=>absurd rfl z) λz=>absurd rfl z
 | none=>
  refine A (λb=>if b=a then aA (.frz { cls:=.type "list",data:=.seq vs.toArray } (.lst (U.map V.int))) else none) (λb=>?_) (.inl (.inr ⟨{ cls:=.type "list",data:=.seq vs.toArray },k8 rfl⟩)) (λb u z=>?_) (λb z=>?_) λ_=>hk
  ·by_cases j:b=a
   ·exact .inr ⟨_,_,k8 j⟩
   ·exact .inl (k9 j)
  ·by_cases j:b=a
   ·have R:=(k8 j).symm.trans z;cases R;subst j;exact⟨M,by rw[aO];exact hl,vs,_,rv,M⟩
   ·have R:=(k9 j).symm.trans z;cases R
  ·by_cases j:b=a
   ·exact j
   ·exact absurd (k9 j) z
noncomputable def YN(s:b7):Arguments:=match s with
 | .FunctionDef _ a _ _ _ _ _ _ _ _=>a
 | _=>{ posonlyargs:=[],args:=[],vararg:=none,kwonlyargs:=[],kw_defaults:=[],kwarg:=none,defaults:=[] }
noncomputable def Yc(s:b7):List b7:=match s with
 | .FunctionDef _ _ b _ _ _ _ _ _ _=>b
 | _=>[]
noncomputable def Zg(s:b7):dA:=match s with
 | .FunctionDef _ _ _ _ _ _ sc _ _ _=>sc
 | _=>{ kind:=.function,names:=[],isGenerator:=aB,isCoroutine:=aB }
abbrev Nw:Iw:=λ_ _ _ _ _ _=>False
abbrev E0:XK:=λ_ _ _=>False
theorem Dc{X:Cx}:Nr Nw X E0:=λ_ _ _ _ _ _ _ h=>h.elim
structure Fun(K:aD)(x qual:ah)(st:b7)(f:aH)(fd:dP):Prop where
 ex:∃(oc:aF) (od:Option aH) (kV doc pm:aF) (an:Option aH) (cdv ct:aF) (osl:Array (Option aF)),
  fd=cG x qual (YN st) (Yc st) (Zg st) .none kV doc pm an cdv ct/\K.lookup f=aA ⟨oc,od,.func fd,osl⟩/\cO K cdv qual=aC
 kp:eZ K (.ref f)=aC
section
variable {P:bM} {w:bz} {K:aD} {mg:ah->Option aF} {base:bU}
theorem Fun.ok{x b:ah}{st:b7}{f:aH}{j:dP}{N e:List ah}{k:Nat}{sp:Sp}(F:Fun K x b st f j)(S:Zl N e (Zg st))(len:∀vs H Q E,sp vs H Q E->vs.length=e.length)
  (d:∀(c:aF)(A:bj)(a:List jQ)(s:aL)(H:Hp)(vs:List V)(Q:VK)(E:XK),Room k (A.deeper (fI b (Zg st) s.heap.objs.size f c))->sp vs H Q E->
   ∃t,PSs (SK Nw P w K mg base N b (Zg st) f c A a s H E).nox (Yc st) t/\t { nx:=λ_ n=>Q .non n,rt:=Q } (start N vs) H):T9 P w K mg base Nw (k+1) f j e sp:=by
 obtain⟨y,r,kV,o,u,v,c,ct,m,rfl,p,i⟩:=F.ex;refine YM p i S len λA a s H vs Q E l g=>?_;obtain⟨t,h,q⟩:=d c A a s H vs Q E l g;exact⟨t,h.nox,q⟩
theorem Fun.binds{x a:ah}{st:b7}{f:aH}{i:dP}{e:List ah}(F:Fun K x a st f i)
  (h:∀(kV c d:aF)(g:Option aH)(b ct:aF)(us:List aF),us.length=e.length->gD (cG x a (YN st) (Yc st) (Zg st) .none kV c d g b ct) ⟨us,[]⟩=pure (e.zip us)):Binds K i e []:=by
 obtain⟨m,l,kV,c,d,g,b,ct,j,rfl,n,k⟩:=F.ex;exact .all (h kV c d g b ct)
theorem FI{x a:ah}{st:b7}{f:aH}{j:aF}{i h:Option aH}{e:Array (Option aF)}{kV d g b ct:aF}(l:K.lookup f=aA ⟨j,i,.func (cG x a (YN st) (Yc st) (Zg st) .none kV d g h b ct),e⟩)
  (c:cO K b a=aC) (k:eZ K (.ref f)=aC):Fun K x a st f (cG x a (YN st) (Yc st) (Zg st) .none kV d g h b ct):=⟨⟨j,i,kV,d,g,h,b,ct,e,rfl,l,c⟩,k⟩
end
section
variable {X:Cx}
theorem pv(i:Nat){x:ah}{a:di}(e:X.N[i]?=aA x:=by rfl)(c:DJ X.env.scope x:=by first | exact ip rfl | exact iM (ip rfl) | exact iM (iM rfl))(d:(x==("__debug__" : ah))=aB:=by decide)
  (b:(x==("__classdict__" : ah))=aB:=by decide):PE X (.Name x a) (RW i):=G4 e c d b
end
theorem Dd{A B:Prop}(h:B):if aB=aC then A else B:=by rw[k9 bO];exact h
theorem De{A B:Prop}(h:A):if aC=aC then A else B:=by rw[k8 rfl];exact h
noncomputable def Same(H H':Hp):Prop:=∀b o,H b=aA o->H' b=aA o
theorem Same.refl(H:Hp):Same H H:=λ_ _ h=>h
theorem Same.trans{H e d:Hp}(a:Same H e)(b:Same e d):Same H d:=λc o h=>b c o (a c o h)
theorem Same.free{H a:Hp}(e:Same H a){l:aH}(h:a l=jw):H l=jw:=by
 cases q:H l with
 | none=>rfl
 | some o=>
  rw[e l o q] at h;cases h
end L2
set_option maxHeartbeats 4000000
namespace L2
open PySem PySem.Spec PyProof.Rows
noncomputable def Y9(cells:List (ah×aH)):List (ah×dB)->List (ah×aH)->List (ah×aH)
 | [],acc=>acc
 | (n,k)::r,acc=>Y9 cells r (if(k==bF)=aC then(n,(cells.lookup n).getD 0)::acc else acc)
theorem VZ{env:jQ}:∀(names:List (ah×dB))(acc:List (ah×aH)),(∀y∈names,y.2 = .free->(env.cells.lookup y.1).isSome=aC)->
  (forIn (m:=Sem) names acc λ(x:ah×dB) (e:List (ah×aH))=>
   match x with
   | (name,kind)=>if(kind==bF)=aC then do
     let c <-cellOf env name
     pure (dX ((name,c)::e))
    else pure (dX e))=pure (Y9 env.cells names acc)
 | [],acc,_=>rfl
 | (n,k)::r,acc,h=>by
  rw[List.forIn_cons];have d:=λa=>VZ r a λy f=>h y (aW _ f)
  cases hk:(k==bF) with
  | true=>
   have i:=h (n,k) a9 (by simpa using hk);obtain⟨c,b⟩:=bZ.mp i;have b:env.cells.lookup n=aA c:=b;have g:cellOf env n=pure c:=by unfold cellOf;rw[b]
   dsimp only
   rw[hk,k8 rfl,g];refine eu (d ((n,c)::acc)) ?_;show _=pure (Y9 env.cells r (if(k==bF)=aC then(n,(env.cells.lookup n).getD 0)::acc else acc));rw[k8 hk,b];rfl
  | false=>
   dsimp only
   rw[hk,k9 bO];refine eu (d acc) ?_;show _=pure (Y9 env.cells r (if(k==bF)=aC then(n,(env.cells.lookup n).getD 0)::acc else acc));rw[k9 (by rw[hk];exact bO)]
theorem X1{a:dA}{env:jQ}(h:∀y∈a.names,y.2 = .free->(env.cells.lookup y.1).isSome=aC):closureFor a env=pure (Y9 env.cells a.names []):=by
 have e:=VZ a.names [] h;unfold closureFor
 dsimp only
 rw[e];rfl
theorem Wf{cells:List (ah×aH)}{x:ah}{c:aH}:∀(names:List (ah×dB))(acc:List (ah×aH)),(∀y∈names,y.2 = .free->(cells.lookup y.1).isSome=aC)->(acc.lookup x=aA c->cells.lookup x=aA c)->
  (Y9 cells names acc).lookup x=aA c->cells.lookup x=aA c
 | [],_,_,h,e=>h e
 | (n,k)::r,acc,hf,h,e=>by
  refine Wf r _ (λy g=>hf y (aW _ g)) ?_ e;intro q;by_cases b:(k==bF)=aC
  ·rw[k8 b,bI] at q
   cases hx:x==n with
   | true=>
    rw[hx] at q;have f:x=n:=by simpa using hx
    obtain⟨d,a⟩:=bZ.mp (hf (n,k) a9 (by simpa using b));have a:cells.lookup n=aA d:=a;rw[a] at q;rw[f,a];exact q
   | false=>rw[hx] at q;exact h q
  ·rw[k9 b] at q;exact h q
theorem SN{cells:List (ah×aH)}{x:ah}:∀(names:List (ah×dB))(acc:List (ah×aH)),(acc.lookup x).isSome=aC->((Y9 cells names acc).lookup x).isSome=aC
 | [],_,h=>h
 | (n,k)::r,acc,h=>by
  refine SN r _ ?_;split
  ·rw[bI];split<;>simp_all
  ·exact h
theorem Wg{cells:List (ah×aH)}{x:ah}:∀(names:List (ah×dB))(acc:List (ah×aH)),(x,bF)∈names->((Y9 cells names acc).lookup x).isSome=aC
 | (n,k)::r,acc,h=>by
  rcases af.mp h with e | h
  ·cases e;refine SN r _ ?_;rw[k8 (by decide),bI];simp
  ·exact Wg r _ h
structure CompScope(N:List ah)(around scope:dA)(own fr:List ah)(ix:List Nat):Prop where
 kind:scope.kind = .function
 nocell:∀y∈scope.names,y.2≠.cell
 names:∀y∈scope.names,y.2 = .local->scope.names.lookup y.1=aA .local
 frees:∀y∈scope.names,y.2 = .free->(around.names.lookup y.1=aA .cell\/around.names.lookup y.1=aA .free)
 slots:fr.map aA=ix.map (λi=>N[i]?)
 outs:∀x∈fr,(x,bF)∈scope.names
 apart:∀x∈fr,scope.names.lookup x≠aA .local
noncomputable def ZA(X:Cx)(N':List ah)(scope:dA)(cl:List (ah×aH))(C:aH)(s:aL)(H:Hp)(ex:List aH):Cx:=
 { X with N:=N',s₀:=s,H₀:=H,env:=iN scope cl C X.env,outer:=X.stack,ex:=ex,fn:=λ_=>aB,pn:=[],xe:=λ_ _=>False }
noncomputable def ZP(n:Nat)(ix:List Nat)(σ:St):St:=aU n none++ix.map (λi=>(σ[i]?).join)
theorem Yr{env:jQ}{x:ah}:∀{names:List (ah×dB)}{k:dB},names.lookup x=aA k->
  (names.map λ(n,k)=>if(k==bF&&env.scope.kind==.function&&env.kindOf n==aA .cell) then(n,b5) else(n,k)).lookup x =
   aA (if(k==bF&&env.scope.kind==.function&&env.kindOf x==aA .cell)=aC then b5 else k)
 | [],_,h=>by simp at h
 | (n,k')::r,k,h=>by
  show List.lookup x ((if(k'==bF&&env.scope.kind==.function&&env.kindOf n==aA .cell)=aC then(n,b5) else(n,k'))::_)=_
  cases hx:x==n with
  | true=>
   simp only[bI,hx] at h;cases h;have e:x=n:=by simpa using hx
   subst e;split
   ·simp[bI]
   ·simp[bI]
  | false=>
   simp only[bI,hx] at h;split
   ·simp only[bI,hx];exact Yr h
   ·simp only[bI,hx];exact Yr h
theorem Xo{env:jQ}{x:ah}:∀{names:List (ah×dB)}{k':dB},
  (names.map λ(n,k)=>if(k==bF&&env.scope.kind==.function&&env.kindOf n==aA .cell) then(n,b5) else(n,k)).lookup x=aA k'->∃k,names.lookup x=aA k
 | [],_,h=>by simp at h
 | (n,k0)::r,k',h=>by
  have h:List.lookup x ((if(k0==bF&&env.scope.kind==.function&&env.kindOf n==aA .cell)=aC then(n,b5) else(n,k0))::_)=aA k':=h
  cases hx:x==n with
  | true=>exact⟨k0,by simp[bI,hx]⟩
  | false=>
   have:∃k,r.lookup x=aA k:=by
    apply Xo (env:=env) (k':=k');split at h<;>simpa [bI,hx] using h
   obtain⟨k,e⟩:=this;exact⟨k,by simp[bI,hx,e]⟩
section
variable {X:Cx} {jz:List (aH×cx)} {σ:St} {H:Hp} {s:aL} {own fr:List ah} {ix:List Nat} {scope:dA}
theorem CompScope.clos(S:CompScope X.N X.env.scope scope own fr ix)(I:Inv X jz σ H s):∀y∈scope.names,y.2 = .free->(X.env.cells.lookup y.1).isSome=aC:=λy b a=>by obtain⟨c,e⟩:=I.ok.has y.1 (S.frees y b a);rw[e];rfl
end
theorem Q0{prog:bM}{w:bz}{A:bj}{R:jv->aL->Prop}{s:aL}{E a y:au}{F:List au}{q:dA}{C:di}{D z:aF}{env:jQ}(I:Nat->aL->Prop)
  (turn:∀n s,I n s->bB (model prog w) A (ju D) (λr b=>match r with
   | none=>R (.ok .next) b
   | some v=>bB (model prog w) A (hU a D v) (λ_ g=>bB (model prog w) A (assign a env v) (λ_ j=>
     bB (model prog w) A (forIn F aC λc r=>if r=aC then do let ok <-ja c env (eval c env);pure (dX ok) else pure (dX r)) (λok i=>
      if ok=aC then bB (model prog w) A (eval E env) (λx k=>
       bB (model prog w) A (call (.builtin "list.append") [z,x]) (λ_ o=>∃m,m<n/\I m o) (iW (model prog w) A env λe f=>R (.error e) f) k) (iW (model prog w) A env λe f=>R (.error e) f) i
      else ∃m,m<n/\I m i) (iW (model prog w) A env λe f=>R (.error e) f) j) (iW (model prog w) A env λe f=>R (.error e) f) g) (iW (model prog w) A env λe f=>R (.error e) f) b) (iW (model prog w) A env λe f=>R (.error e) f) s)
  (n:Nat) (h:I n s) :
  gp (model prog w) A (.compLoop (.ListComp E [⟨a,y,F,0⟩] q C) 0 D z env) R s:=by
 refine codeAny_loop rfl I (λn s G=>?_) n h;refine wpAny_noted ?_;refine aJ (i6 (aJ (cQ (turn n s G) (λr b h₁=>?_) λ_ _ d=>d)))
 cases r with
 | none=>exact ag h₁
 | some v=>
  refine aJ (cQ h₁ (λ_ g p=>?_) λ_ _ d=>d);refine aJ (cQ p (λ_ j B=>aJ (cQ B (λok i l=>?_) λ_ _ d=>d)) λ_ _ d=>d)
  cases ok with
  | false=>exact ag ⟨rfl,l⟩
  | true=>
   exact aJ (aJ (cQ l (λx k u=>aJ (cQ u (λ_ o t=>ag (ag ⟨rfl,t⟩)) λ_ _ d=>d)) λ_ _ d=>d))
noncomputable def Nx(X:Cx)(k5:List au)(t:TT):Prop:=
 ∀(jz:List (aH×cx))(s:aL)(σ:St)(H:Hp)(Q:Bool->Hp->Prop),Inv X jz σ H s->t σ H Q->
  bB (model X.prog X.w) X.A (forIn k5 aC λc r=>if r=aC then do let ok <-ja c X.env (eval c X.env);pure (dX ok) else pure (dX r)) (TP X jz σ Q) X.xe s
noncomputable def Dg:TT:=λ_ H Q=>Q aC H
theorem IH{X:Cx}:Nx X [] Dg:=λ_ _ _ H _ I h=>wpAny_tests_nil ⟨H,I,h⟩
theorem II{X:Cx}{c:au}{t:TT}(h:PT X c t):Nx X [c] t:=λb s a H Q I d=>wpAny_tests_one (h b s a H Q I d)
noncomputable def Dh(n:Nat)(ix:List Nat)(g:TG)(tt:TT)(te:TE)(σ:St)(Q:VK)(J:It)(H1:Hp):Prop:=
 ∃W:Nat->Nat->List V->Hp->Prop,(∃m,W 0 m [] H1)/\∀i m ys H,W i m ys H->ys.length<=sizeLine/\
  ((J.stop i H/\∀p,H p=none->Q (.ref p) (upd H p (.lst ys)))\/
   (J.go i H/\∃N:List V->Hp->Prop,(∀ys' H',N ys' H'->∃m',m'<m/\W (i+1) m' ys' H')/\
    ∀x H',J.yld i H x H'->g x (ZP n ix σ) H' λσ2 H2=>σ2.drop n=(ZP n ix σ).drop n/\tt σ2 H2 λb H3=>if b=aC then te σ2 H3 λy H4=>N (ys++[y]) H4 else N ys H3))
noncomputable def SO(n:Nat)(ix:List Nat)(wi:TI)(g:TG)(tt:TT)(te:TE):TE:=λσ H Q=>wi σ H λJ H1=>Dh n ix g tt te σ Q J H1
theorem Lx{n:Nat}{ix:List Nat}{b a:St}(d:a.drop n=(ZP n ix b).drop n):∀(i:Nat) v,(ZP n ix b)[i]?=aA (aA v)->a[i]?=aA (aA v):=λi v e=>by
 by_cases c:i<n
 ·unfold ZP at e;rw[ar (by simpa using c),b6] at e;rw[k8 c] at e;cases e
 ·have q:=congrArg (λl=>l[i-n]?) d;simp only[eN] at q;rw[show n+(i-n)=i by omega] at q;rw[q];exact e
section
variable {X:Cx} {tg k6 iter:au} {k5:List au} {scope:dA} {pos:di} {own fr:List ah} {ix:List Nat} {wi:TI} {g:TG} {tt:TT} {te:TE}
theorem KC{jz:List (aH×cx)}{B:St}{G:Hp}{s2:aL}{F:List aH}{h₁:bU}{tk:Nat}{C:aH}(S:CompScope X.N X.env.scope scope own fr ix)(d:Inv X jz B G s2)(f2:∀b∈F,Wq X jz G b)(Q:∀b∈F,b<s2.heap.objs.size)
  (P:s2.heap.objs.size<=C) (U:h₁.Ns C λ_=>none) (s:∀b o,s2.heap.get? b=aA o->h₁.get? b=aA o) :
  Inv (ZA X (own++fr) scope (Y9 X.env.cells scope.names []) C s2 G F) [] (ZP own.length ix B) G { s2 with heap:=h₁,toks:=tk }:=by
 have cs:=S.clos d;have sub:∀x c,(Y9 X.env.cells scope.names []).lookup x=aA c->X.env.cells.lookup x=aA c:=λx c e=>Wf scope.names [] cs (λh=>by simp at h) e;have J:=d.stkSub
 have I:(ZA X (own++fr) scope (Y9 X.env.cells scope.names []) C s2 G F).Ok:=by
  refine⟨d.ok.mod,S.kind,d.ok.glob,d.ok.blt,P,λx y c t f=>d.ok.inj x y c (sub x c t) (sub y c f),λx hx=>?_,λx c h _=>?_,d.ok.hd,d.ok.frames,.inl rfl,λb w=>⟨?_,λx c e=>?_⟩,d.bs,?_,λb o e w=>?_,λb w z=>?_,d.stack,d.stkFree,d.ok.tab.un d.base,λ_ z=>absurd rfl z⟩
  ·-- the cells of the block's free names
   have T:(x,bF)∈scope.names:=by
    have:∃k',(relabel scope X.env).names.lookup x=aA k'/\(k' = .cell\/k' = .free):=by
     rcases hx with h | h
     ·exact⟨_,h,.inl rfl⟩
     ·exact⟨_,h,.inr rfl⟩
    obtain⟨k',e,R⟩:=this;obtain⟨k,D⟩:=Xo e;have L:=Yr (env:=X.env) D;have e:(scope.names.map λ(n,k)=>if(k==bF&&X.env.scope.kind==.function&&X.env.kindOf n==aA .cell) then(n,b5) else(n,k)).lookup x=aA k':=e;rw[L] at e;have m:=cW D
    cases k with
    | free=>exact m
    | cell=>exact absurd rfl (S.nocell _ m)
    | _=>simp at e;subst e;rcases R with z | z<;>cases z
   exact bZ.mp (Wg _ _ T)
  ·cases h
  ·-- F differs from the frame
   exact az (a0 (Q b w) P)
  ·exact(f2 b w).2.2.2.2.1 x c (sub x c e)
  ·exact aS d.ok.bsz d.sz
  ·rcases(f2 b w).2.2.2.1 with z | z
   ·exact d.ok.noex b o e z
   ·exact absurd (a0 (aR (d.ok.bs b o e).1) z) (br _)
  ·rcases af.mp (J b z) with e | e
   ·exact(f2 b w).2.1 e
   ·exact(f2 b w).2.2.1 e
 have sl:fr.length=ix.length:=by simpa using congrArg fK S.slots
 refine⟨I,rfl,d.bare,Un.kept s,⟨_,U,λi x v t f g=>?_⟩,λx c e=>?_,d.hok.fresh P,λx c e=>d.freeC x c (sub x c e),λp hp=>absurd (show p∈([]:List (aH×cx)) from hp) (by simp),d.hok.kept s,?_⟩
 ·-- a name of the def around
  have t:(own++fr)[i]?=aA x:=t;have H:¬i<own.length:=λH=>by unfold ZP at f;rw[ar (by simpa using H),b6,k8 H] at f;cases f
  rw[bK (by omega)] at t;unfold ZP at f;rw[bK (by simpa using H),cX,aQ] at f
  cases ej:ix[i-own.length]? with
  | none=>rw[ej] at f;cases f
  | some j=>
   rw[ej] at f;have f:(B[j]?).join=aA v:=by simpa using f
   have f:B[j]?=aA (aA v):=by
    cases q:B[j]? with
    | none=>rw[q] at f;cases f
    | some z=>rw[q] at f;exact congrArg aA f
   have hN:X.N[j]?=aA x:=by have q:=congrArg (λl=>l[i-own.length]?) S.slots;simp only[aQ,t,ej] at q;exact(av q).symm
   have W:=S.outs x (dk t);have hk:=S.frees _ W rfl;obtain⟨m,hn,hl⟩:=d.loc;obtain⟨u,r,l⟩:=hl j x v hN f (by rcases hk with k | k;exact .inr (.inl k);exact .inr (.inr k));refine⟨u,r,?_⟩;rcases l with⟨k,_⟩ | ⟨_,c,hc,A⟩
   ·have k:X.env.scope.names.lookup x=aA .local:=k;rcases hk with q | q<;>rw[k] at q<;>cases q
   ·obtain⟨c',E⟩:=bZ.mp (Wg _ [] W);have Y:=sub x c' E;rw[hc] at Y;cases Y;refine .inr ⟨?_,c,E,?_⟩
    ·have g:=g;rcases g with g | g
     ·obtain⟨Z,D⟩:=Xo g;have L:=Yr (env:=X.env) D;have g:(scope.names.map λ(n,k)=>if(k==bF&&X.env.scope.kind==.function&&X.env.kindOf n==aA .cell) then(n,b5) else(n,k)).lookup x=aA .local:=g;rw[L] at g
      have N:Z = .local:=by
       cases Z<;>simp at g ⊢
       split at g<;>cases g
      subst N;exact absurd D (S.apart x (dk t))
     ·exact g
    ·obtain⟨o,O,M⟩:=A;exact⟨o,s _ _ O,M⟩
 ·obtain⟨v,o,O,M⟩:=d.cell x c (sub x c e);exact⟨v,o,s _ _ O,M⟩
 ·show(ZP own.length ix B).length=(own++fr).length;unfold ZP;rw[bH,cX,aO,bH,sl]
noncomputable def Oa(fv:ah->Bool)(X:Cx)(N':List ah)(scope:dA)(cl:List (ah×aH))(C:aH)(s:aL)(H:Hp)(ex:List aH):Cx:=
 { X with N:=N',s₀:=s,H₀:=H,env:=iN scope cl C X.env,outer:=X.stack,ex:=ex,fn:=fv,pn:=[],xe:=λ_ _=>False }
theorem Qy{fv:ah->Bool}{N:List ah}{cl:List (ah×aH)}{kk:Nat}{C D:aH}{h₁:bU}{tk:Nat}{jz:List (aH×cx)}{Z:St}{w:Hp}{s2:aL}{k:List aH}{it:aH}{tn:Nat->bU->Prop}{J:It}{Fin:List V->Hp->Prop}{RR:aF->aH->jv->aL->Prop}
  (E:X.calm=aC) (hg:PG (Oa fv X N scope cl C s2 w k) tg g) (ht:Nx (Oa fv X N scope cl C s2 w k) k5 tt) (he:PE (Oa fv X N scope cl C s2 w k) k6 te)
  (I2:Inv X jz Z w s2) (T:QU X.prog X.w X.K tg J k it tn) (st2:tn 0 s2.heap) (f2:∀b∈k,Wq X jz w b)
  {W:Nat->Nat->List V->Hp->Prop} {m0:Nat} (w0:W 0 m0 [] w)
  (turn:∀i m f H,W i m f H->f.length<=sizeLine/\
   ((J.stop i H/\Fin f H)\/
    (J.go i H/\∃N:List V->Hp->Prop,(∀ys' j,N ys' j->∃m',m'<m/\W (i+1) m' ys' j)/\
     ∀x j,J.yld i H x j->g x (ZP kk ix Z) j λσ2 w=>σ2.drop kk=(ZP kk ix Z).drop kk/\tt σ2 w λb t=>if b=aC then te σ2 t λy H4=>N (f++[y]) H4 else N f t)))
  (hRR:∀(D C:aH)(oC:cx)(m:ah->Option aF)(I:aL)(j:Hp)(f:List V),Inv X (jz++[(C,oC)]) Z (upd j D (.lst f)) I->I.heap.get? C=aA oC->I.heap.Ns C m->Wq X jz (upd j D (.lst f)) C->j D=none->Fin f j->RR (.ref D) C (.ok .next) I)
  (hfp:∀b∈k,b<s2.heap.objs.size) (hC:@Eq Nat C (D+1)) (hDD:@Eq Nat s2.heap.objs.size D) (old:∀b o,s2.heap.get? b=aA o->h₁.get? b=aA o) (hacc:h₁.get? D=aA { cls:=.type "list",data:=.seq ([]:List aF).toArray 0 })
  (I0:∀tk,Inv (Oa fv X N scope cl C s2 w k) [] (ZP kk ix Z) w { s2 with heap:=h₁,toks:=tk }) (hcl:∀x c,cl.lookup x=aA c->c≠D) :
  gp (model X.prog X.w) X.A (.compStart (.ListComp k6 [⟨tg,iter,k5,0⟩] scope pos) 0 (.ref it) (.ref D) (iN scope cl C X.env)) (RR (.ref D) C) { s2 with heap:=h₁,toks:=tk }:=by
 have hDC:@Ne Nat D C:=by omega
 have h:∀b,b<s2.heap.objs.size->b≠C/\b≠D:=λb a=>by rw[hDD] at a;exact⟨az (by omega),az a⟩
 have loop:gp (model X.prog X.w) X.A (.compLoop (.ListComp k6 [⟨tg,iter,k5,0⟩] scope pos) 0 (.ref it) (.ref D) (iN scope cl C X.env)) (RR (.ref D) C) { s2 with heap:=h₁,toks:=tk }:=by
  generalize l:Oa fv X N scope cl C s2 w k=Y at I0 hg ht he
  have G:∀{j:Hp}{pn:List (aH×cx)},(∀b∈k,j b=none)->(∀p∈pn,∀b∈k,p.1≠b)->∀b∈k,Wq Y pn j b:=λ{j pn} hn B b a=>by
   subst l;refine⟨hn b a,(h b (hfp b a)).1,λz=>?_,.inl a,λx c e=>?_,λp hp'=>B p hp' b a⟩
   ·exact(I0 0).ok.exfs b a z
   ·exact((I0 0).ok.exf b a).2 x c e
  have dfp:=λb a=>aj (h b (hfp b a)).2;have S:∀x c,Y.env.cells.lookup x=aA c->c≠D:=by subst l;exact hcl
  have hfsD:D∉Y.fs:=λz=>by subst l;obtain⟨_,o,ho,_⟩:=(I0 0).ok.funs.mem z;have:=aR ho;have:D<s2.heap.objs.size:=this;exact br _ (Nat.lt_of_lt_of_eq this hDD)
  have eL:Y.env.locals=C:=by subst l;rfl
  have eS:Y.s₀=s2:=by subst l;rfl
  have eP:Y.pn=[]:=by subst l;rfl
  refine Q0 (λn I=>∃i f A F j,Inv Y [] (ZP kk ix Z) j I/\tn i I.heap/\(∀b∈k,j b=none)/\I.heap.get? D=aA { cls:=.type "list",data:=.seq A F }/\Vals f A.toList/\j D=none/\W i n f j) ?_ m0
   ⟨0,[],#[],0,w,I0 _,T.keep _ _ _ st2 λb _ o e=>old b o e,λb a=>(f2 b a).1,hacc,.nil,I2.hok.fresh (by omega),w0⟩
  rintro n s3 ⟨i,f,A,F,t,I3,st3,fr3,oD,vD,nD,w3⟩;obtain⟨hlen,Q⟩:=turn i n f t w3;have hsize:A.size<=sizeLine:=by have:=vD.length;simp only[eA] at this;omega
  have pD:Inv Y [(D,{ cls:=.type "list",data:=.seq A F })] (ZP kk ix Z) t s3:=I3.pins_of λp B=>by rw[aw.mp B];exact⟨oD,nD,by rw[eL];exact hDC,hfsD,λv z=>by cases z⟩
  have YP:Y.prog=X.prog:=by subst l;rfl
  have Yw:Y.w=X.w:=by subst l;rfl
  have YK:Y.K=X.K:=by subst l;rfl
  have YA:Y.A=X.A:=by subst l;rfl
  have Yx:Y.xe=λ_ _=>False:=by subst l;rfl
  have Ye:Y.env=iN scope cl C X.env:=by subst l;rfl
  have ne1:∀p∈[((D,{ cls:=.type "list",data:=.seq A F }):aH×cx)],∀b∈k,p.1≠b:=λp B b a=>by rw[aw.mp B];exact dfp b a
  rcases Q with⟨stop,qn⟩ | ⟨go,N,hN,step⟩
  ·have d:=T.done Y YP Yw YK (by subst l;exact E) i _ s3 _ t (iW (model X.prog X.w) X.A (iN scope cl C X.env) λe I=>RR (.ref D) C (.error e) I) pD (G fr3 ne1) st3 stop;rw[YA] at d;refine Yz d λr s4 ⟨hr,I4⟩=>?_;subst hr;obtain⟨oD4,s,_⟩:=I4.pin (D,_) (by rw[eP];exact a9);obtain⟨m,hn,_⟩:=I4.loc;rw[eL] at hn;obtain⟨oC,es,ep,hoC,hdC,hrest⟩:=id hn;have O:t C=none:=by have:=I4.free;rw[eL] at this;exact this
   have un:Un (Ni X.stack) k w t s2.heap s4.heap:=by have:=I4.base;subst l;exact this
   have lt2:∀b o,s2.heap.get? b=aA o->b≠D:=λb o e=>(h b (aR e)).2
   have un':Un (Ni X.stack) k w (upd t D (.lst f)) s2.heap s4.heap:=by
    refine⟨un.keep,un.slot,λb o e n hx=>?_,un.there,λb xs e=>?_,λb o u e=>?_,λb ps e=>?_⟩
    ·rw[upd_ne (lt2 b o e)];exact un.free b o e n hx
    ·have q:=un.tups b xs e;rw[upd_ne (Zp q s)];exact q
    ·have q:=un.frzs b o u e;rw[upd_ne (Zp q s)];exact q
    ·obtain⟨more,q⟩:=un.tbls b ps e;exact⟨more,by rw[upd_ne (Zp q s)];exact q⟩
   have hok4:HOk X.prog X.w t s4.heap:=by have:=I4.hok;rw[YP,Yw] at this;exact this
   have hok':HOk X.prog X.w (upd t D (.lst f)) s4.heap:=λb u q=>by
    by_cases a:b=D
    ·subst a;rw[Zq] at q;cases q;exact⟨hlen,A.toList,F,vD,by simpa using oD4⟩
    ·rw[upd_ne a] at q;exact(hok4 b u q).stay (λc v _ z=>z) (λc z=>by rw[upd_ne (Zp z s)];exact z) (λc xs z=>by rw[upd_ne (Zp z s)];exact z) λc u z=>by rw[upd_ne (Zp z s)];exact z
   have os4:s4.os=s2.os:=by rw[I4.os,eS]
   have I5:=I2.call' os4 un' hok' I4.bare λb a=>⟨(f2 b a).2.2.2.1,(f2 b a).2.1,(f2 b a).2.2.2.2.1,(f2 b a).2.2.2.2.2⟩;have CL:C≠X.env.locals:=λz=>by exact(h _ I2.lt).1 z.symm
   have R:Wq X jz (upd t D (.lst f)) C:=I2.fpOk (by omega) (by rw[upd_ne (aj hDC)];exact O);refine hRR D C oC m s4 t f (I5.pins_of λp B=>?_) hoC hn R s qn;rcases bb.mp B with z | z
   ·exact I5.pin p (aa _ z)
   ·rw[aw.mp z];exact⟨hoC,R.1,R.2.1,R.2.2.1,λv z=>by rw[hdC] at z;cases z⟩
  ·have d:=T.item Y YP Yw YK (by subst l;exact E) i _ s3 _ t (λ_ _=>False) pD (G fr3 ne1) st3 go;rw[YA] at d;refine cQ d (λr s4 ⟨u,hr,h4⟩=>?_) λ_ _ z=>z.elim;subst hr;refine cQ h4 (λ_ s5 ⟨x,H5,I5,r5,y5,st5,fr5⟩=>?_) λ_ _ z=>z.elim;have I5':=I5.pinned (G fr5 ne1) (T.obj _ _ st5);have a6:=hg _ s5 _ H5 x u _ I5' r5 (step x H5 y5);rw[YP,Yw,YA,Ye,Yx] at a6;refine cQ a6 (λ_ s6 ⟨U,H6,I6,dr,q6⟩=>?_) λ_ _ z=>z.elim;have a7:=ht _ s6 U H6 _ I6 q6;rw[YP,Yw,YA,Ye,Yx] at a7;refine cQ a7 (λok s7 ⟨H7,I7,q7⟩=>?_) λ_ _ z=>z.elim
   have back:∀{L:Hp}{M:aL},Inv Y ([((D,{ cls:=.type "list",data:=.seq A F }):aH×cx)]++U5 k s5.heap) U L M->
     M.heap.get? D=aA { cls:=.type "list",data:=.seq A F }/\L D=none/\tn (i+1) M.heap/\(∀b∈k,L b=none):=λ{L M} P=>by
    obtain⟨e1,e2,_⟩:=P.pin (D,{ cls:=.type "list",data:=.seq A F }) (by simp);refine⟨e1,e2,T.keep _ _ _ st5 λb a o e=>(P.pin (b,o) (by rw[eP];exact aW _ (Wr a e))).1,λb a=>?_⟩;obtain⟨o,e,_⟩:=T.obj _ _ st5 b a;exact(P.pin (b,o) (by rw[eP];exact aW _ (Wr a e))).2.1
   have unp:∀{L:Hp}{M:aL},Inv Y ([((D,{ cls:=.type "list",data:=.seq A F }):aH×cx)]++U5 k s5.heap) U L M->Inv Y [] (ZP kk ix Z) L M:=λ{L M} P=>
    (P.pins_of λp B=>absurd B (by simp)).weak (by
     have e1:=(I0 0).len;have e2:=P.len;rw[e1,e2]) (Lx dr)
   cases ok with
   | false=>
    obtain⟨e1,e2,e3,e4⟩:=back I7;obtain⟨m',hm,w7⟩:=hN _ _ q7;exact⟨m',hm,i+1,f,A,F,H7,unp I7,e3,e4,e1,vD,e2,w7⟩
   | true=>
    have a8:=he _ s7 U H7 _ I7 q7;rw[YP,Yw,YA,Ye,Yx] at a8;refine cQ a8 (λyv M ⟨y,L,P,ry,q8⟩=>?_) λ_ _ z=>z.elim;obtain⟨e1,e2,e3,e4⟩:=back P;obtain⟨m',hm,w8⟩:=hN _ _ q8;refine append_at e1 (λh9 hs9 hD9=>?_) hsize;have I9:=(unp P).turned (t':=M.toks) (λb o a e=>hs9.extBut b o a e) e2 (by rw[eL];exact hDC) (.inr (by rw[eS];omega)) S (λp B=>absurd (show p∈([]:List (aH×cx)) by rw[eP] at B;exact B) (by simp));refine⟨m',hm,i+1,f++[y],A.push yv,F+1,L,I9,T.keep _ _ _ e3 λb a o e=>hs9.extBut b o (aj (dfp b a)) e,e4,hD9,?_,e2,w8⟩;rw[Array.toList_push];exact vD.append (.cons ry .nil)
 exact codeAny_compStart_list loop (T.self X.A 0 _ _ _ (T.keep _ _ _ st2 λb _ o e=>old b o e) loop)
theorem SQ{P:List (aH×cx)}{M:St}{I:Hp}{s2:aL}{Y:List aH}{Z:aH}{tn:Nat->bU->Prop}{J:It}{Fin:List V->Hp->Prop}{RR:aF->aH->jv->aL->Prop}{E:aF->aL->Prop}
  (n:X.calm=aC) (S:CompScope X.N X.env.scope scope own fr ix)
  (hg:∀cl C s H ex,PG (ZA X (own++fr) scope cl C s H ex) tg g) (ht:∀cl C s H ex,Nx (ZA X (own++fr) scope cl C s H ex) k5 tt) (he:∀cl C s H ex,PE (ZA X (own++fr) scope cl C s H ex) k6 te)
  (L:Inv X P M I s2) (T:QU X.prog X.w X.K tg J Y Z tn) (B:tn 0 s2.heap) (f2:∀b∈Y,Wq X P I b)
  {W:Nat->Nat->List V->Hp->Prop} {m0:Nat} (w0:W 0 m0 [] I)
  (turn:∀i m ys H,W i m ys H->ys.length<=sizeLine/\
   ((J.stop i H/\Fin ys H)\/
    (J.go i H/\∃N:List V->Hp->Prop,(∀ys' H',N ys' H'->∃m',m'<m/\W (i+1) m' ys' H')/\
     ∀x H',J.yld i H x H'->g x (ZP own.length ix M) H' λl I=>l.drop own.length=(ZP own.length ix M).drop own.length/\tt l I λb H3=>if b=aC then te l H3 λy H4=>N (ys++[y]) H4 else N ys H3)))
  (R:∀(D C:aH)(oC:cx)(m:ah->Option aF)(s':aL)(H':Hp)(ys:List V),Inv X (P++[(C,oC)]) M (upd H' D (.lst ys)) s'->s'.heap.get? C=aA oC->s'.heap.Ns C m->Wq X P (upd H' D (.lst ys)) C->H' D=none->Fin ys H'->RR (.ref D) C (.ok .next) s') :
  bB (model X.prog X.w) X.A (newList []) (λw G=>bB (model X.prog X.w) X.A (gF scope X.env.globals (Y9 X.env.cells scope.names []) [] X.env.qual none .none (aA X.env)) (λk A=>
   gp (model X.prog X.w) X.A (.compStart (.ListComp k6 [⟨tg,iter,k5,0⟩] scope pos) 0 (.ref Z) w { k with scope:=relabel scope X.env }) (RR w k.locals) A) E G) E s2:=by
 have F:∀b∈Y,b<s2.heap.objs.size:=λb O=>by obtain⟨o,e,_⟩:=T.obj 0 s2.heap B b O;exact aR e
 refine cu (wpAny_newFunctionEnv S.nocell (by simp) (λh₁ d a=>?_) S.kind);generalize r:s2.heap.push { cls:=.type "list",dict:=none,data:=.seq ([]:List aF).toArray }=G2 at d a ⊢;have U:G2.objs.size=s2.heap.objs.size+1:=by rw[<-r,bp]
 generalize hCC:G2.objs.size=C at d a U ⊢;generalize p:s2.heap.objs.size=D at U ⊢;have Q:D≠C:=by omega
 have f:∀b,b<s2.heap.objs.size->b≠C/\b≠D:=λb O=>by rw[p] at O;exact⟨az (by omega),az O⟩
 have u:=λb o e=>a.extBut b o (f b (aR e)).1 (aE _ (r▸aE _ e))
 have t:h₁.get? D=aA { cls:=.type "list",data:=.seq ([]:List aF).toArray 0 }:=by
  have e0:G2.get? D=aA { cls:=.type "list",data:=.seq ([]:List aF).toArray 0 }:=by rw[<-r,<-p];exact aZ _ rfl
  exact a.extBut _ _ Q (aE _ e0)
 have j:h₁.Ns C λ_=>none:=by simpa using d
 have I0:=λtk=>KC (tk:=tk) S L f2 F (by omega) j u;refine Qy (s2:=s2) (h₁:=h₁) (fv:=λ_=>aB) (N:=own++fr) (C:=C) (D:=D) (cl:=Y9 X.env.cells scope.names []) n (hg _ _ _ _ _) (ht _ _ _ _ _) (he _ _ _ _ _) L T B f2 w0 turn R F U p u t I0 λx c e z=>?_;obtain⟨v,q⟩:=L.cell x c (Wf scope.names [] (S.clos L) (λh=>by simp at h) e);exact(f c q.lt).2 z
theorem IJ(c:X.calm=aC)(w:PI X tg iter wi)(S:CompScope X.N X.env.scope scope own fr ix)
  (z:∀cl C s H ex,PG (ZA X (own++fr) scope cl C s H ex) tg g) (t:∀cl C s H ex,Nx (ZA X (own++fr) scope cl C s H ex) k5 tt) (M:∀cl C s H ex,PE (ZA X (own++fr) scope cl C s H ex) k6 te)
  (n:∀x,bT iter X.env x=pure x:=by intro _;rfl):PE X (.ListComp k6 [⟨tg,iter,k5,0⟩] scope pos) (SO own.length ix wi g tt te):=by
 intro E s k H Q I h;refine eI rfl n (X1 (S.clos I)) S.kind S.names (Yz (w E s k H _ I h) λv s1 r=>Yz r λL s2 q=>?_);obtain⟨N,Z,Y,J,H2,e,j,T,i,f2,W,⟨O,y⟩,turn⟩:=q;subst e;refine SQ c S z t M j T i f2 y turn ?_;intro D C R m U A l G F u a B d;refine⟨m,u,λP f=>⟨.ref D,upd A D (.lst l),?_,rfl,d D B⟩⟩;exact(G.unpinned).turned (λb o p e=>f.extBut b o p e) a.1 a.2.1 a.2.2.2.1 a.2.2.2.2.1 a.2.2.2.2.2
theorem IK{i:Nat}{y:ah}{t c:di}(Z:X.N.Nodup)(hy:X.N[i]?=aA y)(d:X.env.scope.names.lookup y=aA .local)(f:X.calm=aC)(R:PI X tg iter wi)(S:CompScope X.N X.env.scope scope own fr ix)
  (hg:∀cl C s H ex,PG (ZA X (own++fr) scope cl C s H ex) tg g) (P:∀cl C s H ex,Nx (ZA X (own++fr) scope cl C s H ex) k5 tt) (he:∀cl C s H ex,PE (ZA X (own++fr) scope cl C s H ex) k6 te)
  (l:f9 (.ListComp k6 [⟨tg,iter,k5,0⟩] scope pos) (aA (.Name y t)) c.line X.env=pure aC:=by rfl)
  (E:∀x,bT iter X.env x=pure x:=by intro _;rfl):PS X (.Assign [.Name y t] (.ListComp k6 [⟨tg,iter,k5,0⟩] scope pos) c) (Nl (SO own.length ix wi g tt te) (Uu i)):=by
 intro jz s z H D0 I h;rw[exec_Assign_Name_used _ _ _ _ l];refine aJ (i6 (aJ ?_))
 refine aJ (cQ (eI rfl E (X1 (S.clos I)) S.kind S.names
  (Yz (R jz s z H _ I h) λv s1 L=>Yz L λitv s2 G=>?_)) (λ_ O N=>ag (ag N)) λ_ _ e=>e)
 obtain⟨it,fp,tn,J,H2,e,w,T,p,f2,W,⟨m0,U⟩,turn⟩:=G;subst e;refine SQ f S hg P he w T p f2 U turn ?_;intro D C r m O H' A I5 q Q a nD k;refine wpAny_assign_Name (SG I5 Z hy (.inl d) (v:=.ref D) rfl (λs6 u=>?_) (.inr d));obtain⟨M,_⟩:=u.pin (C,r) (aa _ (aa _ a9));obtain⟨o',B,ep,j,Y⟩:=Q;rw[q] at j;cases j;refine⟨m,⟨r,B,ep,M,Y⟩,λh' n=>⟨_,upd H' D (.lst A),?_,k D nD⟩⟩;exact(u.unpinned).turned (λb o F e=>n.extBut b o F e) a.1 a.2.1 a.2.2.2.1 a.2.2.2.2.1 a.2.2.2.2.2
end
open AutoSeq1 (wpAny_loadPart')
section
variable {prog:bM} {w:bz} {A:bj} {E:aF->aL->Prop} {s:aL}
theorem Uv{b l:aH}{i:Nat}{items}{x:aF}{Q:aF->aL->Prop}(a:s.heap.IsTupleIter b l i)
  (j:s.heap.IsTuple l items) (h:items[i]?=aA x)
  (k:∀h',h'.IsTupleIter b l (i+1)->cE b s.heap h'->Q x { s with heap:=h' }) :
  bB (model prog w) A (gQ (.ref b)) Q E s:=by
 obtain⟨o,d,g,c⟩:=id a;obtain⟨m,e,_,n,f⟩:=j
 refine aJ (cq a.typeIs F.slot_tuple_iterator_next
  (dw F.slot_tuple_iterator_next a.typeIs F.entry_tuple_iterator_next ?_ (F.args_tuple_iterator_next_1 _)))
 show bB _ _ (field (.ref b) 0 >>= _) _ _ s;refine aJ (cD d c rfl ?_);refine aJ (cD d c rfl ?_);refine aJ (dC e f ?_);simp only[fA,h];refine aJ (wpAny_setField d c (by simp) (ag ⟨x,rfl,ag (k _ ?_ (iZ ..))⟩));exact⟨_,iE _ d (cx.isFreed_of_fields (ir c _)),(cx.cls_mapFields ..).trans g,by rw[ir c];simp[iH]⟩
theorem Ta{b l:aH}{i:Nat}{items}{Q:aF->aL->Prop}(h:A.handled=none)
  (a:s.heap.IsTupleIter b l i) (n:s.heap.IsTuple l items) (k:items[i]?=none)
  (j:∀h' e,j0 b s.heap h'->(∃o,h'.get? e=aA o/\o.cls = .type "StopIteration")->E (.ref e) { s with heap:=h' }) :
  bB (model prog w) A (gQ (.ref b)) Q E s:=by
 obtain⟨o,d,p,g⟩:=id a;obtain⟨q,c,_,r,f⟩:=n
 refine aJ (cq a.typeIs F.slot_tuple_iterator_next
  (dw F.slot_tuple_iterator_next a.typeIs F.entry_tuple_iterator_next ?_ (F.args_tuple_iterator_next_1 _)))
 show bB _ _ (field (.ref b) 0 >>= _) _ _ s;refine aJ (cD d g rfl ?_);refine aJ (cD d g rfl ?_);refine aJ (dC c f ?_);simp only[fA,k];refine aJ (jg (aJ (wpAny_setField d g (by simp) ?_)));refine aJ ?_;refine aJ (m:=firstArgMember _ _) (wpAny_of_eq rfl ?_);refine cu ?_ (by size_fits);refine aJ (wpAny_handled ?_)
 first | rw[h] | rw[h]
 refine aJ (ag (wpAny_throw ?_));exact j _ _ (((iZ ..).extBut.push _).push _) ⟨_,aZ _ rfl,rfl⟩
end
noncomputable def SeqB(b:Bool)(h:bU)(a:aH)(k7:Array aF):Prop:=if b=aC then h.IsList a k7 else h.IsTuple a k7
noncomputable def IterB(b:Bool)(h:bU)(it a:aH)(i:Nat):Prop:=if b=aC then h.IsListIter it a i else h.IsTupleIter it a i
noncomputable def Sd(b:Bool)(K:aD)(H:Hp)(a:aH)(xs:List V):Prop:=if b=aC then SqL K H a xs else SqT K H a xs
noncomputable def W5(b:Bool)(a:aH):cx:={ cls:=.type (if b=aC then "list_iterator" else "tuple_iterator"),data:=.fields #[.ref a,.int 0 0] }
theorem SeqB.at{b:Bool}{h d:bU}{a:aH}{c:Array aF}(x:SeqB b h a c)(k:∀o,h.get? a=aA o->d.get? a=aA o):SeqB b d a c:=by
 cases b with
 | true=>obtain⟨o,e,r⟩:=(x);exact⟨o,k o e,r⟩
 | false=>obtain⟨o,e,r⟩:=(x);exact⟨o,k o e,r⟩
theorem SeqB.has{b:Bool}{h:bU}{a:aH}{c:Array aF}(x:SeqB b h a c):∃o,h.get? a=aA o:=by
 cases b with
 | true=>obtain⟨o,e,r⟩:=(x);exact⟨o,e⟩
 | false=>obtain⟨o,e,r⟩:=(x);exact⟨o,e⟩
theorem IterB.at{b:Bool}{h d:bU}{c a:aH}{i:Nat}(x:IterB b h c a i)(k:∀o,h.get? c=aA o->d.get? c=aA o):IterB b d c a i:=by
 cases b with
 | true=>obtain⟨o,e,r⟩:=(x);exact⟨o,k o e,r⟩
 | false=>obtain⟨o,e,r⟩:=(x);exact⟨o,k o e,r⟩
theorem IterB.has{b:Bool}{h:bU}{c a:aH}{i:Nat}(x:IterB b h c a i):∃o,h.get? c=aA o/\∀v,o.data≠.cell v:=by
 cases b with
 | true=>obtain⟨o,e,_,d⟩:=(x);exact⟨o,e,λv z=>by rw[d] at z;cases z⟩
 | false=>obtain⟨o,e,_,d⟩:=(x);exact⟨o,e,λv z=>by rw[d] at z;cases z⟩
theorem IterB.new{b:Bool}{h:bU}{c a:aH}(e:h.get? c=aA (W5 b a)):IterB b h c a 0:=by
 cases b with
 | true=>exact⟨_,e,rfl,rfl⟩
 | false=>exact⟨_,e,rfl,rfl⟩
section
variable {X:Cx} {jz:List (aH×cx)} {σ:St} {H:Hp} {s:aL} {a:aH} {xs ys:List V} {b:Bool}
theorem Inv.seqB(I:Inv X jz σ H s)(h:Sd b X.K H a xs):∃c:List aF,Vals xs c/\SeqB b s.heap a c.toArray/\xs.length<=sizeLine:=by
 cases b with
 | true=>
  obtain⟨c,r,p,z⟩:=I.list (h);exact⟨c,r,p.isList,z⟩
 | false=>
  obtain⟨c,r,p,z⟩:=I.tuple (h);exact⟨c,r,p,z⟩
theorem Inv.seqB_inj(I:Inv X jz σ H s)(h:Sd b X.K H a xs)(c:Sd b X.K H a ys):xs=ys:=by
 cases b with
 | true=>exact I.list_inj (h) (c)
 | false=>exact I.tuple_inj (h) (c)
end
theorem Draws.seq{prog:bM}{w:bz}{A:bj}(b:Bool)(n:A.handled=none)(f l:aH)(g:l≠f)(a:Array aF) :
  Draws prog w A f [f,l] a.size (λi v=>a[i]?=aA v) (λi h=>IterB b h f l i/\SeqB b h l a) where
 live:=λ_ _ st=>let⟨o,r,_⟩:=st.1.has;⟨o,r⟩
 frame:=λ_ _ _ st q=>⟨st.1.at λo e=>q f (by simp) o e,st.2.at λo e=>q l (by simp) o e⟩
 item:=λi s Q E j st p=>by
  cases b with
  | true=>
   refine wpAny_nextOf_list_item (st.1) (st.2) (x:=a[i]) (by simp[j]) λk c d=>?_;exact p _ k s.toks (by simp[j]) ⟨c,st.2.at λo e=>d.extBut l o g e⟩ d
  | false=>
   refine Uv (st.1) (st.2) (x:=a[i]) (by simp[j]) λk c d=>?_;exact p _ k s.toks (by simp[j]) ⟨c,st.2.at λo e=>d.extBut l o g e⟩ d
 done:=λs Q E st m=>by
  cases b with
  | true=>exact wpAny_nextOf_list_end n (st.1) (st.2) (by simp) m
  | false=>exact Ta n (st.1) (st.2) (by simp) m
theorem Yd{prog:bM}{w:bz}{A:bj}{E:aF->aL->Prop}{s:aL}{b:Bool}{a:aH}{d:Array aF}{Q:aF->aL->Prop}(h:SeqB b s.heap a d)
  (c:Q (.ref s.heap.objs.size) { s with heap:=s.heap.push (W5 b a) }):bB (model prog w) A (pyIter (.ref a)) Q E s:=by
 cases b with
 | true=>exact wpAny_pyIter_list (h) c
 | false=>exact ie (h) c
set_option maxHeartbeats 4000000 in
theorem SR(b:Bool)(l:aH)(a:Array aF) :
  Meets (iX.«enumerate.__new__» ⟨[.type "enumerate",.ref l],[]⟩) (λ_ R s=>SeqB b s.heap l a/\
   R (.ok (.ret (.ref (s.heap.push (W5 b l)).objs.size)))
    { s with heap:=(s.heap.push (W5 b l)).push { cls:=.type "enumerate",data:=.fields #[.none,.bool aB,.ref s.heap.objs.size,iH 0,.none,.none] } }):=
 .of_wp λprog w A R s h=>by
  obtain⟨k,g,d,tk,os⟩:=s;obtain⟨j,h⟩:=h;have i:=sub_enumerate;obtain⟨o,e⟩:=j.has;have f:SeqB b (jx ⟨k,g,d,tk,os⟩) l a:=j
  wp_walk using fR e
  refine wpAny_stack_any λst=>ag ?_;split
  ·rename_i c _ _ _ _ _;cases (c==j9 "enumerate")
   ·wp_walk using fR e,Yd f
    exact⟨_,rfl,h⟩
   ·wp_walk using fR e,Yd f
    exact⟨_,rfl,h⟩
  ·wp_walk using fR e,Yd f
   exact⟨_,rfl,h⟩
section
variable {prog:bM} {w:bz} {A:bj} {E:aF->aL->Prop} {s:aL}
theorem RY{b:Bool}{l:aH}{a:Array aF}{Q:aF->aL->Prop}(f:SeqB b s.heap l a)
  (h:∀h',IsEnum h' (s.heap.objs.size+1) s.heap.objs.size 0 .none->IterB b h' s.heap.objs.size l 0->h'.objs.size=s.heap.objs.size+2->
   (∀b o,s.heap.get? b=aA o->h'.get? b=aA o)->Q (.ref (s.heap.objs.size+1)) { s with heap:=h' }) :
  bB (model prog w) A (call (.type "enumerate") [.ref l]) Q E s:=by
 refine callType_new F.called_enumerate rfl (F.typeCall_enumerate_1 _) (F.newCall_enumerate_1 _) (λc=>F.args_object_init_2 c _) F.entry_enumerate_new
  (SR b l a) ⟨f,?_⟩
 have d:(s.heap.push (W5 b l)).objs.size=s.heap.objs.size+1:=bp ..;rw[d]
 have e:IsEnum ((s.heap.push (W5 b l)).push
   { cls:=.type "enumerate",data:=.fields #[.none,.bool aB,.ref s.heap.objs.size,iH 0,.none,.none] }) (s.heap.objs.size+1) s.heap.objs.size 0 .none:=by
  have:=aZ (s.heap.push (W5 b l))
   (o:={ cls:=.type "enumerate",data:=.fields #[.none,.bool aB,.ref s.heap.objs.size,iH 0,.none,.none] }) rfl
  rw[d] at this;exact this
 refine⟨⟨_,e,rfl⟩,h _ e (IterB.new (aE _ (aZ _ rfl))) (by simp) λb o x=>aE _ (aE _ x)⟩
end
noncomputable def CY(b:Bool)(K:aD)(a:aH):It:=
  ⟨λi H=>∃xs x,Sd b K H a xs/\xs[i]?=aA x,
   λi H v H'=>∃p x,H p=none/\v = .ref p/\H'=upd H p (.tup [.int i,x])/\∀xs,Sd b K H a xs->xs[i]?=aA x,
   λi H=>∃xs,Sd b K H a xs/\xs.length=i⟩
theorem Ly{P:bM}{w:bz}{K:aD}{T:List au}{k:Nat}{pos:di}(b:Bool)(a e r:aH)(J:e≠r) :
  QU P w K (.Tuple T k pos) (CY b K a) [e,r] e (λi h=>(∃t,IsEnum h e r i t)/\IterB b h r a i) where
 mem:=by simp
 obj:=λi h st c M=>by
  rcases af.mp M with rfl | M
  ·obtain⟨⟨t,q⟩,_⟩:=st;exact⟨_,q,λv z=>by cases z⟩
  ·rw[aw.mp M];exact st.2.has
 keep:=λi h h' st kk=>⟨let⟨t,q⟩:=st.1;⟨t,kk e (by simp) _ q⟩,st.2.at λo q=>kk r (by simp) o q⟩
 item:=by
  intro X hP hw hK M i jz s σ H E I O st hg;subst hP hw hK;obtain⟨xs,x,hq,hx⟩:=hg;obtain⟨S,rv,p,hz⟩:=I.seqB hq;obtain⟨u,hu,ru⟩:=rv.get hx;obtain⟨⟨t,G⟩,l⟩:=st;have fe:=O e (by simp);have fi:=O r (by simp);obtain⟨oa,R⟩:=p.has
  -- the sequence is neither record
  have j:∀c,Wq X jz H c->(∃oc,s.heap.get? c=aA oc/\∃n vs,oc.cls = .type n/\oc.data = .fields vs)->a≠c:=λc _ ⟨oc,hoc,n,vs,hn,hv⟩ z=>by
   subst z;rw[R] at hoc;cases hoc
   cases b with
   | true=>obtain⟨o,F,_,m,d⟩:=(p);rw[R] at F;cases F;rw[hv] at d;cases d
   | false=>obtain⟨o,F,_,m,d⟩:=(p);rw[R] at F;cases F;rw[hv] at d;cases d
  have ae:=j e fe ⟨_,G,_,_,rfl,rfl⟩
  have ai:=j r fi (by
   cases b with
   | true=>obtain⟨o,F,c1,d1⟩:=(l);exact⟨o,F,_,_,c1,d1⟩
   | false=>obtain⟨o,F,c1,d1⟩:=(l);exact⟨o,F,_,_,c1,d1⟩)
  have D:=Draws.seq (prog:=X.prog) (w:=X.w) (A:=X.A.in1) b (I.ok.hd M) r a ai S.toArray;have hlt:i<S.toArray.size:=by have:=(aV.mp hu).1;simpa using this
  refine wpAny_pyNext_enum_itemD D G ⟨l,p⟩ hlt J (by simp[J,aj ae]) λy h' tk hPy ho hs' hT hsz hk=>?_
  have ey:y=u:=by
   have q1:=hPy;have q2:S.toArray[i]?=aA u:=by simpa using hu
   rw[q1] at q2;exact av q2
  subst ey;refine⟨_,rfl,wpAny_letOwnedTupleGo_enum ho λh2 he2 L=>?_⟩;have Tne:=du (aR G);have C:=I.hok.fresh (aG _);have kk:∀c o,c∉[e,r]->s.heap.get? c=aA o->h2.get? c=aA o:=λc o g q=>L.extBut c o (λz=>g (by simp[z])) (hk c o (λz=>g (by simp[z])) (λz=>g (by simp[z])) q);have hT2:=L.extBut _ _ Tne hT;have hcs:∀c∈[e,r],(c∈X.ex\/X.s₀.heap.objs.size<=c)/\c≠X.env.locals/\(∀x d,X.env.cells.lookup x=aA d->d≠c)/\∀p∈X.pn++jz,p.1≠c:=λc g=>by have f:=O c g;exact⟨f.2.2.2.1,f.2.1,f.2.2.2.2.1,f.2.2.2.2.2⟩
  have Z:∀c N,H c=aA N->c∉[e,r]:=λc N q g=>by rw[(O c g).1] at q;cases q
  have Y:=λc N q=>(I.hok c N q).stay (λd v hd q'=>kk d v (by
    rcases hd with z | z
    ·rw[z];exact Z c N q
    ·exact Z d _ z) q') (λ_ z=>z) (λ_ _ z=>z) λ_ _ z=>z
  have new:ObjOk X.prog X.w (upd H s.heap.objs.size (.tup [.int i,x])) h2 s.heap.objs.size (.tup [.int i,x]):=
   ⟨⟨by show 2<=sizeLine;decide,λo e=>by rw[hT2] at e;cases e;rfl⟩,[.int i tk,y],.cons ⟨tk,rfl⟩ (.cons ru .nil),⟨_,hT2,rfl,_,rfl⟩⟩
  have U:HOk X.prog X.w (upd H s.heap.objs.size (.tup [.int i,x])) h2:=λc N q=>by
   by_cases hb:c=s.heap.objs.size
   ·subst hb;rw[Zq] at q;cases q;exact new
   ·rw[upd_ne hb] at q;exact(Y c N q).stay (λd v _ q'=>q') (λd z=>by rw[upd_ne (Zp z C)];exact z) (λd zs z=>by rw[upd_ne (Zp z C)];exact z) λd u z=>by rw[upd_ne (Zp z C)];exact z
  have un:Un (Ni X.stack) [e,r] H (upd H s.heap.objs.size (.tup [.int i,x])) s.heap h2:=by
   refine⟨λc o q _ _ B=>kk c o B q,λc o q _ _ B=>⟨o.slots,kk c o B q⟩,λc o q n _=>?_,λc o q B=>⟨o,kk c o B q⟩,λc zs q=>?_,λc o zs q=>?_,λc ps q=>⟨#[],?_⟩⟩
   ·rw[upd_ne (az (aR q))];exact n
   ·rw[upd_ne (Zp q C)];exact q
   ·rw[upd_ne (Zp q C)];exact q
   ·rw[upd_ne (Zp q C),q];simp
  have I2:Inv X jz σ (upd H s.heap.objs.size (.tup [.int i,x])) { s with heap:=h2,toks:=tk+1 }:=I.call un U I.bare hcs;refine⟨.ref s.heap.objs.size,upd H s.heap.objs.size (.tup [.int i,x]),I2,rfl,⟨_,x,C,rfl,rfl,λzs hzs=>by rw[I.seqB_inj hzs hq];exact hx⟩,⟨⟨y,by simpa using he2⟩,?_⟩,λc g=>?_⟩
  ·exact hs'.1.at λo q=>L.extBut r o (aj J) q
  ·rw[upd_ne (az (by
    rcases af.mp g with rfl | g
    ·exact aR G
    ·rw[aw.mp g];obtain⟨o,q,_⟩:=l.has;exact aR q))]
   exact(O c g).1
 done:=by
  intro X hP hw hK M i jz s σ H E I O st hg;subst hP hw hK;obtain⟨xs,hq,hx⟩:=hg;obtain⟨S,rv,p,hz⟩:=I.seqB hq;obtain⟨⟨t,G⟩,l⟩:=st;have fi:=O r (by simp)
  have ai:a≠r:=λz=>by
   subst z
   cases b with
   | true=>
    obtain⟨o,F,_,m,d⟩:=(p);obtain⟨o',W,_,d2⟩:=(l);rw[F] at W;cases W;rw[d] at d2;cases d2
   | false=>
    obtain⟨o,F,_,m,d⟩:=(p);obtain⟨o',W,_,d2⟩:=(l);rw[F] at W;cases W;rw[d] at d2;cases d2
  have D:=Draws.seq (prog:=X.prog) (w:=X.w) (A:=X.A.in1) b (I.ok.hd M) r a ai S.toArray;have hl:=rv.length;have hi:i=S.toArray.size:=by simp;omega
  refine wpAny_pyNext_enum_endD D G (by rw[<-hi];exact⟨l,p⟩) λh' B=>⟨rfl,?_⟩;obtain⟨f0,f1,f2,f3,f4,f5⟩:=fi;exact I.turned (λc o hb q=>B c o hb q) f0 f1 f3 f4 f5
 self:=λA i s Q E st hQ=>by obtain⟨⟨t,G⟩,_⟩:=st;exact wpAny_pyIter_enum G hQ
end L2
namespace L2
open PySem PySem.Spec PyProof.Rows
section
variable {X:Cx}
noncomputable def Di(b:Bool)(K:aD)(ta:TA):TI:=λσ H R=>ta σ H λvs H1=>∃a,vs=[.ref a]/\(∃xs,Sd b K H1 a xs)/\R (CY b K a) H1
theorem IL{g:List au}{k:Nat}{i:di}(b:Bool){a:au}{n:TA}{p f:di}(A:Gl X "enumerate")(v:X.mg "enumerate" = none)(B:PA X [a] n)(x:aT [a] X.env=[(aB,eval a X.env)]:=by rfl) :
  PI X (.Tuple g k i) (.Call (.Name "enumerate" p) [a] [] f) (Di b X.K n):=by
 intro C s t H R I h;refine Call_ (V5 I A v rfl (cN (Yz (B f C s t H _ I h) λO s1 ⟨vs,w,d,E,y⟩=>?_) x rfl));obtain⟨a,e,⟨M,z⟩,q⟩:=y;subst e
 cases E with
 | cons r rr=>
  cases rr;cases r;obtain⟨J,G,j,N⟩:=d.seqB z;refine RY j λL o m D F=>?_;refine wpAny_pyIter_enum o ?_;have u:=d.kept (t':=s1.toks) F;have ne:s1.heap.objs.size+1≠s1.heap.objs.size:=du (g9 _);refine⟨s1.heap.objs.size+1,[s1.heap.objs.size+1,s1.heap.objs.size],_,_,w,rfl,u,Ly b a (s1.heap.objs.size+1) s1.heap.objs.size ne,⟨⟨.none,o⟩,m⟩,λc l=>?_,q⟩;rcases af.mp l with rfl | l
  ·exact d.fpOk (iO _) (d.hok.fresh (iO _))
  ·rw[aw.mp l];exact d.fpOk (aG _) (d.hok.fresh (aG _))
end
section
variable {prog:bM} {w:bz} {A:bj} {E:aF->aL->Prop} {s:aL}
structure Qz(z TI TO i1 i2:aH)(fp1 fp2:List aH):Prop where
 TIz:TI≠z
 TOz:TO≠z
 i1z:i1≠z
 i2z:i2≠z
 TITO:TI≠TO
 TIi1:TI≠i1
 TIi2:TI≠i2
 TOi1:TO≠i1
 TOi2:TO≠i2
 i12:i1≠i2
 z1:z∉fp1
 TO1:TO∉fp1
 i21:i2∉fp1
 z2:z∉fp2
 TO2:TO∉fp2
 i12':i1∉fp2
theorem KD{z TI TO i1 Z:aH}{fp1 fp2:List aH}{n1 n2 k:Nat}{P1 P2:Nat->aF->Prop}{O T:Nat->bU->Prop}{a b:aF}{Q:aF->aL->Prop}(D:Qz z TI TO i1 Z fp1 fp2)
  (D1:Draws prog w A i1 fp1 n1 P1 O) (D2:Draws prog w A Z fp2 n2 P2 T)
  (hz:hW s.heap z TI TO .none) (hTI:dm s.heap TI (.ref i1) (.ref Z)) (hTO:dm s.heap TO a b)
  (h1:O k s.heap) (h2:T k s.heap) (hx:k<n1) (hy:k<n2)
  (hQ:∀x y h' tk,P1 k x->P2 k y->hW h' z TI TO (iH s.heap.objs.size)->dm h' TO x y->O (k+1) h'->T (k+1) h'->dm h' s.heap.objs.size x y->h'.objs.size=s.heap.objs.size+1->
   (∀c o,c≠z->c≠TO->c≠i1->c≠Z->s.heap.get? c=aA o->h'.get? c=aA o)->Q (.ref s.heap.objs.size) { s with heap:=h',toks:=tk }) :
  bB (model prog w) A (iX.«zip.__next__» ⟨[.ref z],[]⟩) (λfin s'=>∃v,fin = .done (.ret v)/\Q v s') E s:=by
 show bB _ _ (field (.ref z) 2 >>= _) _ _ _;refine aJ (cD hz rfl rfl ?_);refine aJ (cD hz rfl rfl ?_);refine aJ (dC hTI rfl ?_);refine aJ ?_;refine aJ (cD hz rfl rfl (ag ?_));refine aJ (jg ?_);refine aJ (cD hz rfl rfl ?_);refine aJ (dD hz (by simp) λh₁ p l=>?_)
 replace p:hW h₁ z TI TO .ellipsis:=p
 refine aJ ?_;refine aJ (aJ (gZ ?_));have st1:=D1.frame _ _ _ h1 λc u o e=>l.extBut c o (λq=>D.z1 (q▸u)) e;refine aJ (D1.item k _ _ _ hx st1 λx N tk₂ hPx U f=>ag ?_)
 replace f:cE i1 h₁ N:=f
 have F:=f.extBut _ _ D.TOi1 (l.extBut _ _ D.TOz hTO);refine aJ (dC F rfl ?_);refine aJ (fL F λH m g=>?_)
 replace m:dm H TO x b:=m
 replace g:cE TO N H:=g
 refine aJ (j1 (ag ?_));refine aJ (aJ (gZ ?_));have st2:=D2.frame _ _ _ h2 λc u o e=>g.extBut c o (λq=>D.TO2 (q▸u)) (f.extBut c o (λq=>D.i12' (q▸u)) (l.extBut c o (λq=>D.z2 (q▸u)) e));refine aJ (D2.item k _ _ _ hy st2 λy M Y hPy X d=>ag ?_)
 replace d:cE Z H M:=d
 have C:=d.extBut _ _ D.TOi2 m;refine aJ (dC C rfl ?_);refine aJ (fL C λi j h=>?_)
 replace j:dm i TO x y:=j
 replace h:cE TO M i:=h
 refine aJ (j1 (ag (ag ?_)));refine aJ (dC j rfl ?_);refine aJ (wpAny_newTuple ?_);have hsz:i.objs.size=s.heap.objs.size:=by rw[h.1,d.1,g.1,f.1,l.1]
 have J:=h.extBut _ _ D.TOz.symm (d.extBut _ _ D.i2z.symm (g.extBut _ _ D.TOz.symm (f.extBut _ _ D.i1z.symm p)))
 have R:∀c o,c≠z->c≠TO->c≠i1->c≠Z->s.heap.get? c=aA o->i.get? c=aA o:=λc o c1 c2 c3 c4 e=>
  h.extBut _ _ c2 (d.extBut _ _ c4 (g.extBut _ _ c2 (f.extBut _ _ c3 (l.extBut _ _ c1 e))))
 have W:=D1.frame _ _ _ U λc u o e=>h.extBut c o (λq=>D.TO1 (q▸u)) (d.extBut c o (λq=>D.i21 (q▸u)) (g.extBut c o (λq=>D.TO1 (q▸u)) e));have S:=D2.frame _ _ _ X λc u o e=>h.extBut c o (λq=>D.TO2 (q▸u)) e;have L:=aR J;refine aJ ?_;have P:hW (i.push { cls:=.type "tuple",data:=.seq #[x,y] }) z TI TO .ellipsis:=aE _ J;refine aJ (dD P (by simp) λh₇ t r=>?_)
 replace t:hW h₇ z TI TO (iH i.objs.size):=t
 refine dD t (by simp) λG n B=>?_
 replace n:hW G z TI TO (iH i.objs.size):=n
 have up:∀c o,c≠z->i.get? c=aA o->G.get? c=aA o:=λc o c1 e=>B.extBut _ _ c1 (r.extBut _ _ c1 (aE _ e));have I:=B.extBut _ _ (du L) (r.extBut _ _ (du L) (aZ _ rfl));have hz8:G.objs.size=i.objs.size+1:=by rw[B.1,r.1,bp]
 rw[hsz] at n I hz8;refine ag ⟨_,rfl,?_⟩;rw[hsz];exact hQ x y G Y hPx hPy n (up _ _ D.TOz j) (D1.frame _ _ _ W λc u o e=>up c o (λq=>D.z1 (q▸u)) e) (D2.frame _ _ _ S λc u o e=>up c o (λq=>D.z2 (q▸u)) e) I hz8 λc o c1 c2 c3 c4 e=>up c o c1 (R c o c1 c2 c3 c4 e)
theorem IM{z TI TO F O:aH}{P N:List aH}{S n2 k:Nat}{P1 P2:Nat->aF->Prop}{G J:Nat->bU->Prop}{a b:aF}{Q:PySem.Fin->aL->Prop}(D:Qz z TI TO F O P N)
  (T:Draws prog w A F P S P1 G) (D2:Draws prog w A O N n2 P2 J)
  (L:hW s.heap z TI TO .none) (Z:dm s.heap TI (.ref F) (.ref O)) (X:dm s.heap TO a b)
  (h1:G k s.heap) (h2:J k s.heap) (H:k=S\/(k<S/\k=n2))
  (hE:∀h' tk e,(∀c o,c≠z->c≠TO->c≠F->c≠O->s.heap.get? c=aA o->h'.get? c=aA o)->(∃o,h'.get? e=aA o/\o.cls = .type "StopIteration")->E (.ref e) { s with heap:=h',toks:=tk }) :
  bB (model prog w) A (iX.«zip.__next__» ⟨[.ref z],[]⟩) Q E s:=by
 show bB _ _ (field (.ref z) 2 >>= _) _ _ _;refine aJ (cD L rfl rfl ?_);refine aJ (cD L rfl rfl ?_);refine aJ (dC Z rfl ?_);refine aJ ?_;refine aJ (cD L rfl rfl (ag ?_));refine aJ (jg ?_);refine aJ (cD L rfl rfl ?_);refine aJ (dD L (by simp) λh₁ i g=>?_)
 replace i:hW h₁ z TI TO .ellipsis:=i
 replace g:cE z s.heap h₁:=g
 refine aJ ?_;refine aJ (aJ (gZ ?_));have C:=T.frame _ _ _ h1 λc I o e=>g.extBut c o (λq=>D.z1 (q▸I)) e;rcases H with hk | ⟨hx,hk⟩
 ·rw[hk] at C;refine aJ (T.done _ _ _ C λl e d he=>?_)
  replace d:j0 F h₁ l:=d
  obtain⟨Y,n,u⟩:=he;have t:=d _ _ D.i1z.symm i;have B:e≠z:=λx=>by subst x;rw[t] at n;cases n;simp at u
  refine dD t (by simp) λm _ f=>?_
  replace f:cE z l m:=f
  exact hE m _ e (λc o c1 _ c3 _ x=>f.extBut _ _ c1 (d _ _ c3 (g.extBut _ _ c1 x))) ⟨Y,f.extBut _ _ B n,u⟩
 ·refine aJ (T.item k _ _ _ hx C λx l W hPx U d=>ag ?_)
  replace d:cE F h₁ l:=d
  have p:=d.extBut _ _ D.TOi1 (g.extBut _ _ D.TOz X);refine aJ (dC p rfl ?_);refine aJ (fL p λm R f=>?_)
  replace f:cE TO l m:=f
  refine aJ (j1 (ag ?_));refine aJ (aJ (gZ ?_));have M:=D2.frame _ _ _ h2 λc I o e=>f.extBut c o (λq=>D.TO2 (q▸I)) (d.extBut c o (λq=>D.i12' (q▸I)) (g.extBut c o (λq=>D.z2 (q▸I)) e));rw[hk] at M;refine aJ (D2.done _ _ _ M λy e h he=>?_)
  replace h:j0 O m y:=h
  obtain⟨Y,n,u⟩:=he;have r:=h _ _ D.i2z.symm (f.extBut _ _ D.TOz.symm (d.extBut _ _ D.i1z.symm i));have B:e≠z:=λx=>by subst x;rw[r] at n;cases n;simp at u
  refine dD r (by simp) λv _ j=>?_
  replace j:cE z y v:=j
  exact hE v _ e (λc o c1 c2 c3 c4 x=>j.extBut _ _ c1 (h _ _ c4 (f.extBut _ _ c2 (d.extBut _ _ c3 (g.extBut _ _ c1 x))))) ⟨Y,j.extBut _ _ B n,u⟩
theorem Se{z TI TO i j:aH}{h g:List aH}{n r k:Nat}{q u:Nat->aF->Prop}{e f:Nat->bU->Prop}{a b:aF}{Q:Option aF->aL->Prop}(D:Qz z TI TO i j h g)
  (v:Draws prog w A.in1 i h n q e) (N:Draws prog w A.in1 j g r u f)
  (t:hW s.heap z TI TO .none) (m:dm s.heap TI (.ref i) (.ref j)) (l:dm s.heap TO a b)
  (H:e k s.heap) (C:f k s.heap) (L:k<n) (R:k<r)
  (P:∀x y d tk,q k x->u k y->hW d z TI TO (iH s.heap.objs.size)->dm d TO x y->e (k+1) d->f (k+1) d->dm d s.heap.objs.size x y->d.objs.size=s.heap.objs.size+1->
   (∀c o,c≠z->c≠TO->c≠i->c≠j->s.heap.get? c=aA o->d.get? c=aA o)->Q (aA (.ref s.heap.objs.size)) { s with heap:=d,toks:=tk }) :
  bB (model prog w) A (ju (.ref z)) Q E s:=by
 have p:s.TypeIs (.ref z) "zip":=⟨_,t,rfl⟩
 exact aJ (wpAny_attempt (cq p F.slot_zip_next
  (dw F.slot_zip_next p F.entry_zip_next
   (KD D v N t m l H C L R λx y d tk B p2 M O G S T J I=>ag (P x y d tk B p2 M O G S T J I)) (F.args_zip_next_1 _))))
theorem SS{z TI TO j l:aH}{i h:List aH}{m t k:Nat}{G J:Nat->aF->Prop}{d g:Nat->bU->Prop}{a b:aF}{Q:Option aF->aL->Prop}(D:Qz z TI TO j l i h)
  (v:Draws prog w A.in1 j i m G d) (H:Draws prog w A.in1 l h t J g)
  (u:hW s.heap z TI TO .none) (q:dm s.heap TI (.ref j) (.ref l)) (n:dm s.heap TO a b)
  (B:d k s.heap) (x:g k s.heap) (f:k=m\/(k<m/\k=t))
  (I:∀p tk,(∀c o,c≠z->c≠TO->c≠j->c≠l->s.heap.get? c=aA o->p.get? c=aA o)->Q none { s with heap:=p,toks:=tk }):bB (model prog w) A (ju (.ref z)) Q E s:=by
 have r:s.TypeIs (.ref z) "zip":=⟨_,u,rfl⟩
 refine aJ (wpAny_attempt (cq r F.slot_zip_next
  (dw F.slot_zip_next r F.entry_zip_next (IM D v H u q n B x f λp tk e L M=>?_) (F.args_zip_next_1 _))))
 obtain⟨o,C,y⟩:=M;refine aJ (wpAny_isInstance ⟨o,C,y⟩ isSubtype_stop ?_);exact ag (I _ tk L)
end
abbrev DM(h:bU)(b1:Bool)(l1:aH):bU:=h.push (W5 b1 l1)
abbrev DN(h:bU)(b1 b2:Bool)(l1 l2:aH):bU:=(DM h b1 l1).push (W5 b2 l2)
abbrev DO(h:bU)(b1 b2:Bool)(l1 l2:aH):bU:=(DN h b1 b2 l1 l2).push { cls:=.type "tuple",data:=.seq #[.ref h.objs.size,.ref (DM h b1 l1).objs.size] }
abbrev DP(h:bU)(b1 b2:Bool)(l1 l2:aH):bU:=(DO h b1 b2 l1 l2).push { cls:=.type "tuple",data:=.seq #[.none,.none] }
abbrev FJ(h:bU)(b1 b2:Bool)(l1 l2:aH):bU:=(DP h b1 b2 l1 l2).push { cls:=.type "zip",data:=.fields #[.none,.bool aB,.bool aB,.ref (DN h b1 b2 l1 l2).objs.size,.ref (DO h b1 b2 l1 l2).objs.size] }
theorem R3(c f:Bool)(b a:aH)(p m:Array aF) :
  Meets (iX.«zip.__new__» ⟨[.type "zip",.ref b,.ref a],[]⟩) (λ_ R s=>SeqB c s.heap b p/\SeqB f s.heap a m/\
   R (.ok (.ret (.ref (DP s.heap c f b a).objs.size))) { s with heap:=FJ s.heap c f b a }):=
 .of_wp λprog w A R s h=>by
  obtain⟨q,g,d,tk,os⟩:=s;obtain⟨i,k,h⟩:=h;have n:=sub_zip;have l:=i;have j:SeqB f (jx ⟨q.push (W5 c b),g,d,tk,os⟩) a m:=k.at λo e=>aE _ e
  wp_walk using Yd l,Yd j
  exact⟨_,rfl,h⟩
section
variable {prog:bM} {w:bz} {A:bj} {E:aF->aL->Prop} {s:aL}
theorem Q1{b e:Bool}{a d:aH}{t q:Array aF}{Q:aF->aL->Prop}(f:SeqB b s.heap a t)(k:SeqB e s.heap d q)
  (h:∀h',hW h' (s.heap.objs.size+4) (s.heap.objs.size+2) (s.heap.objs.size+3) .none->dm h' (s.heap.objs.size+2) (.ref s.heap.objs.size) (.ref (s.heap.objs.size+1))->
   dm h' (s.heap.objs.size+3) .none .none->IterB b h' s.heap.objs.size a 0->IterB e h' (s.heap.objs.size+1) d 0->h'.objs.size=s.heap.objs.size+5->
   (∀c o,s.heap.get? c=aA o->h'.get? c=aA o)->Q (.ref (s.heap.objs.size+4)) { s with heap:=h' }) :
  bB (model prog w) A (call (.type "zip") [.ref a,.ref d]) Q E s:=by
 refine callType_new F.called_zip rfl (F.typeCall_zip_2 _ _) (F.newCall_zip_2 _ _) (λj=>F.args_object_init_3 j _ _) F.entry_zip_new
  (R3 b e a d t q) ⟨f,k,?_⟩
 have n:(DM s.heap b a).objs.size=s.heap.objs.size+1:=bp ..;have m:(DN s.heap b e a d).objs.size=s.heap.objs.size+2:=by rw[bp,n]
 have g:(DO s.heap b e a d).objs.size=s.heap.objs.size+3:=by rw[bp,m]
 have i:(DP s.heap b e a d).objs.size=s.heap.objs.size+4:=by rw[bp,g]
 have v:(FJ s.heap b e a d).objs.size=s.heap.objs.size+5:=by rw[bp,i]
 have l:(FJ s.heap b e a d).get? (DP s.heap b e a d).objs.size=aA _:=aZ _ rfl;have u:(FJ s.heap b e a d).get? (DO s.heap b e a d).objs.size=aA _:=aE _ (aZ _ rfl);have r:(FJ s.heap b e a d).get? (DN s.heap b e a d).objs.size=aA _:=aE _ (aE _ (aZ _ rfl));have p:(FJ s.heap b e a d).get? (DM s.heap b a).objs.size=aA (W5 e d):=aE _ (aE _ (aE _ (aZ _ rfl)));have y:(FJ s.heap b e a d).get? s.heap.objs.size=aA (W5 b a):=aE _ (aE _ (aE _ (aE _ (aZ _ rfl))));rw[m,g,i] at l;rw[n,m] at r;rw[g] at u;rw[n] at p;rw[i]
 exact⟨⟨_,l,rfl⟩,h _ l r u (IterB.new y) (IterB.new p) v λc o x=>
  aE _ (aE _ (aE _ (aE _ (aE _ x))))⟩
end
theorem Inv.newTup{X:Cx}{w:List (aH×cx)}{C:St}{H:Hp}{s:aL}{t:List aH}{k:bU}{tk n:Nat}{B:List aF}{h:List V}(I:Inv X w C H s)(F:∀b∈t,Wq X w H b)
  (kk:∀c o,c∉t->s.heap.get? c=aA o->k.get? c=aA o) (D:k.get? s.heap.objs.size=aA { cls:=.type "tuple",data:=.seq B.toArray n }) (J:Vals h B) (M:h.length<=sizeLine) :
  Inv X w C (upd H s.heap.objs.size (.tup h)) { s with heap:=k,toks:=tk }:=by
 have a:=I.hok.fresh (aG _);have y:∀c∈t,(c∈X.ex\/X.s₀.heap.objs.size<=c)/\c≠X.env.locals/\(∀x d,X.env.cells.lookup x=aA d->d≠c)/\∀p∈X.pn++w,p.1≠c:=λc j=>by have f:=F c j;exact⟨f.2.2.2.1,f.2.1,f.2.2.2.2.1,f.2.2.2.2.2⟩
 have m:∀c i,H c=aA i->c∉t:=λc i q j=>by rw[(F c j).1] at q;cases q
 have l:=λc i q=>(I.hok c i q).stay (λd v L A=>kk d v (by
   rcases L with z | z
   ·rw[z];exact m c i q
   ·exact m d _ z) A) (λ_ z=>z) (λ_ _ z=>z) λ_ _ z=>z
 have new:ObjOk X.prog X.w (upd H s.heap.objs.size (.tup h)) k s.heap.objs.size (.tup h):=
  ⟨⟨M,λo e=>by rw[D] at e;cases e;rfl⟩,B,J,⟨_,D,rfl,_,rfl⟩⟩
 have r:HOk X.prog X.w (upd H s.heap.objs.size (.tup h)) k:=λc i q=>by
  by_cases E:c=s.heap.objs.size
  ·subst E;rw[Zq] at q;cases q;exact new
  ·rw[upd_ne E] at q;exact(l c i q).stay (λd v _ A=>A) (λd z=>by rw[upd_ne (Zp z a)];exact z) (λd G z=>by rw[upd_ne (Zp z a)];exact z) λd u z=>by rw[upd_ne (Zp z a)];exact z
 have un:Un (Ni X.stack) t H (upd H s.heap.objs.size (.tup h)) s.heap k:=by
  refine⟨λc o q _ _ g=>kk c o g q,λc o q _ _ g=>⟨o.slots,kk c o g q⟩,λc o q n _=>?_,λc o q g=>⟨o,kk c o g q⟩,λc G q=>?_,λc o G q=>?_,λc N q=>⟨#[],?_⟩⟩
  ·rw[upd_ne (az (aR q))];exact n
  ·rw[upd_ne (Zp q a)];exact q
  ·rw[upd_ne (Zp q a)];exact q
  ·rw[upd_ne (Zp q a),q];simp
 exact I.call un r I.bare y
theorem Inv.turnedL{X:Cx}{k:List (aH×cx)}{r:St}{H:Hp}{s:aL}{j:List aH}{l:bU}{tk:Nat}(I:Inv X k r H s)(t:∀b∈j,Wq X k H b)
  (kk:∀c o,c∉j->s.heap.get? c=aA o->l.get? c=aA o):Inv X k r H { s with heap:=l,toks:=tk }:=by
 have m:∀c∈j,(c∈X.ex\/X.s₀.heap.objs.size<=c)/\c≠X.env.locals/\(∀x d,X.env.cells.lookup x=aA d->d≠c)/\∀p∈X.pn++k,p.1≠c:=λc e=>by have f:=t c e;exact⟨f.2.2.2.1,f.2.1,f.2.2.2.2.1,f.2.2.2.2.2⟩
 have i:∀c h,H c=aA h->c∉j:=λc h q e=>by rw[(t c e).1] at q;cases q
 have g:=λc h q=>(I.hok c h q).stay (λd v u w=>kk d v (by
   rcases u with z | z
   ·rw[z];exact i c h q
   ·exact i d _ z) w) (λ_ z=>z) (λ_ _ z=>z) λ_ _ z=>z
 have un:Un (Ni X.stack) j H H s.heap l:=
  ⟨λc o q _ _ a=>kk c o a q,λc o q _ _ a=>⟨o.slots,kk c o a q⟩,λc o q n _=>n,λc o q a=>⟨o,kk c o a q⟩,λc y q=>q,λc o y q=>q,λc A q=>⟨#[],by rw[q];simp⟩⟩
 exact I.call un g I.bare m
theorem SeqB.ne_rec{b:Bool}{h:bU}{a c:aH}{i:Array aF}{o:cx}{vs:Array aF}(p:SeqB b h a i)(e:h.get? c=aA o)(d:o.data = .fields vs):a≠c:=λz=>by
 subst z
 cases b with
 | true=>obtain⟨j,f,_,m,g⟩:=(p);rw[e] at f;cases f;rw[d] at g;cases g
 | false=>obtain⟨j,f,_,m,g⟩:=(p);rw[e] at f;cases f;rw[d] at g;cases g
theorem IterB.rec{b:Bool}{h:bU}{c a:aH}{i:Nat}(x:IterB b h c a i):∃o,h.get? c=aA o/\∃vs,o.data = .fields vs:=by
 cases b with
 | true=>obtain⟨o,e,_,d⟩:=(x);exact⟨o,e,_,d⟩
 | false=>obtain⟨o,e,_,d⟩:=(x);exact⟨o,e,_,d⟩
structure FK(a1 a2 TO TI:aH):Prop where
 a:a1≠TO
 b:a2≠TO
 c:a1≠TI
 d:a2≠TI
noncomputable def CZ(b1 b2:Bool)(K:aD)(a1 a2:aH):It:=
  ⟨λi H=>∃xs ys x y,Sd b1 K H a1 xs/\Sd b2 K H a2 ys/\xs[i]?=aA x/\ys[i]?=aA y,
   λi H v H'=>∃p x y,H p=none/\v = .ref p/\H'=upd H p (.tup [x,y])/\(∀xs,Sd b1 K H a1 xs->xs[i]?=aA x)/\∀ys,Sd b2 K H a2 ys->ys[i]?=aA y,
   λi H=>∃xs ys,Sd b1 K H a1 xs/\Sd b2 K H a2 ys/\(i=xs.length\/(i<xs.length/\i=ys.length))⟩
theorem KG{P:bM}{w:bz}{K:aD}{elts:List au}{k:Nat}{pos:di}(b1 b2:Bool)(Z a2 z TI TO G F:aH)(d:[z,TI,TO,G,F].Nodup) :
  QU P w K (.Tuple elts k pos) (CZ b1 b2 K Z a2) [z,TI,TO,G,F] z
   (λi h=>hW h z TI TO .none/\dm h TI (.ref G) (.ref F)/\(∃u v,dm h TO u v/\FK Z a2 TO TI)/\IterB b1 h G Z i/\IterB b2 h F a2 i) where
 mem:=by simp
 obj:=λi h st c Y=>by
  obtain⟨t,b,⟨u,v,l,_⟩,O,S⟩:=st;simp only[af,c9,or_false] at Y;rcases Y with rfl | rfl | rfl | rfl | rfl
  ·exact⟨_,t,λv q=>by cases q⟩
  ·exact⟨_,b,λv q=>by cases q⟩
  ·exact⟨_,l,λv q=>by cases q⟩
  ·exact O.has
  ·exact S.has
 keep:=λi h h' st kk=>by obtain⟨t,b,⟨u,v,l,f⟩,O,S⟩:=st;exact⟨kk z (by simp) _ t,kk TI (by simp) _ b,⟨u,v,kk TO (by simp) _ l,f⟩,O.at λo q=>kk G (by simp) o q,S.at λo q=>kk F (by simp) o q⟩
 item:=by
  intro X hP hw hK Y i jz s σ H E I hf st hg;subst hP hw hK;obtain⟨xs,ys,x,y,T,M,hx,hy⟩:=hg;obtain⟨g,rv1,R,hz1⟩:=I.seqB T;obtain⟨n,rv2,p2,hz2⟩:=I.seqB M;obtain⟨u,hu,ru⟩:=rv1.get hx;obtain⟨v,hv,rv⟩:=rv2.get hy;obtain⟨t,b,⟨q1,q2,l,f⟩,O,S⟩:=st;obtain⟨o1,e1,vs1,d1⟩:=O.rec;obtain⟨o2,e2,vs2,d2⟩:=S.rec;have A1z:=R.ne_rec t rfl;have A2z:=p2.ne_rec t rfl;have A11:=R.ne_rec e1 d1;have A12:=R.ne_rec e2 d2;have A21:=p2.ne_rec e1 d1;have A22:=p2.ne_rec e2 d2;simp only[bP,af,c9,not_or,cp,and_true,not_false_eq_true] at d;obtain⟨⟨m,r,B,C⟩,⟨N,U,W⟩,⟨L,J⟩,p⟩:=d;obtain⟨f1,f2,f3,f4⟩:=f;have D:Qz z TI TO G F [G,Z] [F,a2]:=⟨aj m,aj r,aj B,aj C,N,U,W,L,J,p,by simp[B,aj A1z],by simp[L,aj f1],by simp[aj p,aj A12],by simp[C,aj A2z],by simp[J,aj f2],by simp[p,aj A21]⟩;have D1:=Draws.seq (prog:=X.prog) (w:=X.w) (A:=X.A.in1) b1 (I.ok.hd Y) G Z A11 g.toArray;have D2:=Draws.seq (prog:=X.prog) (w:=X.w) (A:=X.A.in1) b2 (I.ok.hd Y) F a2 A22 n.toArray;have l1:i<g.toArray.size:=by simpa using(aV.mp hu).1
  have l2:i<n.toArray.size:=by simpa using(aV.mp hv).1
  refine Se D D1 D2 t b l ⟨O,R⟩ ⟨S,p2⟩ l1 l2 λx' y' h' tk hPx hPy c1 c2 c3 c4 c5 c6 hk=>?_
  have ex':x'=u:=by
   have w1:=hPx;have w2:g.toArray[i]?=aA u:=by simpa using hu
   rw[w1] at w2;exact av w2
  have ey':y'=v:=by
   have w1:=hPy;have w2:n.toArray[i]?=aA v:=by simpa using hv
   rw[w1] at w2;exact av w2
  subst ex' ey';refine⟨_,rfl,wpAny_letOwnedTupleGo_zip c1 λh3 hz3 j=>?_⟩
  replace j:cE z h' h3:=j
  have kk:∀c o,c∉[z,TI,TO,G,F]->s.heap.get? c=aA o->h3.get? c=aA o:=λc o a q=>
   j.extBut c o (λe=>a (by simp[e])) (hk c o (λe=>a (by simp[e])) (λe=>a (by simp[e])) (λe=>a (by simp[e])) (λe=>a (by simp[e])) q)
  have hTn:=I.hok.fresh (aG _);have hT3:=j.extBut _ _ (du (aR t)) c5;have I2:=I.newTup (tk:=tk) hf kk hT3 (.cons ru (.cons rv .nil)) (by show 2<=sizeLine;decide);refine⟨.ref s.heap.objs.size,_,I2,rfl,⟨_,x,y,hTn,rfl,rfl,λzs hzs=>by rw[I.seqB_inj hzs T];exact hx,λzs hzs=>by rw[I.seqB_inj hzs M];exact hy⟩,⟨hz3,j.extBut _ _ (aj m) (hk _ _ (aj m) N U W b),⟨_,_,j.extBut _ _ (aj r) c2,f1,f2,f3,f4⟩,c3.1.at λo q=>j.extBut _ o (aj B) q,c4.1.at λo q=>j.extBut _ o (aj C) q⟩,λc a=>?_⟩;rw[upd_ne (az ?_)]
  ·exact(hf c a).1
  ·simp only[af,c9,or_false] at a;rcases a with rfl | rfl | rfl | rfl | rfl
   ·exact aR t
   ·exact aR b
   ·exact aR l
   ·exact aR e1
   ·exact aR e2
 done:=by intro X hP hw hK Y i jz s σ H E I hf st hg;subst hP hw hK;obtain⟨xs,ys,T,M,hx⟩:=hg;obtain⟨g,rv1,R,hz1⟩:=I.seqB T;obtain⟨n,rv2,p2,hz2⟩:=I.seqB M;obtain⟨t,b,⟨q1,q2,l,f⟩,O,S⟩:=st;obtain⟨o1,e1,vs1,d1⟩:=O.rec;obtain⟨o2,e2,vs2,d2⟩:=S.rec;have A1z:=R.ne_rec t rfl;have A2z:=p2.ne_rec t rfl;have A11:=R.ne_rec e1 d1;have A12:=R.ne_rec e2 d2;have A21:=p2.ne_rec e1 d1;have A22:=p2.ne_rec e2 d2;simp only[bP,af,c9,not_or,cp,and_true,not_false_eq_true] at d;obtain⟨⟨m,r,B,C⟩,⟨N,U,W⟩,⟨L,J⟩,p⟩:=d;obtain⟨f1,f2,f3,f4⟩:=f;have D:Qz z TI TO G F [G,Z] [F,a2]:=⟨aj m,aj r,aj B,aj C,N,U,W,L,J,p,by simp[B,aj A1z],by simp[L,aj f1],by simp[aj p,aj A12],by simp[C,aj A2z],by simp[J,aj f2],by simp[p,aj A21]⟩;have D1:=Draws.seq (prog:=X.prog) (w:=X.w) (A:=X.A.in1) b1 (I.ok.hd Y) G Z A11 g.toArray;have D2:=Draws.seq (prog:=X.prog) (w:=X.w) (A:=X.A.in1) b2 (I.ok.hd Y) F a2 A22 n.toArray;have n1:=rv1.length;have n2:=rv2.length;refine SS D D1 D2 t b l ⟨O,R⟩ ⟨S,p2⟩ (by simp only[aP];omega) λh' tk hk=>⟨rfl,?_⟩;exact I.turnedL hf λc o a q=>hk c o (λe=>a (by simp[e])) (λe=>a (by simp[e])) (λe=>a (by simp[e])) (λe=>a (by simp[e])) q
 self:=λA i s Q E st hQ=>wpAny_pyIter_zip st.1 hQ
section
variable {X:Cx}
noncomputable def Cu(b1 b2:Bool)(K:aD)(ta:TA):TI:=λσ H R=>ta σ H λvs H1=>∃a1 a2,vs=[.ref a1,.ref a2]/\(∃xs,Sd b1 K H1 a1 xs)/\(∃ys,Sd b2 K H1 a2 ys)/\R (CZ b1 b2 K a1 a2) H1
theorem FL{g:List au}{k:Nat}{o:di}(D J:Bool){a b:au}{F:TA}{p f:di}(Y:Gl X "zip")(M:X.mg "zip" = none)(Z:PA X [a,b] F)
  (P:aT [a,b] X.env=[(aB,eval a X.env),(aB,eval b X.env)]:=by rfl) (t:aT [b] X.env=[(aB,eval b X.env)]:=by rfl) :
  PI X (.Tuple g k o) (.Call (.Name "zip" p) [a,b] [] f) (Cu D J X.K F):=by
 intro jz s L H R I h;refine Call_ (V5 I Y M boot_zip (cN (Yz (Z f jz s L H _ I h) λus s1 ⟨vs,O,l,r1,Q⟩=>?_) (by rw[P,t]) (by rw[t];rfl)));obtain⟨w,x,e,⟨xs,y⟩,⟨ys,v⟩,q⟩:=Q;subst e
 cases r1 with
 | cons r rr=>
  cases rr with
  | cons r' rr=>
   cases rr;cases r;cases r';obtain⟨z,W,B,_⟩:=l.seqB y;obtain⟨G,S,p2,_⟩:=l.seqB v;refine Q1 B p2 λh' c1 c2 c3 c4 c5 c6 hk=>?_;refine wpAny_pyIter_zip c1 ?_;have N:=l.kept (t':=s1.toks) hk;have E:=let⟨_,e⟩:=B.has;aR e;have A:=let⟨_,e⟩:=p2.has;aR e;generalize T:s1.heap.objs.size=n at *;have ne:∀(a:aH)(j:Nat),a<n->a≠n+j:=λa j h=>az (a0 h (dQ _ _));have U:([n+4,n+2,n+3,n,n+1]:List aH).Nodup:=by have d:∀(i j:Nat),i≠j->(n+i:Nat)≠n+j:=λi j h e=>h (i5 e);have u:∀(i:Nat),i≠0->(n+i:Nat)≠n:=λi h e=>h (i5 (e.trans (Nat.add_zero n).symm));simp only[bP,af,c9,not_or,cp,and_true,not_false_eq_true];exact⟨⟨d 4 2 (by decide),d 4 3 (by decide),u 4 (by decide),d 4 1 (by decide)⟩,⟨d 2 3 (by decide),u 2 (by decide),d 2 1 (by decide)⟩,⟨u 3 (by decide),d 3 1 (by decide)⟩,(u 1 (by decide)).symm⟩
   refine⟨n+4,[n+4,n+2,n+3,n,n+1],_,_,O,rfl,N,KG D J w x (n+4) (n+2) (n+3) n (n+1) U,⟨c1,c2,⟨_,_,c3,ne w 3 E,ne x 3 A,ne w 2 E,ne x 2 A⟩,c4,c5⟩,λc C=>?_,q⟩
   have m:s1.heap.objs.size<=c:=by
    rw[T];simp only[af,c9,or_false] at C;rcases C with rfl | rfl | rfl | rfl | rfl
    ·exact dQ _ _
    ·exact dQ _ _
    ·exact dQ _ _
    ·exact aG _
    ·exact dQ _ _
   exact l.fpOk m (l.hok.fresh m)
end
theorem Walks.seqB{prog:bM}{w:bz}{A:bj}(b:Bool)(e:A.handled=none)(I c:aH)(d:c≠I)(a:Array aF) :
  Walks prog w A I [I,c] [I] a.size (λi v=>a[i]?=aA v) (λi h=>IterB b h I c i/\SeqB b h c a):=by
 cases b with
 | true=>exact Walks.list e I c d a
 | false=>exact Walks.tuple e I c d a
section
variable {X:Cx}
theorem Tb(E:X.calm=aC):Xk X (.builtin "sum") (λw H Q=>∃(b:Bool) (p:aH) (a:List Int),w=[.ref p]/\Sd b X.K H p (a.map V.int)/\Q (.int a.sum) H):=by
 intro P s L H w O Q I r h;obtain⟨b,p,a,rfl,F,q⟩:=h;obtain⟨u,rfl,J⟩:=TZ r;cases J;obtain⟨n,m,d,N⟩:=I.seqB F;have z:=let⟨_,e⟩:=d.has;aR e;refine call_sum_walkG (Yd d ?_);refine⟨_,_,_,_,_,_,λi=>a.getD i 0,rfl,Walks.seqB (A:=X.A.in1) b (I.ok.hd E) s.heap.objs.size p (az z) n.toArray,⟨IterB.new (aZ _ rfl),d.at λo e=>aE _ e⟩,λc g=>?_,λi v j=>?_,λM tk t' B=>?_⟩
 ·show c<(s.heap.push _).objs.size;rw[bp];rcases af.mp g with rfl | g
  ·exact g9 _
  ·rw[aw.mp g];exact Nat.lt_succ_of_lt z
 ·have j:=j;have j:n[i]?=aA v:=by simpa using j
  have l:=m.length;rw[aO] at l;have G:i<a.length:=by rw[l];exact(aV.mp j).1
  obtain⟨u,y,D⟩:=m.get (i:=i) (x:=.int a[i]) (by simp);rw[j] at y;cases y;obtain⟨t,rfl⟩:=D;refine⟨t,?_⟩;show jO a[i] t=jO (a.getD i 0) t;rw[aM,aN G];rfl
 ·have e:preSum (λi=>a.getD i 0) n.toArray.size=a.sum:=by
   have l:=m.length;rw[aO] at l;rw[aP,<-l]
   have gen:∀k,k<=a.length->preSum (λi=>a.getD i 0) k=(a.take k).sum:=by
    intro k
    induction k with
    | zero=>intro _;simp[preSum]
    | succ k ih=>
     intro B;rw[preSum,ih (by omega),List.take_add_one,aM,aN (by omega),j4];simp
   rw[gen _ (aG _),jW]
  rw[e];refine⟨.int a.sum,H,I.kept (λc o f=>B c o ?_ (aE _ f)),⟨_,rfl⟩,q⟩;intro C;rw[aw.mp C] at f;exact absurd (aR f) (br _)
theorem Tc(y:X.calm=aC):Xk X (.builtin "all") (λm H Q=>∃(b:Bool) (p:aH) (bs:List Bool),m=[.ref p]/\Sd b X.K H p (bs.map V.bl)/\Q (.bl (bs.all id)) H):=by
 intro R s G H m P Q I r h;obtain⟨b,p,bs,rfl,z,q⟩:=h;obtain⟨u,rfl,E⟩:=TZ r;cases E;obtain⟨j,l,a,N⟩:=I.seqB z;have B:=let⟨_,e⟩:=a.has;aR e;have k:=l.length;rw[aO] at k;refine call_all_walk (Yd a ?_);refine⟨_,_,_,_,_,_,λi=>bs.getD i aC,rfl,Walks.seqB (A:=X.A.in1) b (I.ok.hd y) s.heap.objs.size p (az B) j.toArray,⟨IterB.new (aZ _ rfl),a.at λo e=>aE _ e⟩,λi v M O J g D=>?_,λL tk F=>?_⟩
 ·have g:=g;have g:j[i]?=aA v:=by simpa using g
  have d:i<bs.length:=by rw[k];exact(aV.mp g).1
  obtain⟨u,n,w⟩:=l.get (i:=i) (x:=.bl bs[i]) (by simp);rw[g] at n;cases n;cases w;refine cS ?_;have e:bs.getD i aC=bs[i]:=by rw[aM,aN d];rfl
  rw[<-e];exact D
 ·have e:(aI j.toArray.size).all (λi=>bs.getD i aC)=bs.all id:=by
   rw[aP,<-k,iA,aq,aq];constructor
   ·intro h x C;obtain⟨i,d,rfl⟩:=fM.mp C;have:=h i (aX.mpr d);rw[aM,aN d] at this;exact this
   ·intro h i d;have d:=aX.mp d;rw[aM,aN d];exact h _ (dR d)
  rw[e];refine⟨.bl (bs.all id),H,I.kept (λc o f=>F c o ?_ (aE _ f)),rfl,q⟩;intro t;rw[aw.mp t] at f;exact absurd (aR f) (br _)
theorem Lz(y:X.calm=aC):Xk X (.builtin "any") (λm H Q=>∃(b:Bool) (p:aH) (bs:List Bool),m=[.ref p]/\Sd b X.K H p (bs.map V.bl)/\Q (.bl (bs.any id)) H):=by
 intro R s G H m P Q I r h;obtain⟨b,p,bs,rfl,z,q⟩:=h;obtain⟨u,rfl,E⟩:=TZ r;cases E;obtain⟨j,l,a,N⟩:=I.seqB z;have B:p<s.heap.objs.size:=let⟨_,e⟩:=a.has;aR e;have k:=l.length;rw[aO] at k;refine call_any_walk (Yd a ?_);refine⟨_,_,_,_,_,_,λi=>bs.getD i aC,rfl,Walks.seqB (A:=X.A.in1) b (I.ok.hd y) s.heap.objs.size p (az B) j.toArray,⟨IterB.new (aZ _ rfl),a.at λo e=>aE _ e⟩,λi v M O J g D=>?_,λL tk F=>?_⟩
 ·have g:j.toArray[i]?=aA v:=g;have g:j[i]?=aA v:=by simpa using g
  have d:i<bs.length:=by rw[k];exact(aV.mp g).1
  obtain⟨u,n,w⟩:=l.get (i:=i) (x:=.bl bs[i]) (by rw[aQ,aN d];rfl);rw[g] at n;cases n;cases w;refine cS ?_;have e:bs.getD i aC=bs[i]:=by rw[aM,aN d];rfl
  rw[<-e];exact D
 ·have e:(aI j.toArray.size).any (λi=>bs.getD i aC)=bs.any id:=by
   rw[aP,<-k,iA,dy,dy];constructor
   ·rintro⟨i,d,h⟩;have d:=aX.mp d;rw[aM,aN d] at h;exact⟨_,dR d,h⟩
   ·rintro⟨x,C,h⟩;obtain⟨i,d,rfl⟩:=fM.mp C;refine⟨i,aX.mpr d,?_⟩;rw[aM,aN d];exact h
  rw[e];refine⟨.bl (bs.any id),H,I.kept (λc o f=>F c o ?_ (aE _ f)),rfl,q⟩;intro t;rw[aw.mp t] at f;exact absurd (aR f) (br _)
theorem Xa:Xk X (.builtin "isinstance") (λa H Q=>∃x T t b,a=[x,.ty T]/\TyOf X.K H x t/\cT X.K t (.type T)=aA b/\Q (.bl b) H):=by intro j s g H a i Q I r h;obtain⟨x,T,t,b,rfl,e,f,q⟩:=h;obtain⟨u,v,rfl,c,d⟩:=Gz r;cases d;exact Ls I c e f λtk=>⟨.bl b,H,I.tok tk,rfl,q⟩
theorem Oi{K:aD}:cT K (.type "int") (.type "int")=aA aC:=rfl
theorem Q2{K:aD}:cT K (.type "int") (.type "bool")=aA aB:=rfl
theorem Oj{K:aD}:cT K (.type "tuple") (.type "tuple")=aA aC:=rfl
theorem R4{K:aD}:cT K (.type "list") (.type "list")=aA aC:=rfl
theorem Ol{K:aD}:cT K (.type "str") (.type "str")=aA aC:=rfl
noncomputable def ME:V->List V->Hp->VK->Prop:=λx vs H Q=>∃l xs k y,x = .ref l/\vs=[.int k,y]/\H l=aA (.lst xs)/\0<=k/\k<2^63/\xs.length<sizeLine/\Q .non (upd H l (.lst (xs.take k.toNat++y::xs.drop k.toNat)))
theorem LA:Cq X "list.insert" ME:=by
 intro G s w H x vs v C Q I o i h;obtain⟨l,A,k,y,rfl,rfl,f,E,m,B,q⟩:=h;cases o;obtain⟨u,d,rfl,p,g⟩:=i.two;obtain⟨t,rfl⟩:=p;obtain⟨z,a,n,r,D,e⟩:=I.lstM f;have b:¬(!Builtin.List.listFitsIndex k)=aC:=by rw[fitsIndex_both (by omega) m];exact bO
 refine eM F.slot_list_insert ⟨_,e,rfl⟩ F.entry_list_insert (F.args_list_insert_3 _ _ _) (AutoListH.list_insert_list_int_val_1 l a.toArray n k t d b (by rw[aP];omega)) ⟨e,?_⟩;refine⟨.non,_,I.lset f e ?_ ((r.take k.toNat).append (.cons g (r.drop k.toNat))) ?_,rfl,q⟩
 ·show(have j:=if k<0 then(k+((a.toArray.size:Nat):Int)).toNat else min k.toNat a.toArray.size;(a.toArray.extract 0 j).push d++a.toArray.extract j)=_;rw[k9 (by omega)];by_cases c:k.toNat<=a.length
  ·rw[dI (by rw[aP];exact c)];simp;rw[bX (by simp)]
  ·rw[gg (by rw[aP];omega)];rw[bX (by omega),fB (by omega)];simp
 ·rw[bH,bg,cA,cZ];omega
end
noncomputable def TK(H H':Hp):Prop:=∀b xs,H b=aA (.tup xs)->H' b=aA (.tup xs)
theorem Same.tk{H a:Hp}(s:Same H a):TK H a:=λb c h=>s b _ h
theorem Same.new{H:Hp}{p:aH}(h:H p=none)(o:HO):Same H (upd H p o):=λb u q=>by rw[upd_ne (Zp q h)];exact q
structure Def(K:aD)(mg:ah->Option aF)(x:ah)(st:b7):Prop where
 ex:∃f fd,mg x=aA (.ref f)/\Fun K x x st f fd
theorem def_mk{K:aD}{h:bU}{g:ah->Option aF}{x:ah}{st:b7}{f:aH}{n:aF}{i m:Option aH}{d:Array (Option aF)}{kV e j b ct:aF}(X:K.In h)(G:h.Ns cJ g)
  (a:gw K cJ x=aA (aA (.ref f))) (l:K.lookup f=aA ⟨n,i,.func (cG x x (YN st) (Yc st) (Zg st) .none kV e j m b ct),d⟩)
  (c:cO K b x=aC) (k:eZ K (.ref f)=aC):Def K g x st:=⟨f,_,PySem.W.mg_of X G a,FI l c k⟩
structure Xl(P:bM)(w:bz)(K:aD)(mg:ah->Option aF)(base:bU)(x:ah)(ps:List ah)(sp:Sp)(k:Nat):Prop where
 ex:∃f fd,mg x=aA (.ref f)/\eZ K (.ref f)=aC/\Binds K fd ps []/\T9 P w K mg base Nw k f fd ps sp
section
variable {P:bM} {w:bz} {K:aD} {mg:ah->Option aF} {base:bU}
theorem Def.cal{x:ah}{st:b7}{N d:List ah}{k:Nat}{sp:Sp}(D:Def K mg x st)(S:Zl N d (Zg st))
  (l:∀(kV doc pm:aF)(an:Option aH)(b ct:aF)(us:List aF),us.length=d.length->gD (cG x x (YN st) (Yc st) (Zg st) .none kV doc pm an b ct) ⟨us,[]⟩=pure (d.zip us))
  (len:∀vs H Q E,sp vs H Q E->vs.length=d.length)
  (c:∀(f:aH)(b:aF)(A:bj)(a:List jQ)(s:aL)(H:Hp)(vs:List V)(Q:VK)(E:XK),Room k (A.deeper (fI x (Zg st) s.heap.objs.size f b))->sp vs H Q E->
   ∃t,PSs (SK Nw P w K mg base N x (Zg st) f b A a s H E).nox (Yc st) t/\t { nx:=λ_ i=>Q .non i,rt:=Q } (start N vs) H):Xl P w K mg base x d sp (k+1):=by
 obtain⟨f,j,e,F⟩:=D.ex;exact⟨f,j,e,F.kp,F.binds l,F.ok S len λb A a s H vs Q E g h=>c f b A a s H vs Q E g h⟩
end
section
variable {X:Cx} {x:ah} {ps:List ah} {sp:Sp} {k:Nat} {e:au} {es:List au} {t:TA} {p pos:di}
theorem Ny(C:Xl X.prog X.w X.K X.mg X.base x ps sp k)(l:Room k X.A)(i:Gl X x)(j:PA X (e::es) t)
  (h:(x==("__debug__" : ah))=aB:=by decide) (m:aT (e::es) X.env=(aB,eval e X.env)::aT es X.env:=by rfl) (g:(dj pos (aT es X.env)).any (·.1)=aB:=by rfl) :
  PE X (.Call (.Name x p) (e::es) [] pos) (Kw sp [] E0 t):=by
 obtain⟨f,n,a,b,c,d⟩:=C.ex;exact Iz d l i a b c .nil Dc j h m g
end
noncomputable def Vi(N:List ah)(around scope:dA)(own fr:List ah)(ix:List Nat):Bool:=
 (match scope.kind with | .function=>aC | _=>aB)&&scope.names.all (λy=>y.2 != .cell)&&scope.names.all (λy=>y.2 != .local || scope.names.lookup y.1==aA .local)&&
 scope.names.all (λy=>y.2 != .free || (around.names.lookup y.1==aA .cell || around.names.lookup y.1==aA .free))&&(fr.map aA==ix.map (λi=>N[i]?))&&
 fr.all (λx=>scope.names.contains (x,bF))&&fr.all (λx=>scope.names.lookup x != aA .local)
theorem QA{N:List ah}{a b:dA}{own fr:List ah}{ix:List Nat}(h:Vi N a b own fr ix=aC):CompScope N a b own fr ix:=by
 unfold Vi at h;simp only[bW] at h;obtain⟨⟨⟨⟨⟨⟨f,i⟩,k⟩,m⟩,j⟩,l⟩,g⟩:=h;refine⟨?_,λy c=>?_,λy c e=>?_,λy c e=>?_,by simpa using j,λx d=>?_,λx d=>?_⟩
 ·split at f
  ·assumption
  ·cases f
 ·simpa using aq.mp i y c
 ·have:=aq.mp k y c;rw[e] at this;simpa using this
 ·have:=aq.mp m y c;rw[e] at this;simpa using this
 ·simpa using aq.mp l x d
 ·simpa using aq.mp g x d
section
variable {X:Cx} {tg k6 iter:au} {k5:List au} {scope:dA} {pos:di} {wi:TI} {g:TG} {tt:TT} {te:TE}
theorem Om(own fr:List ah)(ix:List Nat)(a:X.calm=aC)(d:PI X tg iter wi)(S:Vi X.N X.env.scope scope own fr ix=aC)
  (c:∀cl C s H ex,PG (ZA X (own++fr) scope cl C s H ex) tg g) (b:∀cl C s H ex,Nx (ZA X (own++fr) scope cl C s H ex) k5 tt) (f:∀cl C s H ex,PE (ZA X (own++fr) scope cl C s H ex) k6 te)
  (e:∀x,bT iter X.env x=pure x:=by intro _;rfl):PE X (.ListComp k6 [⟨tg,iter,k5,0⟩] scope pos) (SO own.length ix wi g tt te):=
 IJ a d (QA S) c b f e
theorem KH(own fr:List ah)(ix:List Nat){i:Nat}{y:ah}{e a:di}(k:X.N.Nodup)(m:X.N[i]?=aA y)(c:X.env.scope.names.lookup y=aA .local)(b:X.calm=aC)(j:PI X tg iter wi)(S:Vi X.N X.env.scope scope own fr ix=aC)
  (l:∀cl C s H ex,PG (ZA X (own++fr) scope cl C s H ex) tg g) (h:∀cl C s H ex,Nx (ZA X (own++fr) scope cl C s H ex) k5 tt) (n:∀cl C s H ex,PE (ZA X (own++fr) scope cl C s H ex) k6 te)
  (d:f9 (.ListComp k6 [⟨tg,iter,k5,0⟩] scope pos) (aA (.Name y e)) a.line X.env=pure aC:=by rfl)
  (f:∀x,bT iter X.env x=pure x:=by intro _;rfl):PS X (.Assign [.Name y e] (.ListComp k6 [⟨tg,iter,k5,0⟩] scope pos) a) (Nl (SO own.length ix wi g tt te) (Uu i)):=
 IK k m c b j (QA S) l h n d f
end
structure Wt(mg:ah->Option aF):Prop where
 «len» : mg "len" = none
 «sum» : mg "sum" = none
 «range» : mg "range" = none
 «enumerate» : mg "enumerate" = none
 «zip» : mg "zip" = none
 «tuple» : mg "tuple" = none
 «list» : mg "list" = none
 «all» : mg "all" = none
 «any» : mg "any" = none
 «isinstance» : mg "isinstance" = none
 «int» : mg "int" = none
 «bool» : mg "bool" = none
 «str» : mg "str" = none
 «min» : mg "min" = none
 «max» : mg "max" = none
 «sorted» : mg "sorted" = none
 «abs» : mg "abs" = none
 «ValueError» : mg "ValueError" = none
 «reversed» : mg "reversed" = none
 «set» : mg "set" = none
abbrev Cv(g:TG)(tb:TS)(D:YF)(σ:St)(J:It)(H:Hp):Prop:=
 ∃W:Nat->Nat->St->Hp->Prop,(∃m,W 0 m σ H)/\∀i m σ H,W i m σ H->
   (J.stop i H/\D.nx σ H)\/(J.go i H/\∃N:St->Hp->Prop,(∀σ' H',N σ' H'->∃m',m'<m/\W (i+1) m' σ' H')/\∀x H',J.yld i H x H'->g x σ H' λσ2 H2=>tb { D with nx:=N,ct:=N,bk:=D.nx } σ2 H2)
noncomputable def Xp(l:List Int)(i:Nat):Int:=l.getD i 0
theorem Td(l:List Int):(aI l.length).map (Xp l)=l:=by
 apply cV;intro i;rw[aQ];by_cases h:i<l.length
 ·rw[aN (by simpa using h)];simp[Xp,aN h]
 ·rw[bN (by simpa using h),bN (by omega)];rfl
theorem R5{f:Nat->Int}{n i:Nat}(h:i<n):Xp ((aI n).map f) i=f i:=by unfold Xp;rw[aM,aQ,ak h];rfl
noncomputable def Zu(w:List (List Int))(i:Nat):List Int:=w.getD i []
theorem Oo{w:List (List Int)}{i:Nat}(h:i<w.length):w[i]?=aA (Zu w i):=by unfold Zu;rw[aM,aN h];rfl
noncomputable def ent(w:List (List Int))(i j:Nat):Int:=Xp (Zu w i) j
structure Yn(w:List (List Int)):Prop where
 pos:1<=w.length
 few:w.length<=7
 sq:∀i,i<w.length->(Zu w i).length=w.length
 lo:∀i j,i<w.length->j<w.length->0<=ent w i j
 hi:∀i j,i<w.length->j<w.length->ent w i j<=9
 sym:∀i j,i<w.length->j<w.length->ent w i j=ent w j i
 dia:∀i,i<w.length->ent w i i=0
noncomputable def FN(K:aD):List V->Hp->VK->Prop:=λxs H Q=>∃p ys,xs=[.ref p]/\((SqL K H p ys/\∀l,H l=none->Q (.ref l) (upd H l (.tup ys)))\/(SqT K H p ys/\Q (.ref p) H))
noncomputable def IP(K:aD):List V->Hp->VK->Prop:=λxs H Q=>∃p ys,xs=[.ref p]/\(SqL K H p ys\/SqT K H p ys)/\∀l,H l=none->Q (.ref l) (upd H l (.lst ys))
theorem Same.off{H a:Hp}{p:aH}(s:Same H a)(n:a p=none):H p=none:=s.free n
abbrev Cw:=Nat×Nat×Int
noncomputable def Cy(e:Cw):List Sn×V:=([.inl (e.1:Int),.inl (e.2.1:Int)],.int e.2.2)
noncomputable def dE(ts:List Cw):List (List Sn×V):=ts.map Cy
noncomputable def Te(M:List (List Int))(a b:Nat)(t:Int):List (List Int):=M.set a ((Zu M a).set b t)
structure MatOk(n:Nat)(M:List (List Int)):Prop where
 len:M.length=n
 row:∀i,i<n->(Zu M i).length=n
 lo:∀i j,i<n->j<n->0<=ent M i j
 hi:∀i j,i<n->j<n->ent M i j<=9
 sym:∀i j,i<n->j<n->ent M i j=ent M j i
 dia:∀i,i<n->ent M i i=0
theorem QB{M:List (List Int)}{a i:Nat}{r:List Int}(b:a<M.length):Zu (M.set a r) i=if a=i then r else Zu M i:=by
 unfold Zu;by_cases h:a=i
 ·subst h;simp[b]
 ·simp[h]
theorem nth_set{l:List Int}{b j:Nat}{t:Int}(a:b<l.length):Xp (l.set b t) j=if b=j then t else Xp l j:=by
 unfold Xp;by_cases h:b=j
 ·subst h;simp[a]
 ·simp[h]
theorem Oq{n:Nat}{M:List (List Int)}{a b i j:Nat}{t:Int}(f:M.length=n)(d:∀i,i<n->(Zu M i).length=n)(c:a<n)(e:b<n):ent (Te M a b t) i j=if a=i/\b=j then t else ent M i j:=by
 show Xp (Zu (M.set a ((Zu M a).set b t)) i) j=_;rw[QB (by omega)];by_cases h:a=i
 ·subst h;rw[k8 rfl,nth_set (by rw[d a c];exact e)];by_cases q:b=j
  ·rw[k8 q,k8 ⟨rfl,q⟩]
  ·rw[k9 q,k9 (λz=>q z.2)];rfl
 ·rw[k9 h,k9 (λz=>h z.1)];rfl
theorem Wu{n:Nat}{M:List (List Int)}{a b:Nat}{t:Int}(e:M.length=n)(c:∀i,i<n->(Zu M i).length=n)(d:a<n):(Te M a b t).length=n/\∀i,i<n->(Zu (Te M a b t) i).length=n:=by
 refine⟨by unfold Te;rw[bu];exact e,λi f=>?_⟩;show(Zu (M.set a ((Zu M a).set b t)) i).length=n;rw[QB (by omega)];split
 ·rw[bu];exact c a d
 ·exact c i f
theorem MatOk.zero(n:Nat):MatOk n (aU n (aU n 0)):=by
 have r:∀i,i<n->Zu (aU n (aU n (0:Int))) i=aU n 0:=λi a=>by unfold Zu;rw[aM,b6,k8 a];rfl
 have z:∀i j,i<n->j<n->ent (aU n (aU n (0:Int))) i j=0:=λi j a b=>by show Xp (Zu _ i) j=0;rw[r i a];unfold Xp;rw[aM,b6,k8 b];rfl
 exact⟨by simp,λi a=>by rw[r i a];simp,λi j a b=>by rw[z i j a b];omega,λi j a b=>by rw[z i j a b];omega,λi j a b=>by rw[z i j a b,z j i b a],λi a=>z i i a a⟩
theorem MatOk.web{n:Nat}{M:List (List Int)}(h:MatOk n M)(b:1<=n)(a:n<=7):Yn M:=by have e:=h.len;subst e;exact⟨b,a,h.row,h.lo,h.hi,h.sym,h.dia⟩
theorem YO(f:Nat->Int)(n:Nat):((aI (n+1)).map f).sum=((aI n).map f).sum+f n:=by rw[fS];simp
theorem Xt{f g:Nat->Int}{n:Nat}(h:∀i,i<n->f i=g i):((aI n).map f).sum=((aI n).map g).sum:=by congr 1;apply bD;intro i a;exact h i (aX.mp a)
theorem MF(f g:Nat->Int)(n:Nat):((aI n).map λi=>f i+g i).sum=((aI n).map f).sum+((aI n).map g).sum:=by
 induction n with
 | zero=>simp
 | succ n ih=>rw[YO,YO,YO,ih];omega
theorem IQ(l:List Int):((aI l.length).map (Xp l)).sum=l.sum:=by rw[Td]
theorem KI(e:Nat->Nat->Int)(n:Nat)(c:∀i j,i<n->j<n->e i j=e j i)(f:∀i,i<n->e i i=0) :
  ((aI n).map λi=>((aI n).map λj=>e i j).sum).sum=2*((aI n).map λa=>((aI (n-(a+1))).map λj=>e a (a+1+j)).sum).sum:=by
 induction n with
 | zero=>simp
 | succ n d=>
  have d:=d (λi j b l=>c i j (by omega) (by omega)) λi b=>f i (by omega);rw[YO,YO,YO];have g:((aI n).map λi=>((aI (n+1)).map λj=>e i j).sum).sum=((aI n).map λi=>((aI n).map λj=>e i j).sum).sum+((aI n).map λi=>e i n).sum:=by rw[<-MF];apply Xt;intro i _;rw[YO]
  have k:((aI n).map λa=>((aI (n+1-(a+1))).map λj=>e a (a+1+j)).sum).sum=((aI n).map λa=>((aI (n-(a+1))).map λj=>e a (a+1+j)).sum).sum+((aI n).map λi=>e i n).sum:=by rw[<-MF];apply Xt;intro i b;rw[show n+1-(i+1)=(n-(i+1))+1 by omega,YO,show i+1+(n-(i+1))=n by omega]
  have h:((aI n).map λj=>e n j).sum=((aI n).map λi=>e i n).sum:=by apply Xt;intro i b;exact c n i (by omega) (by omega)
  rw[g,k,h,f n (by omega)];simp;omega
structure NamesOk(i:Nat)(l:List Int):Prop where
 len:l.length=i
 nd:l.Nodup
 lo:∀x∈l,0<=x
 hi:∀x∈l,x<i
theorem NamesOk.nil:NamesOk 0 []:=⟨rfl,cp,λ_ h=>by simp at h,λ_ h=>by simp at h⟩
theorem NamesOk.ins{i:Nat}{l:List Int}(h:NamesOk i l)(k:Nat):NamesOk (i+1) (l.take k++(i:Int)::l.drop k):=by
 have b:(l.take k++(i:Int)::l.drop k).Perm ((i:Int)::l):=by have:=List.perm_middle (a:=(i:Int)) (l₁:=l.take k) (l₂:=l.drop k);rw[List.take_append_drop] at this;exact this
 refine⟨by rw[b.length_eq,bg,h.len],?_,λx c=>?_,λx c=>?_⟩
 ·rw[b.nodup_iff,bP];exact⟨λd=>by have:=h.hi _ d;omega,h.nd⟩
 ·rcases af.mp (b.mem_iff.mp c) with e | e
  ·omega
  ·exact h.lo x e
 ·rcases af.mp (b.mem_iff.mp c) with e | e
  ·omega
  ·have:=h.hi x e;omega
theorem NamesOk.at{i:Nat}{l:List Int}(h:NamesOk i l){x:Nat}(a:x<i):0<=Xp l x/\Xp l x<i:=by
 have e:Xp l x=l[x]'(by rw[h.len];exact a):=by unfold Xp;rw[aM,aN (by rw[h.len];exact a)];rfl
 rw[e];exact⟨h.lo _ (dR _),h.hi _ (dR _)⟩
theorem NamesOk.ne{i:Nat}{l:List Int}(h:NamesOk i l){x y:Nat}(a:x<i)(b:y<i)(n:x≠y):Xp l x≠Xp l y:=by
 have c:Xp l x=l[x]'(by rw[h.len];exact a):=by unfold Xp;rw[aM,aN (by rw[h.len];exact a)];rfl
 have d:Xp l y=l[y]'(by rw[h.len];exact b):=by unfold Xp;rw[aM,aN (by rw[h.len];exact b)];rfl
 rw[c,d];intro e;exact n ((jR h.nd).mp e)
theorem lt_size{n:Nat}(h:n<=10000):n<sizeLine:=ay h (by decide)
end L2
namespace VL
open PySem PySem.Spec PyProof.Rows L2
variable {K:aD}
noncomputable def Bg(od:cx)(f:ah)(u:aF):Prop:=∀(hp:bU)(dx:aH),hp.get? dx=aA od->hp.Ns1 dx (λn=>if n=f then aA u else none)
noncomputable def IS(n:ah):ah:=if n = "NoWeb" then "place" else if n = "Apart" then "houses" else if n = "TooMany" then "most" else "total"
structure Cz where
 qual:ah
 params:Arguments
 body:au
 scope:dA
 free:ah
inductive PV where
 | non | bl (b:Bool) | int (i:Int) | str (x:ah) | ty (n:String) | exc (n:ah) | exf (n:ah) (l:PV) | clo (L:Cz) (l:PV)
 | tup (l:List PV) | lst (l:List PV) | cst (l:List PV)
 | dK (ks:List Sn) (vs:List PV) | dT (ks:List (List Sn)) (vs:List PV)
instance:Inhabited PV:=⟨.non⟩
mutual
/-- nothing in it can be changed -/
def ZQ:PV->Bool
 | .tup l=>ZC l
 | .cst l=>ZC l
 | .lst _=>aB
 | .dK _ _=>aB
 | .dT _ _=>aB
 | .non=>aC
 | .bl _=>aC
 | .int _=>aC
 | .str _=>aC
 | .ty _=>aC
 | .exc _=>aC
 | .exf _ _=>aC
 | .clo _ l=>ZQ l
def ZC:List PV->Bool
 | []=>aC
 | x::r=>ZQ x&&ZC r
end
theorem YW:∀l:List PV,ZC l=l.all ZQ
 | []=>rfl
 | x::r=>by rw[i9,<-YW r];rfl
noncomputable def KL(K:aD)(a:aH)(xs:List V):Prop:=
 ∃(o:cx) (k7:Array aF) (n:Nat),K.lookup a=aA o/\o.cls = .type "list"/\o.dict=none/\o.data = .seq k7 n/\k7.size<=sizeLine/\Vals xs k7.toList
noncomputable def CsK(K:aD)(H:Hp)(p:aH)(xs:List V):Prop:=(∃o,H p=aA (.frz o (.lst xs)))\/KL K p xs
theorem CsK.sq{K:aD}{H:Hp}{p:aH}{a:List V}(h:CsK K H p a):SqL K H p a:=by
 rcases h with h | h
 ·exact .inl (.inr h)
 ·exact .inr h
noncomputable def CloAt(H:Hp)(L:Cz)(v:V)(u:aF):Prop:=∃f fo c oc e eo pm ct,v = .ref f/\H f=aA (.frz fo (.own 0))/\fo.data = .func (PySem.W.kla_fn "<lambda>" L.qual L.params L.body L.scope [(L.free,e)] pm (.ref c) ct)/\H c=aA (.frz oc (.own 0))/\Km oc L.qual/\H e=aA (.frz eo (.own 1))/\eo.data = .cell (aA u)
mutual
/-- v is the tree l in the heap H;fp: the addresses of k7 lists and dicts -/
def Is(K:aD)(H:Hp):PV->V->List aH->Prop
 | .non,v,fp=>v = .non/\fp=[]
 | .bl b,v,fp=>v = .bl b/\fp=[]
 | .int i,v,fp=>v = .int i/\fp=[]
 | .str x,v,fp=>v = .str x/\fp=[]
 | .ty n,v,fp=>v = .ty n/\fp=[]
 | .exc n,v,fp=>(∃e o x C,v = .ref e/\H e=aA (.frz o (.own x))/\o.cls = .ref C/\gw K cJ n=aA (aA (.ref C))/\o.dict=none/\∃vs,o.data = .fields vs)/\fp=[]
 | .exf n l,v,fp=>(∃e o x C dx od u z,v = .ref e/\H e=aA (.frz o (.own x))/\o.cls = .ref C/\gw K cJ n=aA (aA (.ref C))/\o.dict=aA dx/\(∃vs,o.data = .fields vs)/\H dx=aA (.frz od (.own dx))/\Bg od (IS n) u/\RelV z u/\Is K H l z [])/\fp=[]
 | .clo L l,v,fp=>∃u x,CloAt H L v u/\RelV x u/\Is K H l x fp
 | .tup l,v,fp=>∃p xs,v = .ref p/\H p=aA (.tup xs)/\Iss K H l xs fp
 | .lst l,v,fp=>∃p xs fq,v = .ref p/\H p=aA (.lst xs)/\Iss K H l xs fq/\fp=p::fq
 | .cst l,v,fp=>∃p xs,v = .ref p/\CsK K H p xs/\Iss K H l xs fp
 | .dK ks l,v,fp=>∃p k3 fq,v = .ref p/\Rd H p (.dK k3)/\k3.map (·.1)=ks/\Iss K H l (k3.map (·.2)) fq/\fp=p::fq
 | .dT ks l,v,fp=>∃p k3 fq,v = .ref p/\Rd H p (.dT k3)/\k3.map (·.1)=ks/\Iss K H l (k3.map (·.2)) fq/\fp=p::fq
def Iss(K:aD)(H:Hp):List PV->List V->List aH->Prop
 | [],xs,fp=>xs=[]/\fp=[]
 | l::ls,xs,fp=>∃x r f1 f2,xs=x::r/\Is K H l x f1/\Iss K H ls r f2/\fp=f1++f2
end
noncomputable def RdK(H H':Hp)(p:aH):Prop:=(∀xs,H p=aA (.lst xs)->H' p=aA (.lst xs))/\(∀k3,Rd H p (.dK k3)->Rd H' p (.dK k3))/\∀k3,Rd H p (.dT k3)->Rd H' p (.dT k3)
theorem RdK.of{H a:Hp}{p:aH}(h:∀o,H p=aA o->a p=aA o):RdK H a p:=by
 have r:∀u,Rd H p u->Rd a p u:=λu q=>by
  rcases q with q | ⟨o,q⟩
  ·exact .inl (h _ q)
  ·exact .inr ⟨o,h _ q⟩
 exact⟨λ_=>h _,λ_=>r _,λ_=>r _⟩
structure IT(H H':Hp):Prop where
 tup:TK H H'
 frz:∀b o xs,H b=aA (.frz o (.lst xs))->H' b=aA (.frz o (.lst xs))
 exc:∀b o x,H b=aA (.frz o (.own x))->H' b=aA (.frz o (.own x))
theorem Same.tk2{H a:Hp}(s:Same H a):IT H a:=⟨s.tk,λb o c h=>s b _ h,λb o x h=>s b _ h⟩
theorem CsK.tr{K:aD}{H b:Hp}(t:IT H b){p:aH}{a:List V}(h:CsK K H p a):CsK K b p a:=by
 rcases h with⟨o,h⟩ | h
 ·exact .inl ⟨o,t.frz p o a h⟩
 ·exact .inr h
theorem CloAt.tr{H g:Hp}(t:IT H g){L:Cz}{v:V}{u:aF}(h:CloAt H L v u):CloAt g L v u:=by obtain⟨f,b,c,a,e,d,j,ct,m,k,n,p,l,o,i⟩:=h;exact⟨f,b,c,a,e,d,j,ct,m,t.exc f b 0 k,n,t.exc c a 0 p,l,t.exc e d 1 o,i⟩
mutual
theorem Is.tr{H s:Hp}(f:IT H s):∀(l:PV)(v:V)(fp:List aH),(∀p∈fp,RdK H s p)->Is K H l v fp->Is K s l v fp
 | .non,_,_,_,h=>by simpa only[Is] using h
 | .bl _,_,_,_,h=>by simpa only[Is] using h
 | .int _,_,_,_,h=>by simpa only[Is] using h
 | .str _,_,_,_,h=>by simpa only[Is] using h
 | .ty _,_,_,_,h=>by simpa only[Is] using h
 | .exc _,_,_,_,h=>by simp only[Is] at h ⊢;obtain⟨⟨e,o,x,C,a,b,c⟩,d⟩:=h;exact⟨⟨e,o,x,C,a,f.exc e o x b,c⟩,d⟩
 | .exf _ l,_,_,_,h=>by simp only[Is] at h ⊢;obtain⟨⟨e,o,x,C,n,y,u,z,a,b,c1,c2,c3,c4,c5,E,A,B⟩,d⟩:=h;exact⟨⟨e,o,x,C,n,y,u,z,a,f.exc e o x b,c1,c2,c3,c4,f.exc n y n c5,E,A,Is.tr f l z [] (λp r=>by simp at r) B⟩,d⟩
 | .clo L l,v,fp,hm,h=>by simp only[Is] at h ⊢;obtain⟨u,x,D,i,g⟩:=h;exact⟨u,x,D.tr f,i,Is.tr f l x fp hm g⟩
 | .tup l,v,fp,hm,h=>by simp only[Is] at h ⊢;obtain⟨p,j,e,r,g⟩:=h;exact⟨p,j,e,f.tup p j r,Iss.tr f l j fp hm g⟩
 | .lst l,v,fp,hm,h=>by simp only[Is] at h ⊢;obtain⟨p,j,k,e,i,g,rfl⟩:=h;exact⟨p,j,k,e,(hm p a9).1 _ i,Iss.tr f l j k (λq m=>hm q (aW _ m)) g,rfl⟩
 | .cst l,v,fp,hm,h=>by simp only[Is] at h ⊢;obtain⟨p,j,e,i,g⟩:=h;exact⟨p,j,e,i.tr f,Iss.tr f l j fp hm g⟩
 | .dK ks l,v,fp,hm,h=>by simp only[Is] at h ⊢;obtain⟨p,t,k,e,i,w,g,rfl⟩:=h;exact⟨p,t,k,e,(hm p a9).2.1 _ i,w,Iss.tr f l _ k (λq m=>hm q (aW _ m)) g,rfl⟩
 | .dT ks l,v,fp,hm,h=>by simp only[Is] at h ⊢;obtain⟨p,t,k,e,i,w,g,rfl⟩:=h;exact⟨p,t,k,e,(hm p a9).2.2 _ i,w,Iss.tr f l _ k (λq m=>hm q (aW _ m)) g,rfl⟩
theorem Iss.tr{H a:Hp}(c:IT H a):∀(l:List PV)(xs:List V)(fp:List aH),(∀p∈fp,RdK H a p)->Iss K H l xs fp->Iss K a l xs fp
 | [],_,_,_,h=>by simpa only[Iss] using h
 | l::ls,xs,fp,hm,h=>by simp only[Iss] at h ⊢;obtain⟨x,r,f1,f2,e,f,d,rfl⟩:=h;exact⟨x,r,f1,f2,e,Is.tr c l x f1 (λq b=>hm q (bR _ b)) f,Iss.tr c ls r f2 (λq b=>hm q (aa _ b)) d,rfl⟩
end
theorem Is.mono{H b:Hp}(s:Same H b){l:PV}{v:V}{a:List aH}(h:Is K H l v a):Is K b l v a:=Is.tr (Same.tk2 s) l v a (λp _=>RdK.of λo q=>s p o q) h
theorem Iss.mono{H b:Hp}(s:Same H b){l:List PV}{v:List V}{a:List aH}(h:Iss K H l v a):Iss K b l v a:=Iss.tr (Same.tk2 s) l v a (λp _=>RdK.of λo q=>s p o q) h
mutual
theorem Is.pure{H:Hp}:∀(l:PV)(v:V)(fp:List aH),ZQ l=aC->Is K H l v fp->fp=[]
 | .non,_,_,_,h=>by simp only[Is] at h;exact h.2
 | .bl _,_,_,_,h=>by simp only[Is] at h;exact h.2
 | .int _,_,_,_,h=>by simp only[Is] at h;exact h.2
 | .str _,_,_,_,h=>by simp only[Is] at h;exact h.2
 | .ty _,_,_,_,h=>by simp only[Is] at h;exact h.2
 | .exc _,_,_,_,h=>by simp only[Is] at h;exact h.2
 | .exf _ _,_,_,_,h=>by simp only[Is] at h;exact h.2
 | .clo L l,v,fp,hp,h=>by simp only[Is] at h;obtain⟨u,x,c,d,a⟩:=h;exact Is.pure l x fp (by simpa only[ZQ] using hp) a
 | .tup l,v,fp,hp,h=>by simp only[Is] at h;obtain⟨p,b,e,_,a⟩:=h;exact Iss.pure l b fp (by simpa only[ZQ] using hp) a
 | .lst l,v,fp,hp,h=>by simp[ZQ] at hp
 | .cst l,v,fp,hp,h=>by simp only[Is] at h;obtain⟨p,b,e,_,a⟩:=h;exact Iss.pure l b fp (by simpa only[ZQ] using hp) a
 | .dK ks l,v,fp,hp,h=>by simp[ZQ] at hp
 | .dT ks l,v,fp,hp,h=>by simp[ZQ] at hp
theorem Iss.pure{H:Hp}:∀(l:List PV)(xs:List V)(fp:List aH),ZC l=aC->Iss K H l xs fp->fp=[]
 | [],_,_,_,h=>by simp only[Iss] at h;exact h.2
 | l::ls,xs,fp,hp,h=>by simp only[Iss] at h;simp only[ZC,bW] at hp;obtain⟨x,r,f1,f2,e,b,a,rfl⟩:=h;rw[Is.pure l x f1 hp.1 b,Iss.pure ls r f2 hp.2 a];rfl
end
section
variable {H H':Hp}
theorem Iss.len:∀{l:List PV}{xs:List V}{fp:List aH},Iss K H l xs fp->xs.length=l.length
 | [],xs,fp,h=>by simp only[Iss] at h;rw[h.1];rfl
 | l::ls,xs,fp,h=>by simp only[Iss] at h;obtain⟨x,r,f1,f2,rfl,_,a,_⟩:=h;rw[bg,bg,a.len]
theorem Iss.get:∀{l:List PV}{xs:List V}{fp:List aH}{i:Nat}{a:PV},Iss K H l xs fp->l[i]?=aA a->∃x f1,xs[i]?=aA x/\Is K H a x f1/\∀p∈f1,p∈fp
 | [],xs,fp,i,a,h,e=>by simp at e
 | l::ls,xs,fp,0,a,h,e=>by simp only[Iss] at h;obtain⟨x,r,f1,f2,rfl,j,_,rfl⟩:=h;simp at e;subst e;exact⟨x,f1,rfl,j,λp b=>bR _ b⟩
 | l::ls,xs,fp,i+1,a,h,e=>by simp only[Iss] at h;obtain⟨x,r,f1,f2,rfl,_,c,rfl⟩:=h;obtain⟨y,g,k,d,f⟩:=c.get (i:=i) (a:=a) (by simpa using e);exact⟨y,g,by simpa using k,d,λp b=>aa _ (f p b)⟩
theorem Iss.nil:Iss K H [] [] []:=by simp[Iss]
theorem Iss.cons{l:PV}{ls:List PV}{x:V}{a:List V}{f1 f2:List aH}(c:Is K H l x f1)(b:Iss K H ls a f2):Iss K H (l::ls) (x::a) (f1++f2):=by exact⟨x,a,f1,f2,rfl,c,b,rfl⟩
theorem Iss.inv{l:PV}{ls:List PV}{b:List V}{a:List aH}(h:Iss K H (l::ls) b a):∃x r f1 f2,b=x::r/\Is K H l x f1/\Iss K H ls r f2/\a=f1++f2:=by simpa only[Iss] using h
theorem Iss.append:∀{l m:List PV}{xs ys:List V}{f1 f2:List aH},Iss K H l xs f1->Iss K H m ys f2->Iss K H (l++m) (xs++ys) (f1++f2)
 | [],m,xs,ys,f1,f2,h,h'=>by simp only[Iss] at h;rw[h.1,h.2];exact h'
 | l::ls,m,xs,ys,f1,f2,h,h'=>by obtain⟨x,r,d,c,rfl,a,b,rfl⟩:=h.inv;rw[el];exact Iss.cons a (b.append h')
theorem Iss.one{l:PV}{x:V}{f:List aH}(h:Is K H l x f):Iss K H [l] [x] f:=by
 have:=Iss.cons h (Iss.nil)
 rwa [cw] at this
theorem Iss.take:∀{l:List PV}{xs:List V}{fp:List aH}(n:Nat),Iss K H l xs fp->∃f1,Iss K H (l.take n) (xs.take n) f1/\∀p∈f1,p∈fp
 | l,xs,fp,0,h=>⟨[],by rw[iP,iP];exact Iss.nil,λp c=>by simp at c⟩
 | [],xs,fp,n+1,h=>by simp only[Iss] at h;rw[h.1];exact⟨[],by rw[jm,jm];exact Iss.nil,λp c=>by simp at c⟩
 | l::ls,xs,fp,n+1,h=>by
  obtain⟨x,r,f1,f2,rfl,e,d,rfl⟩:=h.inv;obtain⟨f,a,b⟩:=d.take n;refine⟨f1++f,Iss.cons e a,λp c=>?_⟩;rcases bb.mp c with h | h
  ·exact bR _ h
  ·exact aa _ (b p h)
theorem Iss.drop:∀{l:List PV}{xs:List V}{fp:List aH}(n:Nat),Iss K H l xs fp->∃f1,Iss K H (l.drop n) (xs.drop n) f1/\∀p∈f1,p∈fp
 | l,xs,fp,0,h=>⟨fp,h,λp c=>c⟩
 | [],xs,fp,n+1,h=>by simp only[Iss] at h;rw[h.1];exact⟨[],by rw[jn,jn];exact Iss.nil,λp c=>by simp at c⟩
 | l::ls,xs,fp,n+1,h=>by obtain⟨x,r,f1,f2,rfl,f,d,rfl⟩:=h.inv;obtain⟨e,a,b⟩:=d.drop n;exact⟨e,a,λp c=>aa _ (b p c)⟩
theorem Iss.setP:∀{l:List PV}{xs:List V}{a:PV}{x:V}(i:Nat),ZC l=aC->ZQ a=aC->Iss K H l xs []->Is K H a x []->Iss K H (l.set i a) (xs.set i x) []
 | [],xs,a,x,i,_,_,h,_=>by simp only[Iss] at h;rw[h.1];simp only[List.set_nil];exact Iss.nil
 | l::ls,xs,a,x,0,hp,_,h,ha=>by simp only[ZC,bW] at hp;obtain⟨y,r,f1,f2,rfl,_,b,e⟩:=h.inv;have c:=Iss.pure _ _ _ hp.2 b;subst c;exact Iss.cons (f1:=[]) ha b
 | l::ls,xs,a,x,i+1,hp,hq,h,ha=>by simp only[ZC,bW] at hp;obtain⟨y,r,f1,f2,rfl,d,b,e⟩:=h.inv;have f:=Is.pure _ _ _ hp.1 d;have c:=Iss.pure _ _ _ hp.2 b;subst f c;exact Iss.cons (f1:=[]) d (Iss.setP i hp.2 hq b ha)
theorem Is.int_inv{i:Int}{v:V}{a:List aH}(h:Is K H (.int i) v a):v = .int i/\a=[]:=by simpa only[Is] using h
theorem Is.int(i:Int):Is K H (.int i) (.int i) []:=by simp[Is]
theorem Is.bl(i:Bool):Is K H (.bl i) (.bl i) []:=by simp[Is]
theorem Is.non:Is K H .non .non []:=by simp[Is]
theorem Is.str(x:ah):Is K H (.str x) (.str x) []:=by simp[Is]
theorem Is.ty(n:String):Is K H (.ty n) (.ty n) []:=by simp[Is]
theorem Is.bl_inv{i:Bool}{v:V}{a:List aH}(h:Is K H (.bl i) v a):v = .bl i/\a=[]:=by simpa only[Is] using h
theorem Is.str_inv{i:ah}{v:V}{a:List aH}(h:Is K H (.str i) v a):v = .str i/\a=[]:=by simpa only[Is] using h
theorem Is.non_inv{v:V}{a:List aH}(h:Is K H .non v a):v = .non/\a=[]:=by simpa only[Is] using h
theorem Is.ty_inv{n:String}{v:V}{a:List aH}(h:Is K H (.ty n) v a):v = .ty n/\a=[]:=by simpa only[Is] using h
theorem Is.tup_inv{l:List PV}{v:V}{a:List aH}(h:Is K H (.tup l) v a):∃p xs,v = .ref p/\H p=aA (.tup xs)/\Iss K H l xs a:=by simpa only[Is] using h
theorem Is.tup{l:List PV}{p:aH}{a:List V}{b:List aH}(h:H p=aA (.tup a))(c:Iss K H l a b):Is K H (.tup l) (.ref p) b:=by simp only[Is];exact⟨p,a,rfl,h,c⟩
theorem Is.lst_inv{l:List PV}{v:V}{a:List aH}(h:Is K H (.lst l) v a):∃p xs fq,v = .ref p/\H p=aA (.lst xs)/\Iss K H l xs fq/\a=p::fq:=by simpa only[Is] using h
theorem Is.lst{l:List PV}{p:aH}{b:List V}{a:List aH}(h:H p=aA (.lst b))(c:Iss K H l b a):Is K H (.lst l) (.ref p) (p::a):=by simp only[Is];exact⟨p,b,a,rfl,h,c,rfl⟩
theorem Is.cst_inv{l:List PV}{v:V}{a:List aH}(h:Is K H (.cst l) v a):∃p xs,v = .ref p/\CsK K H p xs/\Iss K H l xs a:=by simpa only[Is] using h
theorem Is.cst{l:List PV}{p:aH}{a:List V}{b:List aH}(h:CsK K H p a)(c:Iss K H l a b):Is K H (.cst l) (.ref p) b:=by simp only[Is];exact⟨p,a,rfl,h,c⟩
theorem Is.dT_inv{b:List (List Sn)}{l:List PV}{v:V}{a:List aH}(h:Is K H (.dT b l) v a):∃p k3 fq,v = .ref p/\Rd H p (.dT k3)/\k3.map (·.1)=b/\Iss K H l (k3.map (·.2)) fq/\a=p::fq:=by simpa only[Is] using h
theorem Is.dK_inv{b:List Sn}{l:List PV}{v:V}{a:List aH}(h:Is K H (.dK b l) v a):∃p k3 fq,v = .ref p/\Rd H p (.dK k3)/\k3.map (·.1)=b/\Iss K H l (k3.map (·.2)) fq/\a=p::fq:=by simpa only[Is] using h
end
abbrev iL(l:List Int):List PV:=l.map PV.int
theorem Yi(l:List Int):ZC (iL l)=aC:=by rw[YW,aq];intro x a;obtain⟨i,_,rfl⟩:=cB.mp a;rfl
theorem Iss.iL{H:Hp}:∀{l:List Int}{xs:List V}{fp:List aH},Iss K H (VL.iL l) xs fp->xs=l.map V.int/\fp=[]
 | [],xs,fp,h=>by simpa only[VL.iL,List.map_nil,Iss] using h
 | i::l,xs,fp,h=>by obtain⟨x,r,f1,f2,rfl,b,a,rfl⟩:=Iss.inv (show Iss K H (PV.int i::VL.iL l) xs fp from h);obtain⟨rfl,rfl⟩:=b.int_inv;obtain⟨rfl,rfl⟩:=a.iL;exact⟨rfl,rfl⟩
theorem Iss.ofInts{H:Hp}:∀(l:List Int),Iss K H (VL.iL l) (l.map V.int) []
 | []=>Iss.nil
 | i::l=>Iss.cons (f1:=[]) (Is.int i) (Iss.ofInts l)
end VL
namespace VL
open PySem PySem.Spec PyProof.Rows L2
variable {K:aD}
abbrev Sf:=L2.St
abbrev ZD:=List (Option PV)
abbrev XE:=ZD->Option PV
structure EnvIs(K:aD)(Rm:aH->Prop)(H:Hp)(s:ZD)(σ:Sf):Prop where
 is:∀(i:Nat) l,s[i]?=aA (aA l)->∃v fp,σ[i]?=aA (aA v)/\Is K H l v fp/\∀p∈fp,¬Rm p
theorem EnvIs.mono{g:aH->Prop}{H f:Hp}{s:ZD}{d:Sf}(h:EnvIs K g H s d)(e:Same H f):EnvIs K g f s d:=⟨λi l q=>by
 obtain⟨v,j,a,b,c⟩:=h.is i l q;exact⟨v,j,a,b.mono e,c⟩⟩
theorem EnvIs.free{f:aH->Prop}{H:Hp}{s:ZD}{d:Sf}(h:EnvIs K f H s d):EnvIs K (λ_=>False) H s d:=⟨λi l q=>by
 obtain⟨v,e,a,b,c⟩:=h.is i l q;exact⟨v,e,a,b,λ_ _ z=>z⟩⟩
theorem Same.mut{H a:Hp}(e:Same H a){p:aH}(h:VY (H p)):VY (a p):=by
 cases q:H p with
 | none=>rw[q] at h;exact h.elim
 | some o=>rw[e p o q,<-q];exact h
theorem Y5{H:Hp}{p:aH}(h:VY (H p)):H p≠none:=λz=>by rw[z] at h;exact h
noncomputable def tF(K:aD)(f:XE):TE:=λσ H Q=>∃(Rm:aH->Prop) (s:ZD) (l:PV),(∀p,Rm p->VY (H p))/\EnvIs K Rm H s σ/\f s=aA l/\∀v H' fp,Same H H'->Is K H' l v fp->(∀p∈fp,¬Rm p)->Q v H'
noncomputable def tM(K:aD)(f:XE):TE:=λσ H Q=>∃(s:ZD) (l:PV),EnvIs K (λ_=>False) H s σ/\f s=aA l/\∀v H' fp,Same H H'->Is K H' l v fp->fp.Nodup->(∀p∈fp,H p=none/\VY (H' p))->Q v H'
noncomputable def VE(X:Cx)(e:au)(f:XE):Prop:=PE X e (tF X.K f)
noncomputable def VM(X:Cx)(e:au)(f:XE):Prop:=PE X e (tM X.K f)
section
variable {X:Cx} {e:au} {f g:XE} {t t':TE}
theorem PE.imp(h:PE X e t)(i:∀a H Q,t' a H Q->t a H Q):PE X e t':=λb s a H Q I q=>h b s a H Q I (i a H Q q)
theorem VM.ve(h:VM X e f):VE X e f:=PE.imp h λj H Q ⟨m,s,l,a,env,e,k⟩=>
 ⟨s,l,env.free,e,λv d g b i _ n=>k v d g b i λp c z=>Y5 (a p z) (n p c).1⟩
noncomputable def eP(f:XE):XE:=λs=>(f s).bind λl=>if ZQ l=aC then aA l else none
theorem IU{s:ZD}{l:PV}(h:eP f s=aA l):f s=aA l/\ZQ l=aC:=by
 unfold eP at h
 cases q:f s with
 | none=>rw[q] at h;cases h
 | some a=>
  rw[q] at h;simp only[aY] at h;split at h
  ·cases h;exact⟨rfl,by assumption⟩
  ·cases h
theorem VE.pure(h:VE X e f):VM X e (eP f):=PE.imp h λm H Q ⟨s,l,env,e,k⟩=>by
 obtain⟨a,c⟩:=IU e;refine⟨λ_=>False,s,l,λ_ z=>z.elim,env,a,λv g j b i n=>?_⟩;have:=Is.pure l v j c i;subst this;exact k v g [] b i cp λp d=>by simp at d
end
noncomputable def Za(i:Nat):XE:=λs=>(s[i]?).join
noncomputable def eC(l:PV):XE:=λ_=>aA l
theorem QC{i:Nat}{s:ZD}{l:PV}(h:Za i s=aA l):s[i]?=aA (aA l):=by
 unfold Za at h
 cases q:s[i]? with
 | none=>rw[q] at h;cases h
 | some o=>rw[q] at h;cases o with
  | none=>cases h
  | some a=>cases h;rfl
section
variable {X:Cx} {pos:di}
theorem Dj{e:au}{i:Nat}(h:PE X e (RW i)):VE X e (Za i):=PE.imp h λf H Q ⟨j,s,l,g,env,e,k⟩=>by obtain⟨v,d,a,b,c⟩:=env.is i l (QC e);exact⟨v,a,k v H d (Same.refl H) b c⟩
theorem IV{e:au}{v:V}{l:PV}(h:PE X e (tC v))(b:∀H,Is X.K H l v []):VE X e (eC l):=PE.imp h λc H Q ⟨f,s,l',d,env,e,k⟩=>by
 cases e;exact k v H [] (Same.refl H) (b H) λp a=>by simp at a
theorem Zf{i j}:VE X (.Constant (.int i) j pos) (eC (.int i)):=IV G5 λ_=>Is.int i
theorem GB{i j}:VE X (.Constant (.bool i) j pos) (eC (.bl i)):=IV EG λ_=>Is.bl i
theorem FO{j}:VE X (.Constant .none j pos) (eC .non):=IV G6 λ_=>Is.non
end
noncomputable def RB(K:aD)(r:R2)(g:PV->PV->Option PV):Prop:=∀(H:Hp)(x y:V)(a b l:PV)(fa fb:List aH),Is K H a x fa->Is K H b y fb->g a b=aA l->∀Q:VK,
 (∀v H' fp,Same H H'->Is K H' l v fp->(∀p∈fp,p∈fa\/p∈fb\/H p=none)->Q v H')->r x y H Q
noncomputable def Zi(g:PV->PV->Option PV)(a b:XE):XE:=λs=>(a s).bind λx=>(b s).bind λy=>g x y
theorem SU{g:PV->PV->Option PV}{a b:XE}{s:ZD}{l:PV}(h:Zi g a b s=aA l):∃x y,a s=aA x/\b s=aA y/\g x y=aA l:=by
 unfold Zi at h
 cases q:a s with
 | none=>rw[q] at h;cases h
 | some x=>cases q2:b s with
  | none=>rw[q,q2] at h;cases h
  | some y=>rw[q,q2] at h;exact⟨x,y,rfl,rfl,h⟩
section
variable {X:Cx} {a b:au} {fa fb:XE} {pos:di}
theorem MG{r:R2}{g:PV->PV->Option PV}(n:RB K r g):∀a H Q,tF K (Zi g fa fb) a H Q->Ey r (tF K fa) (tF K fb) a H Q:=λa H Q ⟨d,s,l,b,env,e,k⟩=>by
 obtain⟨f,i,w,q,e⟩:=SU e;refine⟨d,s,f,b,env,w,λx F f1 s1 m j=>⟨d,s,i,λp c=>Same.mut s1 (b p c),env.mono s1,q,λy E f2 s2 B t=>?_⟩⟩;refine n E x y f i l f1 f2 (m.mono s2) B e Q λv u D A o C=>k v u D (s1.trans (s2.trans A)) o λp c z=>?_;rcases C p c with h | h | h
 ·exact j p h z
 ·exact t p h z
 ·exact Y5 (Same.mut (s1.trans s2) (b p z)) h
theorem Xm{op:Operator}{r:R2}{g:PV->PV->Option PV}(d:U4 X (ck op) r)(e:RB X.K r g)(c:VE X a fa)(f:VE X b fb):VE X (.BinOp a op b pos) (Zi g fa fb):=
 PE.imp (Ks d c f) (MG e)
theorem KJ{op:jc}{r:R2}{g:PV->PV->Option PV}(e:U4 X (eO op) r)(f:RB X.K r g)(c:VE X a fa)(h:VE X b fb)(d:cz op b=aB):VE X (.Compare a [op] [b] pos) (Zi g fa fb):=
 PE.imp (Iq e c h d) (MG f)
theorem Dk{r:R2}{g:PV->PV->Option PV}(d:IxR X r)(e:RB X.K r g)(c:VE X a fa)(h:VE X b fb)(f:QX b):VE X (.Subscript a b pos) (Zi g fa fb):=
 PE.imp (Kz d c h f) (MG e)
end
noncomputable def gI(g:Int->Int->Int):PV->PV->Option PV
 | .int i,.int j=>aA (.int (g i j))
 | _,_=>none
noncomputable def gB(g:Int->Int->Bool):PV->PV->Option PV
 | .int i,.int j=>aA (.bl (g i j))
 | _,_=>none
noncomputable def LB(C:Int->Int->Prop)[∀i j,Decidable (C i j)](g:Int->Int->Int):PV->PV->Option PV
 | .int i,.int j=>if C i j then aA (.int (g i j)) else none
 | _,_=>none
theorem IW{g:Int->Int->Int}{a b l:PV}(h:gI g a b=aA l):∃i j,a = .int i/\b = .int j/\l = .int (g i j):=by
 unfold gI at h;split at h
 ·cases h;exact⟨_,_,rfl,rfl,rfl⟩
 ·cases h
theorem IX{g:Int->Int->Bool}{a b l:PV}(h:gB g a b=aA l):∃i j,a = .int i/\b = .int j/\l = .bl (g i j):=by
 unfold gB at h;split at h
 ·cases h;exact⟨_,_,rfl,rfl,rfl⟩
 ·cases h
theorem KN{C:Int->Int->Prop}[∀i j,Decidable (C i j)]{g:Int->Int->Int}{a b l:PV}(h:LB C g a b=aA l):∃i j,a = .int i/\b = .int j/\C i j/\l = .int (g i j):=by
 unfold LB at h;split at h
 ·split at h
  ·cases h;exact⟨_,_,rfl,rfl,by assumption,rfl⟩
  ·cases h
 ·cases h
theorem Dl(g:Int->Int->Int):RB K (Gx λi j=>.int (g i j)) (gI g):=λH x y a b l h fb d f e Q k=>by obtain⟨i,j,rfl,rfl,rfl⟩:=IW e;exact⟨i,j,d.int_inv.1,f.int_inv.1,k _ H [] (Same.refl H) (Is.int _) λp c=>by simp at c⟩
theorem Dm(g:Int->Int->Bool):RB K (Gx λi j=>.bl (g i j)) (gB g):=λH x y a b l h fb d f e Q k=>by obtain⟨i,j,rfl,rfl,rfl⟩:=IX e;exact⟨i,j,d.int_inv.1,f.int_inv.1,k _ H [] (Same.refl H) (Is.bl _) λp c=>by simp at c⟩
theorem T3(C:Int->Int->Prop)[∀i j,Decidable (C i j)](g:Int->Int->Int):RB K (rI C λi j=>.int (g i j)) (LB C g):=λH x y a b l m fb h d e Q k=>by obtain⟨i,j,rfl,rfl,c,rfl⟩:=KN e;exact⟨i,j,h.int_inv.1,d.int_inv.1,c,k _ H [] (Same.refl H) (Is.int _) λp f=>by simp at f⟩
instance (i j:Int):Decidable (CMul i j):=by unfold CMul;infer_instance
instance (i j:Int):Decidable (Np i j):=by unfold Np;infer_instance
instance (i j:Int):Decidable (Gy i j):=by unfold Gy;infer_instance
instance (i j:Int):Decidable (Lp i j):=by unfold Lp;infer_instance
abbrev Z4:=gI (· + ·)
abbrev XH:=gI (· - ·)
abbrev YX:=LB CMul (· * ·)
abbrev Nz:=LB Np (· / ·)
abbrev Wh:=LB (λ_ j=>0<j) (· % ·)
abbrev IY:=LB Lp (λi j=>i^j.toNat)
abbrev GC:=gB (λi j=>decide (i<j))
abbrev Ki:=gB (λi j=>decide (j<i))
section
variable {X:Cx} {a b:au} {fa fb:XE} {pos:di}
theorem ZV(d:VE X a fa)(c:VE X b fb):VE X (.BinOp a .Add b pos) (Zi Z4 fa fb):=Xm Fq (Dl _) d c
theorem Xu(d:VE X a fa)(c:VE X b fb):VE X (.BinOp a .Sub b pos) (Zi XH fa fb):=Xm Fs (Dl _) d c
theorem Z6(d:VE X a fa)(c:VE X b fb):VE X (.BinOp a .Mult b pos) (Zi YX fa fb):=Xm Ft (T3 _ _) d c
theorem Q3(d:VE X a fa)(c:VE X b fb):VE X (.BinOp a .FloorDiv b pos) (Zi Nz fa fb):=Xm Io (T3 _ _) d c
theorem YY(d:VE X a fa)(c:VE X b fb):VE X (.BinOp a .Mod b pos) (Zi Wh fa fb):=Xm Fu (T3 _ _) d c
theorem FP(d:VE X a fa)(c:VE X b fb):VE X (.BinOp a .Pow b pos) (Zi IY fa fb):=Xm Fv (T3 _ _) d c
end
noncomputable def ZS:PV->PV->Option PV
 | .lst l,.int i=>U8 l i
 | .cst l,.int i=>U8 l i
 | .tup l,.int i=>U8 l i
 | .str z,.int i=>if z.length<=sizeLine then(U8 z.cps.toList i).map λc=>.str ⟨#[c]⟩ else none
 | _,_=>none
theorem NA{l:List PV}{c:List V}{H:Hp}{b:List aH}{i:Int}{a:PV}(h:Iss K H l c b)(e:U8 l i=aA a):∃x f1,U8 c i=aA x/\Is K H a x f1/\∀p∈f1,p∈b:=by
 unfold U8 at e ⊢;rw[h.len]
 cases q:Nj l.length i with
 | none=>rw[q] at e;cases e
 | some j=>rw[q] at e;exact h.get e
theorem Dn:RB K (CW K) ZS:=λH x y a b l s fb o n e Q k=>by
 unfold ZS at e;split at e
 ·obtain⟨p,h,r,rfl,d,m,rfl⟩:=o.lst_inv;obtain⟨z,f1,g,f,j⟩:=NA m e;exact .inl ⟨p,h,_,z,rfl,n.int_inv.1,SqL.of d,g,k z H f1 (Same.refl H) f λq i=>.inl (aW _ (j q i))⟩
 ·obtain⟨p,h,rfl,d,m⟩:=o.cst_inv;obtain⟨z,f1,g,f,j⟩:=NA m e;exact .inl ⟨p,h,_,z,rfl,n.int_inv.1,d.sq,g,k z H f1 (Same.refl H) f λq i=>.inl (j q i)⟩
 ·obtain⟨p,h,rfl,d,m⟩:=o.tup_inv;obtain⟨z,f1,g,f,j⟩:=NA m e;exact .inr (.inl ⟨p,h,_,z,rfl,n.int_inv.1,SqT.of d,g,k z H f1 (Same.refl H) f λq i=>.inl (j q i)⟩)
 ·split at e
  ·cases q:U8 _ _ with
   | none=>rw[q] at e;cases e
   | some c=>
    rw[q] at e;cases e;exact .inr (.inr ⟨_,_,c,o.str_inv.1,n.int_inv.1,by assumption,q,k _ H [] (Same.refl H) (Is.str _) λp d=>by simp at d⟩)
  ·cases e
 ·cases e
section
variable {X:Cx} {a b:au} {fa fb:XE} {pos:di}
theorem Zk(d:VE X a fa)(c:VE X b fb)(e:QX b:=by exact λ_ _=>rfl):VE X (.Subscript a b pos) (Zi ZS fa fb):=Dk FD Dn d c e
end
abbrev XT:=ZD->Option Bool
noncomputable def Ot(K:aD)(f:XT):TT:=λσ H Q=>∃(Rm:aH->Prop) (s:ZD) (c:Bool),(∀p,Rm p->VY (H p))/\EnvIs K Rm H s σ/\f s=aA c/\∀H',Same H H'->Q c H'
noncomputable def VT(X:Cx)(e:au)(f:XT):Prop:=PT X e (Ot X.K f)
noncomputable def VW(X:Cx)(e:au)(f:XT):Prop:=PW X e (Ot X.K f)
section
variable {X:Cx} {e:au} {f:XT}
theorem PT.imp{t t':TT}(h:PT X e t)(i:∀a H Q,t' a H Q->t a H Q):PT X e t':=λb s a H Q I q=>h b s a H Q I (i a H Q q)
theorem PW.imp{t t':TT}(h:PW X e t)(i:∀b H Q,t' b H Q->t b H Q):PW X e t':=λa c s b H Q I q=>h a c s b H Q I (i b H Q q)
theorem VW.vt(h:VW X e f):VT X e f:=PW.pt h
end
noncomputable def xB(f:XE):XT:=λs=>match f s with | some (.bl c)=>aA c | _=>none
theorem Uw{f:XE}{s:ZD}{c:Bool}(h:xB f s=aA c):f s=aA (.bl c):=by
 unfold xB at h;split at h
 ·cases h;assumption
 ·cases h
section
variable {X:Cx} {a b c:au} {Yh:List au} {fa fb:XE} {ga gb:XT} {pos:di}
theorem SV(h:VE X a fa)(j:∀whole,ja a X.env whole=(do let v <-whole;standAt a.pos;holding [v] (truthy v)):=by intro _;rfl):VT X a (xB fa):=
 PT.imp (G8 h j) λl H Q ⟨d,s,c,b,env,e,k⟩=>⟨d,s,.bl c,b,env,Uw e,λv g m f i n=>⟨c,i.bl_inv.1,k g f⟩⟩
theorem KO:∀a H Q,Ot K (xB fa) a H Q->MA (tF K fa) a H Q:=λa H Q ⟨f,s,c,d,env,e,k⟩=>⟨f,s,.bl c,d,env,Uw e,λv b h g i n=>⟨c,i.bl_inv.1,k b g⟩⟩
theorem NB{t t':TE}(i:∀a H Q,t' a H Q->t a H Q):∀a H Q,MA t' a H Q->MA t a H Q:=λa H Q h=>i a H _ h
theorem Q4{op:jc}{r:R2}{g:PV->PV->Option PV}(f:U4 X (eO op) r)(i:RB X.K r g)(d:VE X a fa)(j:VE X b fb)(e:cz op b=aB):VT X (.Compare a [op] [b] pos) (xB (Zi g fa fb)):=
 PT.imp (Ir f d j e) λc H Q h=>NB (MG i) c H Q (KO c H Q h)
theorem KP(d:VE X a fa)(c:VE X b fb):VT X (.Compare a [.Lt] [b] pos) (xB (Zi GC fa fb)):=Q4 EY (Dm _) d c (U6 _)
theorem KQ(d:VE X a fa)(c:VE X b fb):VT X (.Compare a [.Gt] [b] pos) (xB (Zi Ki fa fb)):=Q4 EZ (Dm _) d c (U6 _)
noncomputable def NC(a b:XT):XT:=λs=>(a s).bind λc=>if c=aC then b s else aA aB
noncomputable def IZ(a b:XT):XT:=λs=>(a s).bind λc=>if c=aC then aA aC else b s
noncomputable def ND(a:XT):XT:=λs=>(a s).map not
theorem Ha:∀a H Q,Ot K (NC ga gb) a H Q->EH (Ot K ga) (Ot K gb) a H Q:=λa H Q ⟨f,s,c,b,env,e,k⟩=>by
 unfold NC at e
 cases q:ga s with
 | none=>rw[q] at e;cases e
 | some d=>
  rw[q] at e;refine⟨f,s,d,b,env,q,λi s1=>?_⟩
  cases d with
  | true=>
   exact⟨f,s,c,λp g=>Same.mut s1 (b p g),env.mono s1,e,λh s2=>k h (s1.trans s2)⟩
  | false=>
   cases e;exact k i s1
theorem FQ:∀a H Q,Ot K (IZ ga gb) a H Q->CT (Ot K ga) (Ot K gb) a H Q:=λa H Q ⟨f,s,c,b,env,e,k⟩=>by
 unfold IZ at e
 cases q:ga s with
 | none=>rw[q] at e;cases e
 | some d=>
  rw[q] at e;refine⟨f,s,d,b,env,q,λi s1=>?_⟩
  cases d with
  | true=>
   cases e;exact k i s1
  | false=>
   exact⟨f,s,c,λp g=>Same.mut s1 (b p g),env.mono s1,e,λh s2=>k h (s1.trans s2)⟩
theorem Hb(b:VT X a ga):VW X (.BoolOp .And [a] pos) ga:=Ik b
theorem KR(b:VT X a ga):VW X (.BoolOp .Or [a] pos) ga:=G9 b
theorem FR(d:VT X a ga)(c:VW X (.BoolOp .And (b::Yh) pos) gb):VW X (.BoolOp .And (a::b::Yh) pos) (NC ga gb):=PW.imp (Fb d c) Ha
theorem KS(d:VT X a ga)(c:VW X (.BoolOp .Or (b::Yh) pos) gb):VW X (.BoolOp .Or (a::b::Yh) pos) (IZ ga gb):=PW.imp (EI d c) FQ
theorem NF(b:VT X a ga):VT X (.UnaryOp .Not a pos) (ND ga):=PT.imp (Fc b) λh H Q ⟨g,s,c,f,env,e,k⟩=>by
 unfold ND at e
 cases q:ga s with
 | none=>rw[q] at e;cases e
 | some d=>rw[q] at e;cases e;exact⟨g,s,d,f,env,q,k⟩
end
section
variable {X:Cx} {a b c:au} {Yh:List au} {fa fb:XE} {gc:XT} {pos:di}
noncomputable def Tf(a b:XE):XE:=λs=>(xB a s).bind λc=>if c=aC then b s else aA (.bl aB)
noncomputable def Bh(a b:XE):XE:=λs=>(xB a s).bind λc=>if c=aC then aA (.bl aC) else b s
noncomputable def Hd(a:XE):XE:=λs=>(xB a s).map λc=>.bl !c
noncomputable def GD(c:XT)(a b:XE):XE:=λs=>(c s).bind λk=>if k=aC then a s else b s
theorem Q5{op}(h:VE X a fa):VE X (.BoolOp op [a] pos) fa:=Fd h
theorem V7(t:VE X a fa)(m:VE X (.BoolOp .And (b::Yh) pos) fb):VE X (.BoolOp .And (a::b::Yh) pos) (Tf fa fb):=PE.imp (Fe t m) λw H Q ⟨h,s,l,g,env,e,k⟩=>by
 unfold Tf at e
 cases q:xB fa s with
 | none=>rw[q] at e;cases e
 | some d=>
  rw[q] at e;refine⟨h,s,.bl d,g,env,Uw q,λv j x s1 i _=>⟨d,i.bl_inv.1,?_⟩⟩
  cases d with
  | true=>
   exact⟨h,s,l,λp c=>Same.mut s1 (g p c),env.mono s1,e,λo u f s2 r n=>k o u f (s1.trans s2) r n⟩
  | false=>
   cases e;exact k _ j [] s1 (Is.bl aB) λp c=>by simp at c
theorem FT(i:VE X a fa):VE X (.UnaryOp .Not a pos) (Hd fa):=PE.imp (Ff i) λj H Q ⟨g,s,l,f,env,e,k⟩=>by
 unfold Hd at e
 cases q:xB fa s with
 | none=>rw[q] at e;cases e
 | some d=>
  rw[q] at e;cases e;exact⟨g,s,.bl d,f,env,Uw q,λv c m s1 b _=>⟨d,b.bl_inv.1,k _ c [] s1 (Is.bl _) λp h=>by simp at h⟩⟩
theorem KU(t:VT X c gc)(u:VE X a fa)(r:VE X b fb):VE X (.IfExp c a b pos) (GD gc fa fb):=PE.imp (Kp t u r) λv H Q ⟨h,s,l,g,env,e,k⟩=>by
 unfold GD at e
 cases q:gc s with
 | none=>rw[q] at e;cases e
 | some d=>
  rw[q] at e;refine⟨h,s,d,g,env,q,λw s1=>?_⟩
  cases d with
  | true=>
   exact⟨h,s,l,λp j=>Same.mut s1 (g p j),env.mono s1,e,λm o f s2 n i=>k m o f (s1.trans s2) n i⟩
  | false=>
   exact⟨h,s,l,λp j=>Same.mut s1 (g p j),env.mono s1,e,λm o f s2 n i=>k m o f (s1.trans s2) n i⟩
end
section
variable {X:Cx} {a b c:au} {fa fb fc:XE} {pos:di}
noncomputable def Dp(neg:Bool):PV->Option PV
 | .non=>aA (.bl !neg)
 | _=>aA (.bl neg)
noncomputable def KW:PV->Bool
 | .non=>aC
 | _=>aB
theorem NG{H:Hp}{l:PV}{v:V}{g:List aH}(i:Is K H l v g):decide (v=V.non)=KW l:=by
 cases l with
 | non=>rw[i.non_inv.1];rfl
 | bl b=>rw[i.bl_inv.1];rfl
 | int j=>rw[i.int_inv.1];rfl
 | str y=>rw[i.str_inv.1];rfl
 | ty n=>rw[i.ty_inv.1];rfl
 | exc C=>obtain⟨⟨e,o,x,C,rfl,_⟩,_⟩:=i;rfl
 | exf C l=>obtain⟨⟨e,o,x,C,m,h,u,z,rfl,_⟩,_⟩:=i;rfl
 | clo C l=>obtain⟨u,x,⟨f,r,c,q,e,s,k,ct,rfl,_⟩,_⟩:=i;rfl
 | lst l=>obtain⟨p,a,d,rfl,_⟩:=i.lst_inv;rfl
 | cst l=>obtain⟨p,a,rfl,_⟩:=i.cst_inv;rfl
 | tup l=>obtain⟨p,a,rfl,_⟩:=i.tup_inv;rfl
 | dK ks l=>obtain⟨p,a,d,rfl,_⟩:=i.dK_inv;rfl
 | dT ks l=>obtain⟨p,a,d,rfl,_⟩:=i.dT_inv;rfl
noncomputable def KY(neg:Bool)(a:XE):XE:=λs=>(a s).bind (Dp neg)
theorem KZ:∀a H Q,tF K (KY aC fa) a H Q->Gs (tF K fa) a H Q:=λa H Q ⟨g,s,l,f,env,e,k⟩=>by
 unfold KY at e
 cases q:fa s with
 | none=>rw[q] at e;cases e
 | some m=>
  rw[q] at e;refine⟨g,s,m,f,env,q,λv b h s1 d _=>?_⟩;show Q _ b;rw[NG d];have:l = .bl (!KW m):=by cases m<;>cases e<;>rfl
  subst this;exact k _ b [] s1 (Is.bl _) λp c=>by simp at c
theorem Dq:∀a H Q,Ot K (xB fa) a H Q->tB (tF K fa) a H Q:=λa H Q ⟨f,s,c,d,env,e,k⟩=>⟨f,s,.bl c,d,env,Uw e,λv b h g i n=>⟨c,i.bl_inv.1,k b g⟩⟩
theorem He{t t':TE}(i:∀a H Q,t' a H Q->t a H Q):∀a H Q,tB t' a H Q->tB t a H Q:=λa H Q h=>i a H _ h
theorem Hf{j pos'}(c:VE X a fa):VT X (.Compare a [.IsNot] [.Constant .none j pos'] pos) (xB (KY aC fa)):=PT.imp (G7 (Ij c)) λb H Q h=>He KZ b H Q (Dq b H Q h)
noncomputable def Hg:PV->Option PV
 | .int i=>aA (.int (-i))
 | _=>none
noncomputable def FU(g:PV->Option PV)(a:XE):XE:=λs=>(a s).bind g
theorem K0(h:VE X a fa):VE X (.UnaryOp .USub a pos) (FU Hg fa):=PE.imp (EV Fx h) λi H Q ⟨f,s,l,d,env,e,k⟩=>by
 unfold FU at e
 cases q:fa s with
 | none=>rw[q] at e;cases e
 | some m=>
  rw[q] at e;simp only[aY] at e;unfold Hg at e;split at e
  ·cases e;exact⟨f,s,_,d,env,q,λv c j s1 b _=>⟨_,b.int_inv.1,k _ c [] s1 (Is.int _) λp g=>by simp at g⟩⟩
  ·cases e
end
end VL
namespace VL
open PySem PySem.Spec PyProof.Rows L2
variable {K:aD}
noncomputable def Sg:List XE->ZD->Option (List PV)
 | [],_=>aA []
 | f::fs,s=>(f s).bind λx=>(Sg fs s).map (x::·)
theorem Ou{f:XE}{fs:List XE}{s:ZD}{ls:List PV}(h:Sg (f::fs) s=aA ls):∃x r,f s=aA x/\Sg fs s=aA r/\ls=x::r:=by
 unfold Sg at h
 cases q:f s with
 | none=>rw[q] at h;cases h
 | some x=>cases q2:Sg fs s with
  | none=>rw[q,q2] at h;cases h
  | some r=>rw[q,q2] at h;cases h;exact⟨x,r,rfl,rfl,rfl⟩
theorem Vy:∀{fs:List XE}{s:ZD}{ls:List PV},Sg fs s=aA ls->ls.length=fs.length
 | [],_,_,h=>by cases h;rfl
 | f::fs,s,ls,h=>by obtain⟨x,r,_,a,rfl⟩:=Ou h;rw[bg,bg,Vy a]
noncomputable def DQ(K:aD)(fs:List XE):TA:=λσ H Q=>∃(Rm:aH->Prop) (s:ZD) (ls:List PV),(∀p,Rm p->VY (H p))/\EnvIs K Rm H s σ/\Sg fs s=aA ls/\∀vs H' fp,Same H H'->Iss K H' ls vs fp->(∀p∈fp,¬Rm p)->Q vs H'
noncomputable def Bi(K:aD)(fs:List XE):TA:=λσ H Q=>∃(s:ZD) (ls:List PV),EnvIs K (λ_=>False) H s σ/\Sg fs s=aA ls/\∀vs H' fp,Same H H'->Iss K H' ls vs fp->fp.Nodup->(∀p∈fp,H p=none/\VY (H' p))->Q vs H'
noncomputable def VA(X:Cx)(es:List au)(fs:List XE):Prop:=PA X es (DQ X.K fs)
noncomputable def C0(X:Cx)(es:List au)(fs:List XE):Prop:=PA X es (Bi X.K fs)
section
variable {X:Cx} {e:au} {es:List au} {f:XE} {fs:List XE} {pos:di} {k:Nat}
theorem PA.imp{t t':TA}(h:PA X es t)(i:∀a H Q,t' a H Q->t a H Q):PA X es t':=λb c s a H Q I q=>h b c s a H Q I (i a H Q q)
theorem FV:VA X [] []:=PA.imp SJ λb H Q ⟨d,s,ls,c,env,e,k⟩=>by
 cases e;exact k [] H [] (Same.refl H) Iss.nil λp a=>by simp at a
theorem Ux(t:VE X e f)(i:VA X es fs)(j:aT (e::es) X.env=(aB,eval e X.env)::aT es X.env:=by rfl):VA X (e::es) (f::fs):=PA.imp (XI t i j) λv H Q ⟨c,s,ls,b,env,e,k⟩=>by
 obtain⟨n,q,m,l,rfl⟩:=Ou e;refine⟨c,s,n,b,env,m,λx w f1 s1 g d=>⟨c,s,q,λp a=>Same.mut s1 (b p a),env.mono s1,l,λy u f2 s2 r o=>?_⟩⟩;refine k _ u (f1++f2) (s1.trans s2) (Iss.cons (g.mono s2) r) λp a=>?_;rcases bb.mp a with h | h
 ·exact d p h
 ·exact o p h
theorem MH:C0 X [] []:=PA.imp SJ λb H Q ⟨s,ls,env,e,k⟩=>by
 cases e;exact k [] H [] (Same.refl H) Iss.nil cp λp a=>by simp at a
noncomputable def Hh(fs:List XE):XE:=λs=>(Sg fs s).map .tup
noncomputable def SW(fs:List XE):XE:=λs=>(Sg fs s).map .lst
theorem map_some{d c:Type}{o:Option d}{g:d->c}{b:c}(h:o.map g=aA b):∃a,o=aA a/\b=g a:=by
 cases o with
 | none=>cases h
 | some a=>cases h;exact⟨a,rfl,rfl⟩
theorem K1(h:VA X es fs)(n:fs.length<=1000:=by decide):VE X (.Tuple es k pos) (Hh fs):=PE.imp (Ku h) λj H Q ⟨g,s,l,f,env,e,q⟩=>by
 obtain⟨ls,b,rfl⟩:=map_some e;refine⟨g,s,ls,f,env,b,λvs m i s1 a d=>⟨?_,λp c=>?_⟩⟩
 ·rw[a.len,Vy b];exact cP (lt_size (by omega))
 ·exact q _ _ i (s1.trans (Same.new c _)) (Is.tup Zq (a.mono (Same.new c _))) d
theorem K2(h:VA X es fs)(o:fs.length<=1000:=by decide):VE X (.List es pos) (SW fs):=PE.imp (Kv h) λm H Q ⟨j,s,l,g,env,e,q⟩=>by
 obtain⟨ls,f,rfl⟩:=map_some e;refine⟨j,s,ls,g,env,f,λvs n k s1 d i=>⟨?_,λp b=>?_⟩⟩
 ·rw[d.len,Vy f];exact cP (lt_size (by omega))
 ·refine q _ _ (p::k) (s1.trans (Same.new b _)) (Is.lst Zq (d.mono (Same.new b _))) λa c z=>?_;rcases af.mp c with rfl | c
  ·exact Y5 (Same.mut s1 (g a z)) b
  ·exact i a c z
theorem K3(h:C0 X es fs)(n:fs.length<=1000:=by decide):VM X (.List es pos) (SW fs):=PE.imp (Kv h) λk H Q ⟨s,l,env,e,q⟩=>by
 obtain⟨ls,g,rfl⟩:=map_some e;refine⟨s,ls,env,g,λvs m j s1 f i d=>⟨?_,λp b=>?_⟩⟩
 ·rw[f.len,Vy g];exact cP (lt_size (by omega))
 ·refine q _ _ (p::j) (s1.trans (Same.new b _)) (Is.lst Zq (f.mono (Same.new b _))) (bP.mpr ⟨λz=>Y5 (d p z).2 b,i⟩) λa c=>?_;rcases af.mp c with rfl | c
  ·exact⟨Same.off s1 b,by rw[Zq];exact cY⟩
  ·exact⟨(d a c).1,Same.mut (Same.new b _) (d a c).2⟩
end
noncomputable def Y6(K:aD)(D:List PV->Option PV)(n:Nat):Sp:=λvs H Q _=>vs.length=n/\∃ls fp l,Iss K H ls vs fp/\D ls=aA l/\∀v H' fq,Same H H'->Is K H' l v fq->fq.Nodup->(∀p∈fq,H p=none/\VY (H' p))->Q v H'
noncomputable def Zc(D:List PV->Option PV)(fs:List XE):XE:=λs=>(Sg fs s).bind D
theorem Ze{d c:Type}{o:Option d}{g:d->Option c}{b:c}(h:o.bind g=aA b):∃a,o=aA a/\g a=aA b:=by
 cases o with
 | none=>cases h
 | some a=>exact⟨a,rfl,h⟩
section
variable {X:Cx} {x:ah} {ps:List ah} {k:Nat} {e:au} {es:List au} {fs:List XE} {p pos:di}
theorem MI{D:List PV->Option PV}{n:Nat}(C:Xl X.prog X.w X.K X.mg X.base x ps (Y6 X.K D n) k)(i:Room k X.A)(w:Gl X x)(b:VA X (e::es) fs)(t:fs.length=n:=by rfl)
  (c:(x==("__debug__" : ah))=aB:=by decide) (B:aT (e::es) X.env=(aB,eval e X.env)::aT es X.env:=by rfl) (d:(dj pos (aT es X.env)).any (·.1)=aB:=by rfl) :
  VM X (.Call (.Name x p) (e::es) [] pos) (Zc D fs):=PE.imp (Ny C i w b c B d) λF H Q ⟨s,l,env,e,q⟩=>by
 obtain⟨ls,g,r⟩:=Ze e;refine⟨λ_=>False,s,ls,λ_ z=>z.elim,env,g,λvs j y s1 f E=>?_⟩;show Y6 X.K D n (vs++[]) j Q E0;rw[cw];exact⟨by rw[f.len,Vy g,t],ls,y,l,f,r,λv A m s2 u o h=>q v A m (s1.trans s2) u o λa b=>⟨Same.off s1 (h a b).1,(h a b).2⟩⟩
end
noncomputable def RC(K:aD)(r:List V->Hp->VK->Prop)(g:List PV->Option PV):Prop:=∀(H:Hp)(vs:List V)(ls:List PV)(l:PV)(fp:List aH),Iss K H ls vs fp->g ls=aA l->∀Q:VK,
 (∀v H' fq,Same H H'->Is K H' l v fq->(∀p∈fq,p∈fp\/H p=none)->Q v H')->r vs H Q
noncomputable def CA(K:aD)(r:List V->Hp->VK->Prop)(g:List PV->Option PV):Prop:=∀(H:Hp)(vs:List V)(ls:List PV)(l:PV)(fp:List aH),Iss K H ls vs fp->g ls=aA l->∀Q:VK,
 (∀v H' fq,Same H H'->Is K H' l v fq->fq.Nodup->(∀p∈fq,H p=none/\VY (H' p))->Q v H')->r vs H Q
theorem GF{r:List V->Hp->VK->Prop}{g:List PV->Option PV}{fs:List XE}(i:RC K r g):∀a H Q,tF K (Zc g fs) a H Q->DL r (DQ K fs) a H Q:=λa H Q ⟨n,s,l,b,env,e,k⟩=>by
 obtain⟨ls,f,o⟩:=Ze e;refine⟨n,s,ls,b,env,f,λvs j w s1 d c=>i j vs ls l w d o Q λv x m s2 u q=>k v x m (s1.trans s2) u λp t z=>?_⟩;rcases q p t with h | h
 ·exact c p h z
 ·exact Y5 (Same.mut s1 (b p z)) h
theorem Dr{r:List V->Hp->VK->Prop}{g:List PV->Option PV}{fs:List XE}(h:CA K r g):∀a H Q,tM K (Zc g fs) a H Q->DL r (DQ K fs) a H Q:=λa H Q ⟨s,l,env,e,k⟩=>by obtain⟨ls,f,n⟩:=Ze e;exact⟨λ_=>False,s,ls,λ_ z=>z.elim,env,f,λvs i q s1 d u=>h i vs ls l q d n Q λv t j s2 o m b=>k v t j (s1.trans s2) o m λp c=>⟨Same.off s1 (b p c).1,(b p c).2⟩⟩
section
variable {X:Cx} {x:ah} {k:Nat} {e:au} {es:List au} {fs:List XE} {p pos:di} {id T:String} {r:List V->Hp->VK->Prop} {g:List PV->Option PV}
theorem Ov(c:Xk X (.builtin id) r)(k:RC X.K r g)(d:Gl X x)(h:X.mg x=none)(j:cb x=aA (.builtin id))(f:VA X (e::es) fs)(i:x≠"__name__":=by decide)(b:(x==("__debug__" : ah))=aB:=by decide)
  (l:aT (e::es) X.env=(aB,eval e X.env)::aT es X.env:=by rfl) (a:(dj pos (aT es X.env)).any (·.1)=aB:=by rfl):VE X (.Call (.Name x p) (e::es) [] pos) (Zc g fs):=
 PE.imp (Kx c d h j f i b l a) (GF k)
theorem ZN(c:Xk X (.type T) r)(k:RC X.K r g)(d:Gl X x)(h:X.mg x=none)(j:cb x=aA (.type T))(f:VA X (e::es) fs)(i:x≠"__name__":=by decide)(b:(x==("__debug__" : ah))=aB:=by decide)
  (l:aT (e::es) X.env=(aB,eval e X.env)::aT es X.env:=by rfl) (a:(dj pos (aT es X.env)).any (·.1)=aB:=by rfl):VE X (.Call (.Name x p) (e::es) [] pos) (Zc g fs):=
 PE.imp (Qw c d h j f i b l a) (GF k)
theorem Tg(c:Xk X (.type T) r)(k:CA X.K r g)(d:Gl X x)(h:X.mg x=none)(j:cb x=aA (.type T))(f:VA X (e::es) fs)(i:x≠"__name__":=by decide)(b:(x==("__debug__" : ah))=aB:=by decide)
  (l:aT (e::es) X.env=(aB,eval e X.env)::aT es X.env:=by rfl) (a:(dj pos (aT es X.env)).any (·.1)=aB:=by rfl):VM X (.Call (.Name x p) (e::es) [] pos) (Zc g fs):=
 PE.imp (Qw c d h j f i b l a) (Dr k)
end
theorem Iss.one_inv{H:Hp}{l:PV}{vs:List V}{c:List aH}(h:Iss K H [l] vs c):∃v,vs=[v]/\Is K H l v c:=by obtain⟨x,r,f1,f2,rfl,a,b,rfl⟩:=h.inv;rw[b.1,b.2,cw];exact⟨x,rfl,a⟩
theorem Iss.two_inv{H:Hp}{l m:PV}{vs:List V}{d:List aH}(h:Iss K H [l,m] vs d):∃v w f1 f2,vs=[v,w]/\Is K H l v f1/\Is K H m w f2/\d=f1++f2:=by obtain⟨x,r,f1,f2,rfl,a,b,rfl⟩:=h.inv;obtain⟨y,rfl,c⟩:=b.one_inv;exact⟨x,y,f1,f2,rfl,a,c,rfl⟩
noncomputable def Sh:PV->Option (List PV)
 | .lst l=>aA l
 | .cst l=>aA l
 | .tup l=>aA l
 | _=>none
theorem Vz{H:Hp}{l:PV}{v:V}{f:List aH}{m:List PV}(h:Is K H l v f)(e:Sh l=aA m):∃p a g,v = .ref p/\(SqL K H p a\/SqT K H p a)/\Iss K H m a g/\∀q∈g,q∈f:=by
 cases l with
 | lst l=>
  cases e;obtain⟨p,a,g,rfl,b,c,rfl⟩:=h.lst_inv;exact⟨p,a,g,rfl,.inl (SqL.of b),c,λq d=>aW _ d⟩
 | cst l=>
  cases e;obtain⟨p,a,rfl,b,c⟩:=h.cst_inv;exact⟨p,a,f,rfl,.inl b.sq,c,λq d=>d⟩
 | tup l=>
  cases e;obtain⟨p,a,rfl,b,c⟩:=h.tup_inv;exact⟨p,a,f,rfl,.inr (SqT.of b),c,λq d=>d⟩
 | _=>cases e
noncomputable def Z5:List PV->Option PV
 | [.str z]=>if z.length<=sizeLine then aA (.int z.length) else none
 | [l]=>(Sh l).map λm=>.int m.length
 | _=>none
theorem FW:RC K (λb H Q=>∃x n,b=[x]/\E4 K x H n/\Q (.int n) H) Z5:=λH vs ls l g h e Q k=>by
 unfold Z5 at e;split at e
 ·split at e
  ·cases e;obtain⟨v,rfl,i⟩:=h.one_inv;exact⟨v,_,rfl,by rw[i.str_inv.1];exact⟨by assumption,rfl⟩,k _ H [] (Same.refl H) (Is.int _) λp a=>by simp at a⟩
  ·cases e
 ·obtain⟨m,c,rfl⟩:=map_some e;obtain⟨v,rfl,i⟩:=h.one_inv;obtain⟨p,b,f,rfl,a,d,_⟩:=Vz i c;refine⟨_,b.length,rfl,?_,?_⟩
  ·rcases a with a | a
   ·exact .inl ⟨b,a,rfl⟩
   ·exact .inr ⟨b,a,rfl⟩
  ·rw[d.len];exact k _ H [] (Same.refl H) (Is.int _) λp a=>by simp at a
 ·cases e
noncomputable def ZW:List PV->Option PV
 | [l]=>(Sh l).map .tup
 | _=>none
theorem ZY:RC K (FN K) ZW:=λH vs ls l n h e Q k=>by
 unfold ZW at e;split at e
 ·obtain⟨m,g,rfl⟩:=map_some e;obtain⟨v,rfl,i⟩:=h.one_inv;rename_i l0
  cases l0 with
  | tup l=>
   cases g;obtain⟨p,b,rfl,d,j⟩:=id i.tup_inv;exact⟨p,b,rfl,.inr ⟨SqT.of d,k _ H n (Same.refl H) i λa f=>.inl f⟩⟩
  | lst l=>
   cases g;obtain⟨p,b,o,rfl,d,j,rfl⟩:=i.lst_inv;exact⟨p,b,rfl,.inl ⟨SqL.of d,λq c=>k _ _ o (Same.new c _) (Is.tup Zq (j.mono (Same.new c _))) λa f=>.inl (aW _ f)⟩⟩
  | cst l=>
   cases g;obtain⟨p,b,rfl,d,j⟩:=i.cst_inv;exact⟨p,b,rfl,.inl ⟨d.sq,λq c=>k _ _ n (Same.new c _) (Is.tup Zq (j.mono (Same.new c _))) λa f=>.inl f⟩⟩
  | _=>cases g
 ·cases e
noncomputable def Vj:List PV->Option PV
 | [l]=>(Sh l).bind λm=>if ZC m=aC then aA (.lst m) else none
 | _=>none
theorem SX:CA K (IP K) Vj:=λH vs ls l s h e Q k=>by
 unfold Vj at e;split at e
 ·obtain⟨m,f,c⟩:=Ze e;split at c
  ·cases c;obtain⟨v,rfl,i⟩:=h.one_inv;obtain⟨p,g,o,rfl,j,d,r⟩:=Vz i f;have:=Iss.pure _ _ _ (by assumption) d;subst this;refine⟨p,g,rfl,j,λq b=>k _ _ [q] (Same.new b _) (Is.lst Zq (d.mono (Same.new b _))) (by simp) λa n=>?_⟩;rw[aw.mp n];exact⟨b,by rw[Zq];exact cY⟩
  ·cases c
 ·cases e
noncomputable def X2:List PV->Option (List Int)
 | []=>aA []
 | .int i::r=>(X2 r).map (i::·)
 | _=>none
theorem Xb:∀l:List Int,X2 (iL l)=aA l
 | []=>rfl
 | i::r=>by show(X2 (iL r)).map (i::·)=_;rw[Xb r];rfl
theorem XJ:∀{m:List PV}{l:List Int},X2 m=aA l->m=iL l
 | [],l,h=>by cases h;rfl
 | .int i::r,l,h=>by obtain⟨a,e,rfl⟩:=map_some (show(X2 r).map (i::·)=aA l from h);rw[XJ e];rfl
 | .non::_,_,h=>by cases h
 | .bl _::_,_,h=>by cases h
 | .str _::_,_,h=>by cases h
 | .ty _::_,_,h=>by cases h
 | .exc _::_,_,h=>by cases h
 | .exf _ _::_,_,h=>by cases h
 | .clo _ _::_,_,h=>by cases h
 | .tup _::_,_,h=>by cases h
 | .lst _::_,_,h=>by cases h
 | .cst _::_,_,h=>by cases h
 | .dK _ _::_,_,h=>by cases h
 | .dT _ _::_,_,h=>by cases h
abbrev bL(l:List Bool):List PV:=l.map PV.bl
noncomputable def Wv:List PV->Option (List Bool)
 | []=>aA []
 | .bl i::r=>(Wv r).map (i::·)
 | _=>none
theorem X3:∀l:List Bool,Wv (bL l)=aA l
 | []=>rfl
 | i::r=>by show(Wv (bL r)).map (i::·)=_;rw[X3 r];rfl
theorem Ww:∀{m:List PV}{l:List Bool},Wv m=aA l->m=bL l
 | [],l,h=>by cases h;rfl
 | .bl i::r,l,h=>by obtain⟨a,e,rfl⟩:=map_some (show(Wv r).map (i::·)=aA l from h);rw[Ww e];rfl
 | .non::_,_,h=>by cases h
 | .int _::_,_,h=>by cases h
 | .str _::_,_,h=>by cases h
 | .ty _::_,_,h=>by cases h
 | .exc _::_,_,h=>by cases h
 | .exf _ _::_,_,h=>by cases h
 | .clo _ _::_,_,h=>by cases h
 | .tup _::_,_,h=>by cases h
 | .lst _::_,_,h=>by cases h
 | .cst _::_,_,h=>by cases h
 | .dK _ _::_,_,h=>by cases h
 | .dT _ _::_,_,h=>by cases h
theorem Iss.bL{H:Hp}:∀{l:List Bool}{xs:List V}{fp:List aH},Iss K H (VL.bL l) xs fp->xs=l.map V.bl/\fp=[]
 | [],xs,fp,h=>by simpa only[VL.bL,List.map_nil,Iss] using h
 | i::l,xs,fp,h=>by obtain⟨x,r,f1,f2,rfl,b,a,rfl⟩:=Iss.inv (show Iss K H (PV.bl i::VL.bL l) xs fp from h);obtain⟨rfl,rfl⟩:=b.bl_inv;obtain⟨rfl,rfl⟩:=a.bL;exact⟨rfl,rfl⟩
theorem Q6{H:Hp}{p:aH}{a:List V}(h:SqL K H p a\/SqT K H p a):∃b,Sd b K H p a:=by
 rcases h with h | h
 ·exact⟨aC,h⟩
 ·exact⟨aB,h⟩
noncomputable def Th:List PV->Option PV
 | [l]=>(Sh l).bind λm=>(X2 m).map λns=>.int ns.sum
 | _=>none
noncomputable def R6:List PV->Option PV
 | [l]=>(Sh l).bind λm=>(Wv m).map λbs=>.bl (bs.all id)
 | _=>none
noncomputable def K4:List PV->Option PV
 | [l]=>(Sh l).bind λm=>(Wv m).map λbs=>.bl (bs.any id)
 | _=>none
theorem NH:RC K (λd H Q=>∃(b:Bool) (p:aH) (a:List Int),d=[.ref p]/\Sd b K H p (a.map V.int)/\Q (.int a.sum) H) Th:=λH vs ls l t h e Q k=>by
 unfold Th at e;split at e
 ·obtain⟨m,f,n⟩:=Ze e;obtain⟨a,j,rfl⟩:=map_some n;obtain⟨v,rfl,i⟩:=h.one_inv;obtain⟨p,d,r,rfl,c,q,s⟩:=Vz i f;have o:=XJ j;subst o;obtain⟨rfl,rfl⟩:=q.iL;obtain⟨b,g⟩:=Q6 c;exact⟨b,p,a,rfl,g,k _ H [] (Same.refl H) (Is.int _) λp c=>by simp at c⟩
 ·cases e
theorem NI:RC K (λc H Q=>∃(b:Bool) (p:aH) (bs:List Bool),c=[.ref p]/\Sd b K H p (bs.map V.bl)/\Q (.bl (bs.all id)) H) R6:=λH vs ls l t h e Q k=>by
 unfold R6 at e;split at e
 ·obtain⟨m,d,j⟩:=Ze e;obtain⟨q,g,rfl⟩:=map_some j;obtain⟨v,rfl,i⟩:=h.one_inv;obtain⟨p,c,r,rfl,a,o,s⟩:=Vz i d;have n:=Ww g;subst n;obtain⟨rfl,rfl⟩:=o.bL;obtain⟨b,f⟩:=Q6 a;exact⟨b,p,q,rfl,f,k _ H [] (Same.refl H) (Is.bl _) λp a=>by simp at a⟩
 ·cases e
theorem FX:RC K (λc H Q=>∃(b:Bool) (p:aH) (bs:List Bool),c=[.ref p]/\Sd b K H p (bs.map V.bl)/\Q (.bl (bs.any id)) H) K4:=λH vs ls l t h e Q k=>by
 unfold K4 at e;split at e
 ·obtain⟨m,d,j⟩:=Ze e;obtain⟨q,g,rfl⟩:=map_some j;obtain⟨v,rfl,i⟩:=h.one_inv;obtain⟨p,c,r,rfl,a,o,s⟩:=Vz (K:=K) i d;have n:=Ww g;subst n;obtain⟨rfl,rfl⟩:=o.bL;obtain⟨b,f⟩:=Q6 a;exact⟨b,p,q,rfl,f,k _ H [] (Same.refl H) (Is.bl _) λp a=>by simp at a⟩
 ·cases e
noncomputable def Ox:List PV->Option PV
 | [.int i,.int j]=>aA (.int (if j<i then j else i))
 | _=>none
noncomputable def Ds:List PV->Option PV
 | [.int i,.int j]=>aA (.int (if j>i then j else i))
 | _=>none
noncomputable def NJ:List PV->Option PV
 | [.int i]=>aA (.int (if i<0 then -i else i))
 | _=>none
noncomputable def GG:List PV->Option PV
 | [.int i]=>aA (.int i)
 | [.bl c]=>aA (.int (if c then 1 else 0))
 | _=>none
theorem Hi:RC K (λd H Q=>∃i j,d=[.int i,.int j]/\Q (.int (if j<i then j else i)) H) Ox:=λH vs ls l f h e Q k=>by
 unfold Ox at e;split at e
 ·cases e;obtain⟨v,w,f1,f2,rfl,a,b,rfl⟩:=h.two_inv;exact⟨_,_,by rw[a.int_inv.1,b.int_inv.1],k _ H [] (Same.refl H) (Is.int _) λp c=>by simp at c⟩
 ·cases e
theorem K5:RC K (λc H Q=>∃i,c=[.int i]/\Q (.int (if i<0 then -i else i)) H) NJ:=λH vs ls l d h e Q k=>by
 unfold NJ at e;split at e
 ·cases e;obtain⟨v,rfl,a⟩:=h.one_inv;exact⟨_,by rw[a.int_inv.1],k _ H [] (Same.refl H) (Is.int _) λp b=>by simp at b⟩
 ·cases e
section
variable {X:Cx} {e:au} {es:List au} {fs:List XE} {p pos:di}
noncomputable def C1:PV->Option String
 | .int _=>aA "int"
 | .bl _=>aA "bool"
 | .tup _=>aA "tuple"
 | .lst _=>aA "list"
 | .str _=>aA "str"
 | _=>none
noncomputable def W6:List PV->Option PV
 | [a,.ty t]=>(C1 a).bind λu=>if t=u then aA (.bl aC) else if u = "int"/\t = "bool" then aA (.bl aB) else none
 | _=>none
theorem R7:cT K (.type "bool") (.type "bool")=aA aC:=rfl
theorem FY{H:Hp}{a:PV}{u:String}{v:V}{f:List aH}(e:C1 a=aA u)(h:Is K H a v f):TyOf K H v (.type u)/\cT K (.type u) (.type u)=aA aC:=by
 cases a<;>first
  | exact nomatch (show none=aA u from e)
  | cases e
 ·obtain⟨rfl,_⟩:=h.bl_inv;exact⟨TyOf.bl _,R7⟩
 ·obtain⟨rfl,_⟩:=h.int_inv;exact⟨TyOf.int _,Oi⟩
 ·obtain⟨rfl,_⟩:=h.str_inv;exact⟨TyOf.str _,Ol⟩
 ·obtain⟨q,c,rfl,b,_⟩:=h.tup_inv;exact⟨TyOf.tup b,Oj⟩
 ·obtain⟨q,c,d,rfl,b,_⟩:=h.lst_inv;exact⟨TyOf.lst b,R4⟩
theorem Uy:RC K (λi H Q=>∃x T t b,i=[x,.ty T]/\TyOf K H x t/\cT K t (.type T)=aA b/\Q (.bl b) H) W6:=λH vs ls l n h e Q k=>by
 have c:∀b:Bool,l = .bl b->Q (.bl b) H:=λb z=>by subst z;exact k _ H [] (Same.refl H) (Is.bl _) λp m=>by simp at m
 unfold W6 at e;split at e
 ·obtain⟨u,g,d⟩:=Ze e;obtain⟨v,w,f1,f2,rfl,a,b,rfl⟩:=h.two_inv;obtain⟨f,j⟩:=FY g a;split at d
  ·rename_i z;subst z;cases d;exact⟨_,_,_,_,by rw[b.ty_inv.1],f,j,c _ rfl⟩
  ·split at d
   ·rename_i z;obtain⟨rfl,rfl⟩:=z;cases d;exact⟨_,_,_,_,by rw[b.ty_inv.1],f,Q2,c _ rfl⟩
   ·cases d
 ·cases e
theorem Oy{x:ah}{n:String}(a:Gl X x)(b:X.mg x=none)(c:cb x=aA (.type n))(d:x≠"__name__":=by decide)(e:(x==("__debug__" : ah))=aB:=by decide):VE X (.Name x pos) (eC (.ty n)):=
 IV (Ii a b c (v:=.ty n) rfl d e) λ_=>Is.ty n
end
end VL
namespace VL
open PySem PySem.Spec PyProof.Rows L2
variable {K:aD}
open Classical in
instance:DecidableEq PV:=λa b=>propDecidable (a=b)
noncomputable def SY:Nat->PV->PV->Bool
 | _+1,.non,.non=>aC
 | _+1,.bl _,.bl _=>aC
 | _+1,.int _,.int _=>aC
 | _+1,.str _,.str _=>aC
 | n+1,.tup l,.tup m=>(l.zip m).all λz=>SY n z.1 z.2
 | n+1,.lst l,.lst m=>(l.zip m).all λz=>SY n z.1 z.2
 | _,_,_=>aB
theorem Uz{d c:Type}{p:d×c->Bool}{a:d}{b:c}{l:List d}{m:List c}(h:((a::l).zip (b::m)).all p=aC):p (a,b)=aC/\(l.zip m).all p=aC:=by rw[List.zip_cons_cons,i9,bW] at h;exact h
theorem Iss.inj'{n:Nat}{H:Hp}(c:∀a b v fa fb,SY n a b=aC->Is K H a v fa->Is K H b v fb->a=b):∀{l m:List PV}{xs:List V}{fa fb:List aH},(l.zip m).all (λz=>SY n z.1 z.2)=aC->Iss K H l xs fa->Iss K H m xs fb->l=m
 | [],m,xs,fa,fb,_,h,h'=>by
  simp only[Iss] at h;rw[h.1] at h';have:=h'.len
  cases m with
  | nil=>rfl
  | cons _ _=>simp at this
 | a::l,m,xs,fa,fb,hc,h,h'=>by
  obtain⟨x,r,f1,f2,rfl,f,d,rfl⟩:=h.inv
  cases m with
  | nil=>have:=h'.len;simp at this
  | cons b m=>
   obtain⟨o,p,j,k,e,g,i,rfl⟩:=h'.inv;cases e;obtain⟨c1,c2⟩:=Uz hc;rw[c a b x f1 j c1 f g,Iss.inj' c c2 d i]
theorem Is.inj'{H:Hp}:∀(n:Nat)(a b:PV)(v:V)(fa fb:List aH),SY n a b=aC->Is K H a v fa->Is K H b v fb->a=b
 | 0,a,b,v,fa,fb,hc,_,_=>nomatch (show aB=aC from hc)
 | n+1,a,b,v,fa,fb,hc,ha,hb=>by
  cases a<;>cases b<;>first
   | exact nomatch (show aB=aC from hc)
   | skip
  ·rfl
  ·rw[ha.bl_inv.1] at hb;have:=hb.bl_inv.1;cases this;rfl
  ·rw[ha.int_inv.1] at hb;have:=hb.int_inv.1;cases this;rfl
  ·rw[ha.str_inv.1] at hb;have:=hb.str_inv.1;cases this;rfl
  ·obtain⟨p,i,rfl,f,g⟩:=ha.tup_inv;obtain⟨j,h,e,c,d⟩:=hb.tup_inv;cases e;rw[f] at c;cases c;rw[Iss.inj' (Is.inj' n) hc g d]
  ·obtain⟨p,i,l,rfl,f,g,_⟩:=ha.lst_inv;obtain⟨j,h,k,e,c,d,_⟩:=hb.lst_inv;cases e;rw[f] at c;cases c;rw[Iss.inj' (Is.inj' n) hc g d]
section
variable {X:Cx} {jz:List (aH×cx)} {σ:Sf} {H:Hp} {s:aL} {A:bj}
theorem NK{n:Nat}(i:∀a b x y fa fb u w,SY n a b=aC->Is K H a x fa->Is K H b y fb->RelV x u->RelV y w->∃r,jh A s u w r/\(r=aC↔a=b)) :
  ∀{l m:List PV}{xs ys:List V}{fa fb:List aH}{us ws:List aF},(l.zip m).all (λz=>SY n z.1 z.2)=aC->Iss K H l xs fa->Iss K H m ys fb->Vals xs us->Vals ys ws->
  ∃e:Nat->Bool,(∀j (c:j<us.length) (d:j<ws.length),jh A s us[j] ws[j] (e j))/\((aI (min us.length ws.length)).all e=aC↔l.take (min us.length ws.length)=m.take (min us.length ws.length))
 | [],m,xs,ys,fa,fb,us,ws,_,h,_,r,_=>by simp only[Iss] at h;obtain⟨rfl,_⟩:=h;cases r;exact⟨λ_=>aC,λj c=>by simp at c,by simp⟩
 | a::l,[],xs,ys,fa,fb,us,ws,_,_,h,_,r=>by simp only[Iss] at h;obtain⟨rfl,_⟩:=h;cases r;exact⟨λ_=>aC,λj c d=>by simp at d,by simp⟩
 | a::l,b::m,xs,ys,fa,fb,us,ws,hc,h,h',r,r'=>by
  obtain⟨x,G,f1,f2,rfl,c,d,rfl⟩:=h.inv;obtain⟨y,F,C,E,rfl,o,B,rfl⟩:=h'.inv;obtain⟨c1,c2⟩:=Uz hc
  cases r with
  | cons q v=>cases r' with
   | cons q' v'=>
    obtain⟨t,p,f⟩:=i a b x y f1 C _ _ c1 c o q q';obtain⟨e,D,g⟩:=NK i c2 d B v v';refine⟨λj=>match j with | 0=>t | k+1=>e k,λj c d=>?_,?_⟩
    ·cases j with
     | zero=>exact p
     | succ k=>exact D k (by simpa using c) (by simpa using d)
    ·simp only[bg,Nat.succ_min_succ,fC,i9,List.all_map,bW,List.take_succ_cons,List.cons.injEq];exact and_congr f g
theorem Iss.same'{l m:List PV}{f e:List V}{i fb:List aH}{c d:List aF}(h:Iss K H l f i)(g:Iss K H m e fb)(r:Vals f c)(j:Vals e d) :
  (l.take (min c.length d.length)=m.take (min c.length d.length)/\c.length=d.length)↔l=m:=by
 have k:=h.len;have p:=g.len;have n:=r.length;have o:=j.length;constructor
 ·rintro⟨a,b⟩;rw[bX (by omega),bX (by omega)] at a;exact a
 ·intro a;subst a;exact⟨rfl,by omega⟩
noncomputable def GH(A:bj)(s:aL)(u w:aF)(r:Bool):Prop:=SeqAt.RcAt A s u w r/\SeqAt.RcNeAt A s u w !r
theorem Q7(I:Inv X jz σ H s):∀(n:Nat)(A:bj)(a b:PV)(x y:V)(v fb:List aH)(u w:aF),A.units+2*n+2<i7->SY n a b=aC->Is K H a x v->Is K H b y fb->RelV x u->RelV y w->
  (∃r,jh A s u w r/\(r=aC↔a=b))/\∃r,GH A s u w r/\(r=aC↔a=b)
 | 0,A,a,b,x,y,v,fb,u,w,hu,hc,_,_,_,_=>nomatch (show aB=aC from hc)
 | n+1,A,a,b,x,y,v,fb,u,w,hu,hc,ha,hb,ru,ZM=>by
  cases a<;>cases b<;>first
   | exact nomatch (show aB=aC from hc)
   | skip
  ·rw[ha.non_inv.1] at ru;rw[hb.non_inv.1] at ZM;cases ru;cases ZM;exact⟨⟨aC,iB _,by simp⟩,aC,⟨SeqAt.RcAt.none_none,SeqAt.RcNeAt.none_none⟩,by simp⟩
  ·rw[ha.bl_inv.1] at ru;rw[hb.bl_inv.1] at ZM;cases ru;cases ZM;exact⟨⟨_,jh.bool_bool _ _,by simp⟩,_,⟨SeqAt.RcAt.bool_bool _ _,SeqAt.RcNeAt.bool_bool _ _⟩,by simp⟩
  ·rw[ha.int_inv.1] at ru;rw[hb.int_inv.1] at ZM;obtain⟨t,rfl⟩:=ru;obtain⟨t',rfl⟩:=ZM;exact⟨⟨_,jh.int_int _ _ _ _,by simp⟩,_,⟨SeqAt.RcAt.int_int _ _ _ _,SeqAt.RcNeAt.int_int _ _ _ _⟩,by simp⟩
  ·rw[ha.str_inv.1] at ru;rw[hb.str_inv.1] at ZM;obtain⟨t,rfl⟩:=ru;obtain⟨t',rfl⟩:=ZM;exact⟨⟨_,jh.str_str _ _ _ _,by simp⟩,_,⟨SeqAt.RcAt.str_str _ _ _ _,SeqAt.RcNeAt.str_str _ _ _ _⟩,by simp⟩
  ·rename_i R N;obtain⟨p,Z,rfl,O,F⟩:=id ha.tup_inv;obtain⟨B,W,rfl,o,h⟩:=id hb.tup_inv;cases ru;cases ZM;obtain⟨C,E,q,_⟩:=I.tuple (SqT.of O);obtain⟨D,i,z,_⟩:=I.tuple (SqT.of o);obtain⟨f,G,k⟩:=NK (A:=A.in1) (λa b x y v fb u w c J P Q M=>(Q7 I n A.in1 a b x y v fb u w (by show A.units+1+2*n+2<i7;omega) c J P Q M).1) hc F h E i;have T:=SeqAt.RcAt.tuples (A:=A) (e:=f) (show s.heap.IsTuple p C.toArray from q) (show s.heap.IsTuple B D.toArray from z) (by omega) (λj m l=>G j (by simpa using m) (by simpa using l));have rn:=SeqAt.RcNeAt.tuples (A:=A) (e:=f) (show s.heap.IsTuple p C.toArray from q) (show s.heap.IsTuple B D.toArray from z) (by omega) (λj m l=>G j (by simpa using m) (by simpa using l));have g:(((aI (min C.toArray.size D.toArray.size)).all f&&C.toArray.size==D.toArray.size)=aC)↔PV.tup R=PV.tup N:=by simp only[aP,bW,beq_iff_eq,PV.tup.injEq];rw[k];exact Iss.same' F h E i
   refine⟨?_,_,⟨T,rn⟩,g⟩;by_cases e:p=B
   ·subst e;exact⟨aC,iB _,by simp[Is.inj' (n+1) _ _ _ _ _ hc ha hb]⟩
   ·exact⟨_,iu e T,g⟩
  ·rename_i R N;obtain⟨p,Z,fq,rfl,O,F,_⟩:=id ha.lst_inv;obtain⟨B,W,Y,rfl,o,h,_⟩:=id hb.lst_inv;cases ru;cases ZM;obtain⟨C,E,q,_⟩:=I.list (SqL.of O);obtain⟨D,i,z,_⟩:=I.list (SqL.of o);obtain⟨f,G,k⟩:=NK (A:=A.in1) (λa b x y v fb u w c J P Q M=>(Q7 I n A.in1 a b x y v fb u w (by show A.units+1+2*n+2<i7;omega) c J P Q M).1) hc F h E i
   have L:∃r,GH A s (.ref p) (.ref B) r/\(r=aC↔PV.lst R=PV.lst N):=by
    have g:=Iss.same' F h E i;by_cases d:C.length=D.length
    ·refine⟨_,⟨SeqAt.RcAt.lists (e:=f) q.isList z.isList (by simpa using d) (by omega) (λj m l=>G j (by simpa using m) (by simpa using l)),SeqAt.RcNeAt.lists (e:=f) q.isList z.isList (by simpa using d) (by omega) (λj m l=>G j (by simpa using m) (by simpa using l))⟩,?_⟩;rw[d,Nat.min_self] at k g;simp only[aP,PV.lst.injEq];rw[d,k,<-g];simp
    ·refine⟨aB,⟨SeqAt.RcAt.lists_lengths q.isList z.isList (by simpa using d) (by omega),SeqAt.RcNeAt.lists_lengths q.isList z.isList (by simpa using d) (by omega)⟩,?_⟩;rw[PV.lst.injEq,<-g];simp[d]
   obtain⟨r,S,U⟩:=L;refine⟨?_,r,S,U⟩;by_cases e:p=B
   ·subst e;exact⟨aC,iB _,by simp[Is.inj' (n+1) _ _ _ _ _ hc ha hb]⟩
   ·exact⟨r,iu e S.1,U⟩
end
noncomputable def FZ(K:aD)(neg:Bool):R2:=λx y H Q=>∃a b fa fb,Is K H a x fa/\Is K H b y fb/\SY 8 a b=aC/\∀r:Bool,(r=aC↔a=b)->Q (.bl (if neg then !r else r)) H
section
variable {X:Cx}
theorem K6(m:X.A.units+64<i7):U4 X (eO .Eq) (FZ X.K aB):=by intro n s l H x y v u Q I g e h;obtain⟨a,b,f,fb,i,j,d,q⟩:=h;obtain⟨_,r,c,k⟩:=Q7 I 8 X.A a b x y f fb v u (by omega) d i j g e;exact c.1 X.prog X.w X.xe _ ⟨.bl r,H,I,rfl,q r k⟩
theorem K7(m:X.A.units+64<i7):U4 X (eO .NotEq) (FZ X.K aC):=by intro n s l H x y v u Q I g e h;obtain⟨a,b,f,fb,i,j,d,q⟩:=h;obtain⟨_,r,c,k⟩:=Q7 I 8 X.A a b x y f fb v u (by omega) d i j g e;exact c.2 X.prog X.w X.xe _ ⟨.bl !r,H,I,rfl,q r k⟩
end
noncomputable def VB(neg:Bool):PV->PV->Option PV:=λa b=>if SY 8 a b=aC then aA (.bl (if neg then !decide (a=b) else decide (a=b))) else none
theorem Q8(neg:Bool):RB K (FZ K neg) (VB neg):=λH x y a b l d fb g h e Q k=>by
 unfold VB at e;split at e
 ·cases e;refine⟨a,b,d,fb,g,h,by assumption,λr c=>?_⟩
  have:r=decide (a=b):=by
   cases r with
   | true=>exact(decide_eq_true (c.mp rfl)).symm
   | false=>exact(decide_eq_false λz=>bO (c.mpr z)).symm
  subst this;exact k _ H [] (Same.refl H) (Is.bl _) λp f=>by simp at f
 ·cases e
end VL
namespace VL
open PySem PySem.Spec PyProof.Rows L2
variable {K:aD}
mutual
theorem Is.dom{H:Hp}:∀(l:PV)(v:V)(fp:List aH),Is K H l v fp->∀p∈fp,H p≠none
 | .non,_,_,h=>by simp only[Is] at h;rw[h.2];simp
 | .bl _,_,_,h=>by simp only[Is] at h;rw[h.2];simp
 | .int _,_,_,h=>by simp only[Is] at h;rw[h.2];simp
 | .str _,_,_,h=>by simp only[Is] at h;rw[h.2];simp
 | .ty _,_,_,h=>by simp only[Is] at h;rw[h.2];simp
 | .exc _,_,_,h=>by simp only[Is] at h;rw[h.2];simp
 | .exf _ _,_,_,h=>by simp only[Is] at h;rw[h.2];simp
 | .clo L l,v,fp,h=>by simp only[Is] at h;obtain⟨u,x,_,_,a⟩:=h;exact Is.dom l x fp a
 | .tup l,v,fp,h=>by obtain⟨p,d,_,_,a⟩:=h.tup_inv;exact Iss.dom l d fp a
 | .lst l,v,fp,h=>by
  obtain⟨p,d,f,_,c,a,rfl⟩:=h.lst_inv;intro q b;rcases af.mp b with rfl | b
  ·rw[c];simp
  ·exact Iss.dom l d f a q b
 | .cst l,v,fp,h=>by obtain⟨p,d,_,_,a⟩:=h.cst_inv;exact Iss.dom l d fp a
 | .dK ks l,v,fp,h=>by
  obtain⟨p,g,f,_,c,_,a,rfl⟩:=h.dK_inv;intro q b;rcases af.mp b with rfl | b
  ·rcases c with e | ⟨o,e⟩<;>rw[e]<;>simp
  ·exact Iss.dom l _ f a q b
 | .dT ks l,v,fp,h=>by
  obtain⟨p,g,f,_,c,_,a,rfl⟩:=h.dT_inv;intro q b;rcases af.mp b with rfl | b
  ·rcases c with e | ⟨o,e⟩<;>rw[e]<;>simp
  ·exact Iss.dom l _ f a q b
theorem Iss.dom{H:Hp}:∀(l:List PV)(xs:List V)(fp:List aH),Iss K H l xs fp->∀p∈fp,H p≠none
 | [],_,_,h=>by simp only[Iss] at h;rw[h.2];simp
 | l::ls,xs,fp,h=>by
  obtain⟨x,r,f1,f2,_,c,b,rfl⟩:=h.inv;intro q a;rcases bb.mp a with a | a
  ·exact Is.dom l x f1 c q a
  ·exact Iss.dom ls r f2 b q a
end
noncomputable def Ab(Rm:aH->Prop)(H H':Hp):Prop:=∀b o,H b=aA o->¬Rm b->H' b=aA o
theorem Same.ab{c:aH->Prop}{H a:Hp}(s:Same H a):Ab c H a:=λb o h _=>s b o h
theorem Ab.tk{e:aH->Prop}{H d:Hp}(a:Ab e H d)(c:∀p,e p->VY (H p)):IT H d:=⟨λb f h=>a b _ h λz=>by
 have:=c b z
 rw[h] at this;exact this,λb o f h=>a b _ h λz=>by
 have:=c b z
 rw[h] at this;exact this,λb o x h=>a b _ h λz=>by
 have:=c b z;rw[h] at this;exact this⟩
theorem Is.ab{c:aH->Prop}{H d:Hp}(a:Ab c H d)(f:∀p,c p->VY (H p)){l:PV}{v:V}{b:List aH}(n:∀p∈b,¬c p)(h:Is K H l v b):Is K d l v b:=
 Is.tr (a.tk f) l v b (λp e=>RdK.of λo q=>a p o q (n p e)) h
structure CB(K:aD)(Rm:aH->Prop)(H1:Hp)(J:It)(ls:List PV):Prop where
 stop:∀H',Ab Rm H1 H'->J.stop ls.length H'
 go:∀H' (i:Nat) l,Ab Rm H1 H'->ls[i]?=aA l->J.go i H'
 yld:∀H' (i:Nat) l x H'',Ab Rm H1 H'->ls[i]?=aA l->J.yld i H' x H''->Same H' H''/\∃fp,Is K H'' l x fp/\∀p∈fp,H1 p≠none/\¬Rm p
abbrev XL:=ZD->Option (List PV)
noncomputable def iF(K:aD)(f:XL):TI:=λσ H R=>∃(Rm:aH->Prop) (s:ZD) (ls:List PV),(∀p,Rm p->VY (H p))/\EnvIs K Rm H s σ/\f s=aA ls/\∀J H1,Same H H1->CB K Rm H1 J ls->R J H1
noncomputable def VI(X:Cx)(tg e:au)(f:XL):Prop:=PI X tg e (iF X.K f)
section
variable {X:Cx} {tg e:au} {es:List au}
theorem PI.imp{t t':TI}(h:PI X tg e t)(i:∀a H R,t' a H R->t a H R):PI X tg e t':=λb s a H R I q=>h b s a H R I (i a H R q)
noncomputable def Ez:PV->Option (List PV)
 | .lst m=>aA m
 | .cst m=>aA m
 | _=>none
noncomputable def Vb(f:XE):XL:=λs=>(f s).bind Ez
noncomputable def V8(f:XE):XL:=λs=>match f s with | some (.tup m)=>aA m | _=>none
theorem K8{a:PV}{m:List PV}(h:Ez a=aA m):a = .lst m\/a = .cst m:=by
 unfold Ez at h;split at h
 ·cases h;exact .inl rfl
 ·cases h;exact .inr rfl
 ·cases h
theorem LC{f:XE}{s:ZD}{m:List PV}(h:V8 f s=aA m):f s=aA (.tup m):=by
 unfold V8 at h;split at h
 ·cases h;assumption
 ·cases h
theorem Ys{f:XE}(h:VE X e f):VI X tg e (Vb f):=PI.imp (Im h) λJ H R ⟨D,s,ls,C,env,e,k⟩=>by
 obtain⟨l,F,I⟩:=Ze e;refine⟨D,s,l,C,env,F,λv o E s1 B A=>?_⟩;have u:=λp d=>Same.mut s1 (C p d)
 have j:∀a b r,v = .ref a->SqL X.K o a b->(∀g,Ab D o g->SqL X.K g a b)->Iss X.K o ls b r->(∀p∈r,p∈E)->∃a,v = .ref a/\(∃b,SqL X.K o a b)/\R (Cc X.K a) o:=by
  rintro a b r rfl n c m sub;refine⟨a,rfl,⟨b,n⟩,k _ o s1 ⟨λg ab=>⟨b,c g ab,by rw[m.len];exact aG _⟩,λg i l ab z=>?_,λg i l x G ab z y=>?_⟩⟩
  ·obtain⟨x,f1,w,_,_⟩:=m.get z;exact⟨b,x,c g ab,w⟩
  ·obtain⟨rfl,y⟩:=y;obtain⟨L,f1,w,ix,t⟩:=m.get z;have:=y b (c _ ab);rw[w] at this;cases this;have q:=λp d=>A p (sub p (t p d));exact⟨Same.refl _,f1,ix.ab ab u q,λp d=>⟨Is.dom _ _ _ ix p d,q p d⟩⟩
 rcases K8 I with rfl | rfl
 ·obtain⟨a,b,r,rfl,n,m,rfl⟩:=B.lst_inv;exact j a b r rfl (SqL.of n) (λg ab=>SqL.of (ab a _ n (A a a9))) m λp d=>aW _ d
 ·obtain⟨a,b,rfl,n,m⟩:=B.cst_inv;exact j a b E rfl n.sq (λg ab=>(n.tr (ab.tk u)).sq) m λp d=>d
theorem V9{f:XE}(h:VE X e f):VI X tg e (V8 f):=PI.imp (Fl h) λC H R ⟨u,s,ls,t,env,e,k⟩=>by
 refine⟨u,s,.tup ls,t,env,LC e,λv r E s1 A z=>?_⟩;obtain⟨a,d,rfl,w,q⟩:=A.tup_inv;have m:=λp g=>Same.mut s1 (t p g);have b:∀c,Ab u r c->SqT X.K c a d:=λc ab=>SqT.of ((ab.tk m).tup a d w);refine⟨a,rfl,⟨d,SqT.of w⟩,k _ r s1 ⟨λc ab=>⟨d,b c ab,by rw[q.len];exact aG _⟩,λc i l ab o=>?_,λc i l x B ab o y=>?_⟩⟩
 ·obtain⟨x,f1,n,_,_⟩:=q.get o;exact⟨d,x,b c ab,n⟩
 ·obtain⟨rfl,y⟩:=y;obtain⟨D,f1,n,ix,sub⟩:=q.get o;have:=y d (b _ ab);rw[n] at this;cases this;have j:=λp g=>z p (sub p g);exact⟨Same.refl _,f1,ix.ab ab m j,λp g=>⟨Is.dom _ _ _ ix p g,j p g⟩⟩
noncomputable def Ti(n:Nat):List PV:=(aI n).map λ(i:Nat)=>PV.int (i:Int)
noncomputable def Wx(lo:Int)(n:Nat):List PV:=(aI n).map λ(i:Nat)=>PV.int (lo+(i:Int))
noncomputable def ZZ(fs:List XE):XL:=λs=>match Sg fs s with | some [.int j]=>if -1000000<=j/\j<=1000000 then aA (Ti j.toNat) else none | _=>none
noncomputable def YQ(fs:List XE):XL:=λs=>match Sg fs s with | some [.int i,.int j]=>if -1000000<=i/\i<=1000000/\-1000000<=j/\j<=1000000 then aA (Wx i (j-i).toNat) else none | _=>none
theorem MJ{f:aH->Prop}{g:Hp}(lo:Int)(n:Nat):CB K f g (ER lo n) (Wx lo n):=by
 refine⟨λc _=>by unfold Wx;rw[aO,bY];exact aG n,λc i l _ a=>?_,λc i l x d _ a y=>?_⟩
 ·have:=(aV.mp a).1;unfold Wx at this;rw[aO,bY] at this;exact this
 ·obtain⟨rfl,rfl⟩:=y;have b:=(aV.mp a).1;unfold Wx at b a;rw[aO,bY] at b;rw[aQ,ak b] at a;cases a;exact⟨Same.refl _,[],Is.int _,λp e=>by simp at e⟩
theorem Hj(n:Nat):Ti n=Wx 0 n:=by apply bD;intro i _;rw[Int.zero_add]
theorem LD{a:au}{fs:List XE}{p b:di}(m:Gl X "range")(c:X.mg "range" = none)(n:VA X [a] fs)(h:aT [a] X.env=[(aB,eval a X.env)]:=by rfl):VI X tg (.Call (.Name "range" p) [a] [] b) (ZZ fs):=
 PI.imp (Lm m c n h) λq H R ⟨l,s,ls,g,env,e,k⟩=>by
 unfold ZZ at e;split at e
 ·split at e
  ·cases e;rename_i j o r;refine⟨l,s,_,g,env,o,λvs f t s1 d _=>?_⟩;obtain⟨v,rfl,i⟩:=d.one_inv;refine⟨j,by rw[i.int_inv.1],by omega,by omega,k _ f s1 ?_⟩;rw[Hj];exact MJ _ _
  ·cases e
 ·cases e
theorem LF{a b:au}{fs:List XE}{p c:di}(q:Gl X "range")(f:X.mg "range" = none)(r:VA X [a,b] fs)(m:aT [a,b] X.env=[(aB,eval a X.env),(aB,eval b X.env)]:=by rfl)(d:aT [b] X.env=[(aB,eval b X.env)]:=by rfl):VI X tg (.Call (.Name "range" p) [a,b] [] c) (YQ fs):=
 PI.imp (Ln q f r m d) λx H R ⟨o,s,ls,l,env,e,k⟩=>by
 unfold YQ at e;split at e
 ·split at e
  ·cases e;rename_i i j u y;refine⟨o,s,_,l,env,u,λvs h z s1 g _=>?_⟩;obtain⟨v,w,f1,f2,rfl,n,t,_⟩:=g.two_inv;exact⟨i,j,by rw[n.int_inv.1,t.int_inv.1],⟨by omega,by omega,by omega,by omega⟩,k _ h s1 (MJ _ _)⟩
  ·cases e
 ·cases e
noncomputable def W7(m:List PV):List PV:=m.zipIdx.map λz=>.tup [.int (z.2:Nat),z.1]
noncomputable def UA(m n:List PV):List PV:=(m.zip n).map λz=>.tup [z.1,z.2]
theorem QD{m:List PV}{i:Nat}{l:PV}(h:(W7 m)[i]?=aA l):∃a,m[i]?=aA a/\l = .tup [.int (i:Nat),a]:=by
 unfold W7 at h;rw[aQ,List.getElem?_zipIdx] at h
 cases q:m[i]? with
 | none=>rw[q] at h;cases h
 | some a=>rw[q] at h;cases h;exact⟨a,rfl,by simp⟩
theorem QE(m:List PV):(W7 m).length=m.length:=by unfold W7;rw[aO,List.length_zipIdx]
theorem Oz{m n:List PV}{i:Nat}{l:PV}(h:(UA m n)[i]?=aA l):∃a b,m[i]?=aA a/\n[i]?=aA b/\l = .tup [a,b]:=by
 unfold UA at h;rw[aQ] at h
 cases q:(m.zip n)[i]? with
 | none=>rw[q] at h;cases h
 | some z=>
  rw[q] at h;cases h;obtain⟨c,d⟩:=gR.mp q;exact⟨z.1,z.2,c,d,rfl⟩
theorem OA(m n:List PV):(UA m n).length=min m.length n.length:=by unfold UA;rw[aO,List.length_zip]
noncomputable def seqB:Bool->PV->Option (List PV)
 | true,.lst l=>aA l
 | true,.cst l=>aA l
 | false,.tup l=>aA l
 | _,_=>none
theorem Q9{H:Hp}{b:Bool}{l:PV}{v:V}{j:List aH}{m:List PV}(h:Is K H l v j)(e:seqB b l=aA m):∃p a k,v = .ref p/\Iss K H m a k/\(∀q∈k,q∈j)/\∀(c:aH->Prop) i,Ab c H i->(∀p,c p->VY (H p))->(∀p∈j,¬c p)->Sd b K i p a:=by
 cases b with
 | true=>cases l with
  | lst l=>
   cases e;obtain⟨p,a,k,rfl,f,g,rfl⟩:=h.lst_inv;exact⟨p,a,k,rfl,g,λq d=>aW _ d,λc i ab _ n=>SqL.of (ab p _ f (n p a9))⟩
  | cst l=>
   cases e;obtain⟨p,a,rfl,f,g⟩:=h.cst_inv;exact⟨p,a,j,rfl,g,λq d=>d,λc i ab o _=>(f.tr (ab.tk o)).sq⟩
  | _=>cases e
 | false=>cases l with
  | tup l=>
   cases e;obtain⟨p,a,rfl,f,g⟩:=h.tup_inv;exact⟨p,a,j,rfl,g,λq d=>d,λc i ab o _=>SqT.of ((ab.tk o).tup p a f)⟩
  | _=>cases e
noncomputable def OB(b:Bool)(fs:List XE):XL:=λs=>match Sg fs s with | some [l]=>(seqB b l).map W7 | _=>none
noncomputable def OC(b1 b2:Bool)(fs:List XE):XL:=λs=>match Sg fs s with | some [l,r]=>(seqB b1 l).bind λm=>(seqB b2 r).map λn=>UA m n | _=>none
theorem Pa{g:List au}{k:Nat}{h:di}(b:Bool){a:au}{fs:List XE}{p u:di}(Q:Gl X "enumerate")(J:X.mg "enumerate" = none)(S:VA X [a] fs)(N:aT [a] X.env=[(aB,eval a X.env)]:=by rfl) :
  VI X (.Tuple g k h) (.Call (.Name "enumerate" p) [a] [] u) (OB b fs):=PI.imp (IL b Q J S N) λU H R ⟨G,s,ls,F,env,e,k⟩=>by
 unfold OB at e;split at e
 ·rename_i l T;obtain⟨m,L,rfl⟩:=map_some e;refine⟨G,s,_,F,env,T,λvs w Z s1 M E=>?_⟩;obtain⟨v,rfl,i⟩:=M.one_inv;have j:=λp d=>Same.mut s1 (F p d);obtain⟨a,r,W,rfl,D,sub,n⟩:=Q9 i L;have t:=λf ab=>n G f ab j E;refine⟨a,rfl,⟨r,t w (Same.ab (Same.refl w))⟩,k _ w s1 ⟨λf ab=>⟨r,t f ab,by rw[QE,D.len]⟩,λf i l ab C=>?_,λf i l x P ab C y=>?_⟩⟩
  ·obtain⟨c,A,rfl⟩:=QD C;obtain⟨x,f1,B,_,_⟩:=D.get A;exact⟨r,x,t f ab,B⟩
  ·obtain⟨c,A,rfl⟩:=QD C;obtain⟨Y,f1,B,ix,O⟩:=D.get A;obtain⟨q,z,I,rfl,rfl,y⟩:=y;have:=y r (t _ ab);rw[B] at this;cases this;have o:=λp d=>E p (sub p (O p d));refine⟨Same.new I _,f1,Is.tup Zq ?_,λp d=>⟨Is.dom _ _ _ ix p d,o p d⟩⟩;exact Iss.cons (Is.int _) (Iss.one ((ix.ab ab j o).mono (Same.new I _)))
 ·cases e
theorem Pb{A:List au}{k:Nat}{C:di}(b1 b2:Bool){a b:au}{fs:List XE}{p N:di}(hg:Gl X "zip")(hm:X.mg "zip" = none)(ha:VA X [a,b] fs)
  (hs:aT [a,b] X.env=[(aB,eval a X.env),(aB,eval b X.env)]:=by rfl) (T:aT [b] X.env=[(aB,eval b X.env)]:=by rfl) :
  VI X (.Tuple A k C) (.Call (.Name "zip" p) [a,b] [] N) (OC b1 b2 fs):=PI.imp (FL b1 b2 hg hm ha hs T) λσ H R ⟨O,s,ls,hd,env,e,k⟩=>by
 unfold OC at e;split at e
 ·rename_i l r he;obtain⟨m,e1,e⟩:=Ze e;obtain⟨n,e2,rfl⟩:=map_some e;refine⟨O,s,_,hd,env,he,λvs B fp s1 i1 n1=>?_⟩;obtain⟨v,w,g1,g2,rfl,iv,iw,rfl⟩:=i1.two_inv;have j:=λp f=>Same.mut s1 (hd p f);have u:=λp f=>n1 p (bR _ f);have G:=λp f=>n1 p (aa _ f);obtain⟨a1,J,fq,rfl,S,sub,I⟩:=Q9 iv e1;obtain⟨a2,M,fr,rfl,Q,E,o⟩:=Q9 iw e2;have L:=λg ab=>I O g ab j u;have h:=λg ab=>o O g ab j G;refine⟨a1,a2,rfl,⟨J,L B (Same.ab (Same.refl B))⟩,⟨M,h B (Same.ab (Same.refl B))⟩,k _ B s1 ⟨λg ab=>⟨J,M,L g ab,h g ab,?_⟩,λg i l ab Z=>?_,λg i l x H'' ab Z y=>?_⟩⟩
  ·rw[OA,S.len,Q.len];omega
  ·obtain⟨c,d,U,t,rfl⟩:=Oz Z;obtain⟨x,f1,W,_,_⟩:=S.get U;obtain⟨y,f2,hy,_,_⟩:=Q.get t;exact⟨J,M,x,y,L g ab,h g ab,W,hy⟩
  ·obtain⟨c,d,U,t,rfl⟩:=Oz Z;obtain⟨x',f1,W,ix,sb⟩:=S.get U;obtain⟨y',f2,hy,iy,Y⟩:=Q.get t;obtain⟨q,z,z',P,rfl,rfl,y1,y2⟩:=y;have:=y1 J (L _ ab);rw[W] at this;cases this;have:=y2 M (h _ ab);rw[hy] at this;cases this;have D:=λp f=>u p (sub p (sb p f));have F:=λp f=>G p (E p (Y p f));refine⟨Same.new P _,f1++f2,Is.tup Zq ?_,λp f=>?_⟩
   ·exact Iss.cons ((ix.ab ab j D).mono (Same.new P _)) (Iss.one ((iy.ab ab j F).mono (Same.new P _)))
   ·rcases bb.mp f with f | f
    ·exact⟨Is.dom _ _ _ ix p f,D p f⟩
    ·exact⟨Is.dom _ _ _ iy p f,F p f⟩
 ·cases e
end
inductive Tgt where
 | one (i:Nat) | many (is:List Nat)
noncomputable def Tgt.slots:Tgt->List Nat
 | .one i=>[i]
 | .many is=>is
noncomputable def setAll:List Nat->List PV->ZD->ZD
 | i::is,l::ls,s=>setAll is ls (s.set i (aA l))
 | _,_,s=>s
noncomputable def Yt:List Nat->List V->Sf->Sf
 | i::is,l::ls,s=>Yt is ls (s.set i (aA l))
 | _,_,s=>s
noncomputable def YU:Tgt->PV->ZD->Option ZD
 | .one i,l,s=>aA (s.set i (aA l))
 | .many is,.tup ls,s=>if ls.length=is.length then aA (setAll is ls s) else none
 | _,_,_=>none
noncomputable def NL:List Nat->Gv
 | []=>EN
 | i::is=>Gw (Uu i) (NL is)
noncomputable def gT(K:aD):Tgt->TG
 | .one i=>Uu i
 | .many is=>EO K is.length (NL is)
theorem S2:∀{is:List Nat}{vs:List V}{σ:Sf}{H:Hp}{Q:Sf->Hp->Prop},vs.length=is.length->Q (Yt is vs σ) H->NL is vs σ H Q
 | [],[],_,_,_,_,q=>⟨rfl,q⟩
 | [],_::_,_,_,_,h,_=>by simp at h
 | _::_,[],_,_,_,h,_=>by simp at h
 | i::is,v::vs,σ,H,Q,h,q=>⟨v,vs,rfl,S2 (is:=is) (vs:=vs) (by simpa using h) q⟩
theorem NM{T:Tgt}{l:PV}{v:V}{c:List aH}{s f:ZD}{H:Hp}(h:Is K H l v c)(e:YU T l s=aA f) :
  ∃ls vs fs,f=setAll T.slots ls s/\Iss K H ls vs fs/\ls.length=T.slots.length/\(∀p∈fs,p∈c)/\∀b (Q:Sf->Hp->Prop),Q (Yt T.slots vs b) H->gT K T v b H Q:=by
 cases T with
 | one i=>
  cases e;exact⟨[l],[v],c,rfl,Iss.one h,rfl,λp a=>a,λb Q q=>q⟩
 | many is=>
  cases l with
  | tup ls=>
   have e:(if ls.length=is.length then aA (VL.setAll is ls s) else none)=aA f:=e;split at e
   ·cases e;obtain⟨p,g,rfl,a,d⟩:=h.tup_inv;exact⟨ls,g,c,rfl,d,by assumption,λp a=>a,λb Q q=>⟨p,g,rfl,SqT.of a,by rw[d.len];assumption,S2 (by rw[d.len];assumption) q⟩⟩
   ·cases e
  | _=>cases e
theorem Wy:∀{is:List Nat}{vs:List V}{σ:Sf}{n:Nat},(∀i∈is,i<n)->(Yt is vs σ).drop n=σ.drop n
 | [],_,_,_,_=>rfl
 | _::_,[],_,_,_=>rfl
 | i::is,v::vs,σ,n,h=>by show(Yt is vs (σ.set i (aA v))).drop n=_;rw[Wy (λj a=>h j (aW _ a))];have:=h i a9;rw[List.drop_set,k8 this]
theorem EnvIs.set{c:aH->Prop}{H:Hp}{s:ZD}{b:Sf}{i:Nat}{l:PV}{v:V}{g:List aH}(h:EnvIs K c H s b)(r:s.length=b.length)(q:Is K H l v g)(n:∀p∈g,¬c p):EnvIs K c H (s.set i (aA l)) (b.set i (aA v)):=⟨λj a e=>by
 rw[ao] at e;by_cases d:i=j
 ·subst d;rw[k8 rfl] at e;split at e
  ·cases e;exact⟨v,g,by rw[ao,k8 rfl,k8 (by omega)],q,n⟩
  ·cases e
 ·rw[k9 d] at e;obtain⟨w,f,m,k,o⟩:=h.is j a e;exact⟨w,f,by rw[ao,k9 d];exact m,k,o⟩⟩
theorem EnvIs.setAll{a:aH->Prop}{H:Hp}:∀{is:List Nat}{ls:List PV}{vs:List V}{fs:List aH}{s:ZD}{σ:Sf},EnvIs K a H s σ->s.length=σ.length->Iss K H ls vs fs->(∀p∈fs,¬a p)->EnvIs K a H (VL.setAll is ls s) (Yt is vs σ)
 | [],_,_,_,_,_,h,_,_,_=>by unfold VL.setAll Yt;exact h
 | i::is,[],vs,fs,s,σ,h,_,hi,_=>by simp only[Iss] at hi;rw[hi.1];exact h
 | i::is,l::ls,vs,fs,s,σ,h,hl,hi,n=>by obtain⟨x,r,f1,f2,rfl,d,c,rfl⟩:=hi.inv;show EnvIs K a H (VL.setAll is ls (s.set i (aA l))) (Yt is r (σ.set i (aA x)));exact EnvIs.setAll (h.set hl d λp b=>n p (bR _ b)) (by rw[bu,bu];exact hl) c λp b=>n p (aa _ b)
noncomputable def Z1(n:Nat)(ix:List Nat)(s:ZD):ZD:=aU n none++ix.map (λi=>(s[i]?).join)
noncomputable def XM(T:Tgt)(ft:XT)(fe:XE)(s0:ZD):List PV->Option (List PV)
 | []=>aA []
 | l::r=>(YU T l s0).bind λs1=>(ft s1).bind λc=>if c=aC then(fe s1).bind λy=>(XM T ft fe s0 r).map (y::·) else XM T ft fe s0 r
noncomputable def Zt(n:Nat)(ix:List Nat)(fi:XL)(T:Tgt)(ft:XT)(fe:XE):XE:=λs=>(fi s).bind λls=>if ls.length<=10000 then(XM T ft fe (Z1 n ix s) ls).map .lst else none
noncomputable def ZF:XT:=λ_=>aA aC
theorem LG{d:Type}{o:Option (Option d)}{a:d}(h:o.join=aA a):o=aA (aA a):=by
 cases o with
 | none=>cases h
 | some b=>cases b with
  | none=>cases h
  | some c=>cases h;rfl
theorem EnvIs.comp{g:aH->Prop}{H:Hp}{s:ZD}{f:Sf}{n:Nat}{ix:List Nat}(h:EnvIs K g H s f):EnvIs K g H (Z1 n ix s) (ZP n ix f):=⟨λi l e=>by
 unfold Z1 at e;unfold ZP;by_cases d:i<n
 ·rw[ar (by simpa using d),b6,k8 d] at e;cases e
 ·rw[bK (by simpa using d),cX,aQ] at e;rw[bK (by simpa using d),cX,aQ]
  cases q:ix[i-n]? with
  | none=>rw[q] at e;cases e
  | some j=>
   rw[q] at e;have e:=LG (av e);obtain⟨v,k,a,b,c⟩:=h.is j l e;exact⟨v,k,by show aA ((f[j]?).join)=_;rw[a];rfl,b,c⟩⟩
theorem OD(n:Nat)(ix:List Nat)(s:ZD)(a:Sf):(Z1 n ix s).length=(ZP n ix a).length:=by unfold Z1 ZP;simp
theorem S3{T:Tgt}{e:XT}{a:XE}{b:ZD}{l:PV}{r f:List PV}(h:XM T e a b (l::r)=aA f):∃s1 c,YU T l b=aA s1/\e s1=aA c/\((c=aC/\∃y d,a s1=aA y/\XM T e a b r=aA d/\f=y::d)\/(c=aB/\XM T e a b r=aA f)):=by
 obtain⟨s1,g,h⟩:=Ze h;obtain⟨c,k,h⟩:=Ze h;refine⟨s1,c,g,k,?_⟩
 cases c with
 | true=>
  obtain⟨y,i,h⟩:=Ze h;obtain⟨d,j,rfl⟩:=map_some h;exact .inl ⟨rfl,y,d,i,j,rfl⟩
 | false=>
  exact .inr ⟨rfl,h⟩
theorem S4{b:Type}{l:List b}{i:Nat}{a:b}{r:List b}(h:l.drop i=a::r):l[i]?=aA a/\l.drop (i+1)=r:=by
 constructor
 ·have:=congrArg (λz=>z[0]?) h;simpa [eN] using this
 ·rw[<-List.drop_drop,h];rfl
section
variable {n:Nat} {ix:List Nat} {fi:XL} {T:Tgt} {ft:XT} {fe:XE}
theorem Hk(hT:∀i∈T.slots,i<n):∀B H Q,tF K (Zt n ix fi T ft fe) B H Q->SO n ix (iF K fi) (gT K T) (Ot K ft) (tF K fe) B H Q:=λB H Q ⟨o,s,L,Y,env,e,k⟩=>by
 obtain⟨ls,e1,e⟩:=Ze e;split at e
 case isFalse=>cases e
 rename_i hlen;obtain⟨ys,e2,rfl⟩:=map_some e;refine⟨o,s,ls,Y,env,e1,λJ R s1 g=>?_⟩;have U:=λp b=>Same.mut s1 (Y p b)
 refine⟨λi m vs w=>m=ls.length-i/\i<=ls.length/\Same R w/\∃j Yh t,ys=j++Yh/\j.length<=i/\XM T ft fe (Z1 n ix s) (ls.drop i)=aA Yh/\Iss K w j vs t/\∀p∈t,¬o p,
  ⟨ls.length,by simp,bq _,Same.refl R,[],ys,[],rfl,aG _,e2,Iss.nil,λp b=>by simp at b⟩,?_⟩
 rintro i m vs w ⟨rfl,hi,d,j,Yh,t,rfl,G,M,N,X⟩;refine⟨by rw[N.len];exact cP (lt_size (by omega)),?_⟩
 cases q:ls.drop i with
 | nil=>
  have hil:i=ls.length:=by have:=congrArg fK q;simp at this;omega
  subst hil;rw[q] at M;cases M;refine .inl ⟨g.stop w (Same.ab d),λp b=>k _ _ (p::t) (s1.trans (d.trans (Same.new b _))) ?_ λa W z=>?_⟩
  ·rw[cw];exact Is.lst Zq (N.mono (Same.new b _))
  ·rcases af.mp W with rfl | W
   ·exact Y5 (Same.mut (s1.trans d) (Y a z)) b
   ·exact X a W z
 | cons l r=>
  obtain⟨Z,hr⟩:=S4 q;have D:=(aV.mp Z).1;rw[q] at M;obtain⟨sb,c,eb,et,S⟩:=S3 M
  refine .inr ⟨g.go w i l (Same.ab d) Z,λF H'=>Same R H'/\∃dn' rest' fp',j++Yh=dn'++rest'/\dn'.length<=i+1/\XM T ft fe (Z1 n ix s) (ls.drop (i+1))=aA rest'/\Iss K H' dn' F fp'/\∀p∈fp',¬o p,
   λF H' h'=>⟨ls.length-(i+1),by omega,rfl,D,h'.1,h'.2⟩,λx H2 y=>?_⟩
  obtain⟨s2,fx,ix',nx⟩:=g.yld w i l x H2 (Same.ab d) Z y;have A:=λp b=>Same.mut (d.trans s2) (U p b);obtain⟨bl,bv,bf,rfl,bi,_,C,E⟩:=NM ix' eb;have I:EnvIs K o H2 (Z1 n ix s) (ZP n ix B):=(env.mono (s1.trans (d.trans s2))).comp;have f:=I.setAll (is:=T.slots) (OD n ix s B) bi λp b=>(nx p (C p b)).2;refine E _ _ ⟨Wy hT,o,_,c,A,f,et,λH3 u=>?_⟩;have P:=λp b=>Same.mut u (A p b);rcases S with⟨rfl,y',zs,ey,O,rfl⟩ | ⟨rfl,O⟩
  ·refine De ?_;refine⟨o,_,y',P,f.mono u,ey,λv H4 f4 s4 i4 n4=>?_⟩;refine⟨d.trans (s2.trans (u.trans s4)),j++[y'],zs,t++f4,by rw[el];rfl,by rw[bH];simp;exact G,by rw[hr];exact O,(N.mono (s2.trans (u.trans s4))).append (Iss.one i4),λp b=>?_⟩;rcases bb.mp b with h | h
   ·exact X p h
   ·exact n4 p h
  ·refine Dd ?_;exact⟨d.trans (s2.trans u),j,Yh,t,rfl,fD G,by rw[hr];exact O,N.mono (s2.trans u),X⟩
theorem Pc(hT:∀i∈T.slots,i<n):∀C H Q,tM K (Zt n ix fi T ft fe) C H Q->SO n ix (iF K fi) (gT K T) (Ot K ft) (tM K fe) C H Q:=λC H Q ⟨s,L,env,e,k⟩=>by
 obtain⟨ls,e1,e⟩:=Ze e;split at e
 case isFalse=>cases e
 rename_i hlen;obtain⟨ys,e2,rfl⟩:=map_some e;have hd:∀(H:Hp) p,(λ_=>False:aH->Prop) p->VY (H p):=λ_ _ z=>z.elim;refine⟨λ_=>False,s,ls,hd H,env,e1,λJ D s1 w=>?_⟩
 refine⟨λi m vs u=>m=ls.length-i/\i<=ls.length/\Same D u/\∃A Yh t,ys=A++Yh/\A.length<=i/\XM T ft fe (Z1 n ix s) (ls.drop i)=aA Yh/\Iss K u A vs t/\t.Nodup/\∀p∈t,D p=none/\VY (u p),
  ⟨ls.length,by simp,bq _,Same.refl D,[],ys,[],rfl,aG _,e2,Iss.nil,cp,λp d=>by simp at d⟩,?_⟩
 rintro i m vs u ⟨rfl,hi,f,A,Yh,t,rfl,M,O,P,X,o⟩;refine⟨by rw[P.len];exact cP (lt_size (by omega)),?_⟩
 cases q:ls.drop i with
 | nil=>
  have hil:i=ls.length:=by have:=congrArg fK q;simp at this;omega
  subst hil;rw[q] at O;cases O;refine .inl ⟨w.stop u (Same.ab f),λp d=>k _ _ (p::t) (s1.trans (f.trans (Same.new d _))) ?_ (bP.mpr ⟨λz=>Y5 (o p z).2 d,X⟩) λa B=>?_⟩
  ·rw[cw];exact Is.lst Zq (P.mono (Same.new d _))
  ·rcases af.mp B with rfl | B
   ·exact⟨Same.off (s1.trans f) d,by rw[Zq];exact cY⟩
   ·exact⟨Same.off s1 (o a B).1,Same.mut (Same.new d _) (o a B).2⟩
 | cons l r=>
  obtain⟨Z,hr⟩:=S4 q;have F:=(aV.mp Z).1;rw[q] at O;obtain⟨sb,c,eb,et,W⟩:=S3 O
  refine .inr ⟨w.go u i l (Same.ab f) Z,λI R=>Same D R/\∃dn' rest' fp',A++Yh=dn'++rest'/\dn'.length<=i+1/\XM T ft fe (Z1 n ix s) (ls.drop (i+1))=aA rest'/\Iss K R dn' I fp'/\fp'.Nodup/\∀p∈fp',D p=none/\VY (R p),
   λI R h'=>⟨ls.length-(i+1),by omega,rfl,F,h'.1,h'.2⟩,λx H2 y=>?_⟩
  obtain⟨s2,fx,ix',nx⟩:=w.yld u i l x H2 (Same.ab f) Z y;obtain⟨bl,bv,bf,rfl,bi,_,E,G⟩:=NM ix' eb;have N:EnvIs K (λ_=>False) H2 (Z1 n ix s) (ZP n ix C):=(env.mono (s1.trans (f.trans s2))).comp;have j:=N.setAll (is:=T.slots) (OD n ix s C) bi λp d=>(nx p (E p d)).2;refine G _ _ ⟨Wy hT,λ_=>False,_,c,hd H2,j,et,λH3 g=>?_⟩;rcases W with⟨rfl,y',zs,ey,U,rfl⟩ | ⟨rfl,U⟩
  ·refine De ?_;refine⟨_,y',j.mono g,ey,λv H4 f4 Y i4 d4 S=>?_⟩;refine⟨f.trans (s2.trans (g.trans Y)),A++[y'],zs,t++f4,by rw[el];rfl,by rw[bH];simp;exact M,by rw[hr];exact U,(P.mono (s2.trans (g.trans Y))).append (Iss.one i4),gU.mpr ⟨X,d4,λa B b hb z=>?_⟩,λp d=>?_⟩
   ·subst z;exact Y5 (Same.mut (s2.trans g) (o a B).2) (S a hb).1
   ·rcases bb.mp d with h | h
    ·exact⟨(o p h).1,Same.mut (s2.trans (g.trans Y)) (o p h).2⟩
    ·exact⟨Same.off (f.trans (s2.trans g)) (S p h).1,(S p h).2⟩
  ·refine Dd ?_;exact⟨f.trans (s2.trans g),A,Yh,t,rfl,fD M,by rw[hr];exact U,P.mono (s2.trans g),X,λp d=>⟨(o p d).1,Same.mut (s2.trans g) (o p d).2⟩⟩
end
noncomputable def EA(X:Cx)(k5:List au)(f:XT):Prop:=Nx X k5 (Ot X.K f)
section
variable {X:Cx} {tg k6 iter c:au} {k5:List au} {scope:dA} {pos:di} {fi:XL} {T:Tgt} {ft:XT} {fe:XE}
theorem Z2:EA X [] ZF:=λb s a H Q I ⟨f,g,c,d,env,e,k⟩=>by cases e;exact IH b s a H Q I (k H (Same.refl H))
theorem MK(h:VT X c ft):EA X [c] ft:=II h
theorem UB(own fr:List ah)(ix:List Nat)(b:X.calm=aC)(f:VI X tg iter fi)(S:Vi X.N X.env.scope scope own fr ix=aC)
  (d:∀cl C s H a,PG (ZA X (own++fr) scope cl C s H a) tg (gT X.K T)) (c:∀cl C s H a,EA (ZA X (own++fr) scope cl C s H a) k5 ft) (h:∀cl C s H a,VE (ZA X (own++fr) scope cl C s H a) k6 fe)
  (e:∀i∈T.slots,i<own.length:=by decide) (g:∀x,bT iter X.env x=pure x:=by intro _;rfl):VE X (.ListComp k6 [⟨tg,iter,k5,0⟩] scope pos) (Zt own.length ix fi T ft fe):=
 PE.imp (Om own fr ix b f S d (λcl C s H a=>(show Nx (ZA X (own++fr) scope cl C s H a) k5 (Ot X.K ft) from c cl C s H a)) (λcl C s H a=>(show PE (ZA X (own++fr) scope cl C s H a) k6 (tF X.K fe) from h cl C s H a)) g) (Hk e)
theorem VC(own fr:List ah)(ix:List Nat)(b:X.calm=aC)(f:VI X tg iter fi)(S:Vi X.N X.env.scope scope own fr ix=aC)
  (d:∀cl C s H a,PG (ZA X (own++fr) scope cl C s H a) tg (gT X.K T)) (c:∀cl C s H a,EA (ZA X (own++fr) scope cl C s H a) k5 ft) (h:∀cl C s H a,VM (ZA X (own++fr) scope cl C s H a) k6 fe)
  (e:∀i∈T.slots,i<own.length:=by decide) (g:∀x,bT iter X.env x=pure x:=by intro _;rfl):VM X (.ListComp k6 [⟨tg,iter,k5,0⟩] scope pos) (Zt own.length ix fi T ft fe):=
 PE.imp (Om own fr ix b f S d (λcl C s H a=>(show Nx (ZA X (own++fr) scope cl C s H a) k5 (Ot X.K ft) from c cl C s H a)) (λcl C s H a=>(show PE (ZA X (own++fr) scope cl C s H a) k6 (tM X.K fe) from h cl C s H a)) g) (Pc e)
end
noncomputable def Xv(xs:List PV)(lo hi:Option Int):List PV:=(xs.drop (HT.sIx xs.length 0 lo)).take (HT.sIx xs.length xs.length hi-HT.sIx xs.length 0 lo)
theorem Iss.cut{H:Hp}{l:List PV}{g:List V}{f:List aH}(lo e:Option Int)(h:Iss K H l g f):∃f1,Iss K H (Xv l lo e) (Lv g lo e) f1/\∀p∈f1,p∈f:=by unfold Xv Lv;rw[h.len];obtain⟨f1,a,b⟩:=h.drop (HT.sIx l.length 0 lo);obtain⟨f2,c,d⟩:=a.take (HT.sIx l.length l.length e-HT.sIx l.length 0 lo);exact⟨f2,c,λp i=>b p (d p i)⟩
abbrev XO:=ZD->Option (Option Int)
noncomputable def Bj(K:aD)(f:XO):TO:=λσ H Q=>∃(Rm:aH->Prop) (s:ZD) (i:Option Int),(∀p,Rm p->VY (H p))/\EnvIs K Rm H s σ/\f s=aA i/\∀H',Same H H'->Q i H'
noncomputable def VO(X:Cx)(e:Option au)(f:XO):Prop:=PO X e (Bj X.K f)
noncomputable def VD:XO:=λ_=>aA none
noncomputable def Xw(f:XE):XO:=λs=>match f s with | some (.int i)=>aA (aA i) | _=>none
noncomputable def Wz(x:PV)(lo hi:Option Int):Option PV:=match x with | .lst l=>aA (.lst (Xv l lo hi)) | .cst l=>aA (.lst (Xv l lo hi)) | _=>none
noncomputable def Xc(x:PV)(lo hi:Option Int):Option PV:=match x with | .tup l=>if HT.sIx l.length 0 lo=0/\HT.sIx l.length l.length hi=l.length then none else aA (.tup (Xv l lo hi)) | _=>none
noncomputable def Wn(g:PV->Option Int->Option Int->Option PV)(a:XE)(lo hi:XO):XE:=λs=>(a s).bind λx=>(lo s).bind λl=>(hi s).bind λu=>g x l u
section
variable {X:Cx} {e:au} {lo hi:Option au} {p2 pos:di} {fa:XE} {fl fh:XO}
theorem ZX:VO X none VD:=λb s a H Q I ⟨d,f,i,c,env,e,k⟩=>by cases e;exact IC b s a H Q I (k H (Same.refl H))
theorem ZR{e:au}(h:VE X e fa):VO X (aA e) (Xw fa):=λm s a H Q I ⟨c,f,i,b,env,e,k⟩=>by
 unfold Xw at e;split at e
 ·cases e;rename_i j g;exact ID h m s a H Q I ⟨c,f,.int j,b,env,g,λv l o d i n=>⟨j,i.int_inv.1,k l d⟩⟩
 ·cases e
theorem Yl(D:VE X e fa)(C:VO X lo fl)(y:VO X m fh):VE X (.Subscript e (.Slice lo m none p2) pos) (Wn Wz fa fl fh):=PE.imp (Og IF D C y) λE H Q ⟨n,s,l,j,env,e,k⟩=>by
 obtain⟨x,w,e⟩:=Ze e;obtain⟨a,B,e⟩:=Ze e;obtain⟨b,A,e⟩:=Ze e;refine⟨n,s,x,j,env,w,λv G J s1 u t=>⟨n,s,a,λp h=>Same.mut s1 (j p h),env.mono s1,B,λL s2=>⟨n,s,b,λp h=>Same.mut (s1.trans s2) (j p h),env.mono (s1.trans s2),A,λI i=>?_⟩⟩⟩
 cases x with
 | lst l=>
  cases e;obtain⟨p,o,F,rfl,h,m,rfl⟩:=(u.mono (s2.trans i)).lst_inv;obtain⟨f1,c,d⟩:=m.cut a b;refine⟨p,o,rfl,SqL.of h,λq g=>k _ _ (q::f1) (s1.trans (s2.trans (i.trans (Same.new g _)))) (Is.lst Zq (c.mono (Same.new g _))) λr f z=>?_⟩;rcases af.mp f with rfl | f
  ·exact Y5 (Same.mut (s1.trans (s2.trans i)) (j r z)) g
  ·exact t r (aW _ (d r f)) z
 | cst l=>
  cases e;obtain⟨p,o,rfl,h,m⟩:=(u.mono (s2.trans i)).cst_inv;obtain⟨f1,c,d⟩:=m.cut a b;refine⟨p,o,rfl,h.sq,λq g=>k _ _ (q::f1) (s1.trans (s2.trans (i.trans (Same.new g _)))) (Is.lst Zq (c.mono (Same.new g _))) λr f z=>?_⟩;rcases af.mp f with rfl | f
  ·exact Y5 (Same.mut (s1.trans (s2.trans i)) (j r z)) g
  ·exact t r (d r f) z
 | _=>cases e
theorem Z8(D:VE X e fa)(C:VO X lo fl)(w:VO X g fh):VE X (.Subscript e (.Slice lo g none p2) pos) (Wn Xc fa fl fh):=PE.imp (Og Fz D C w) λE H Q ⟨i,s,l,h,env,e,k⟩=>by
 obtain⟨x,u,e⟩:=Ze e;obtain⟨a,B,e⟩:=Ze e;obtain⟨b,z,e⟩:=Ze e;refine⟨i,s,x,h,env,u,λv F I s1 t o=>⟨i,s,a,λp f=>Same.mut s1 (h p f),env.mono s1,B,λJ s2=>⟨i,s,b,λp f=>Same.mut (s1.trans s2) (h p f),env.mono (s1.trans s2),z,λG n=>?_⟩⟩⟩
 cases x with
 | tup l=>
  unfold Xc at e;simp only at e;split at e
  ·cases e
  ·rename_i j;cases e;obtain⟨p,A,rfl,f,g⟩:=(t.mono (s2.trans n)).tup_inv;obtain⟨f1,c,d⟩:=g.cut a b;refine⟨p,A,rfl,SqT.of f,by rw[g.len];exact j,λq m=>k _ _ f1 (s1.trans (s2.trans (n.trans (Same.new m _)))) (Is.tup Zq (c.mono (Same.new m _))) λr y=>o r (d r y)⟩
 | _=>cases e
end
end VL
namespace VL
open PySem PySem.Spec PyProof.Rows L2
variable {K:aD}
structure Rel(K:aD)(O:List Nat)(H0:Hp)(fps:Nat->List aH)(s:ZD)(σ:Sf)(H:Hp):Prop where
 same:Same H0 H
 len:s.length=σ.length
 is:∀(i:Nat) l,s[i]?=aA (aA l)->∃v,σ[i]?=aA (aA v)/\Is K H l v (fps i)
 emp:∀(i:Nat),(∀l,s[i]?≠aA (aA l))->fps i=[]
 nd:∀i∈O,(fps i).Nodup
 own:∀i∈O,∀p∈fps i,H0 p=none/\VY (H p)
 dis:∀i∈O,∀j,j≠i->∀p∈fps i,p∉fps j
noncomputable def Ow(O:List Nat)(fps:Nat->List aH)(p:aH):Prop:=∃i∈O,p∈fps i
noncomputable def Yo(O:List Nat)(s:ZD):ZD:=O.foldl (λs i=>s.set i none) s
theorem S5:∀{O:List Nat}{s:ZD}{i:Nat}{l:PV},(Yo O s)[i]?=aA (aA l)->i∉O/\s[i]?=aA (aA l)
 | [],s,i,l,h=>⟨by simp,h⟩
 | o::O,s,i,l,h=>by
  obtain⟨b,a⟩:=S5 (O:=O) (s:=s.set o none) h;rw[ao] at a;by_cases e:o=i
  ·rw[k8 e] at a;split at a<;>cases a
  ·rw[k9 e] at a;exact⟨by simp only[af,not_or];exact⟨λz=>e z.symm,b⟩,a⟩
section
variable {O:List Nat} {H0 H H':Hp} {fps:Nat->List aH} {s:ZD} {σ:Sf}
theorem Rel.at(r:Rel K O H0 fps s σ H)(i:Nat){p:aH}(c:p∈fps i):∃l v,s[i]?=aA (aA l)/\σ[i]?=aA (aA v)/\Is K H l v (fps i):=by
 cases q:s[i]? with
 | none=>rw[r.emp i (λl z=>by rw[q] at z;cases z)] at c;simp at c
 | some o=>cases o with
  | none=>rw[r.emp i (λl z=>by rw[q] at z;cases z)] at c;simp at c
  | some l=>
   obtain⟨v,a,b⟩:=r.is i l q;exact⟨l,v,rfl,a,b⟩
theorem Rel.dom(r:Rel K O H0 fps s σ H)(i:Nat):∀p∈fps i,H p≠none:=λp a=>by obtain⟨l,v,_,_,b⟩:=r.at i a;exact Is.dom _ _ _ b p a
theorem Rel.env(r:Rel K O H0 fps s σ H):EnvIs K (λ_=>False) H s σ:=⟨λi l e=>by
 obtain⟨v,a,b⟩:=r.is i l e;exact⟨v,_,a,b,λ_ _ z=>z⟩⟩
theorem Rel.envO(r:Rel K O H0 fps s σ H):EnvIs K (Ow O fps) H (Yo O s) σ:=⟨λi l e=>by
 obtain⟨n,e⟩:=S5 e;obtain⟨v,a,b⟩:=r.is i l e;exact⟨v,_,a,b,λp f ⟨j,d,c⟩=>r.dis j d i (λz=>n (z▸d)) p c f⟩⟩
theorem Rel.owMut(r:Rel K O H0 fps s σ H):∀p,Ow O fps p->VY (H p):=λp ⟨i,b,a⟩=>(r.own i b p a).2
theorem Rel.grow(r:Rel K O H0 fps s σ H)(e:Same H H'):Rel K O H0 fps s σ H':=
 ⟨r.same.trans e,r.len,λi l q=>by obtain⟨v,a,b⟩:=r.is i l q;exact⟨v,a,b.mono e⟩,r.emp,r.nd,λi d p c=>⟨(r.own i d p c).1,Same.mut e (r.own i d p c).2⟩,r.dis⟩
theorem Rel.less{F:Hp}(r:Rel K O F fps s σ H)(e:Same H0 F):Rel K O H0 fps s σ H:=
 ⟨e.trans r.same,r.len,r.is,r.emp,r.nd,λi b p a=>⟨Same.off e (r.own i b p a).1,(r.own i b p a).2⟩,r.dis⟩
open Classical in
noncomputable def Vc(H:Hp)(Rm:aH->Prop):Hp:=λb=>if Rm b then none else H b
theorem QF{a:aH->Prop}:Same (Vc H a) H:=λb o h=>by
 unfold Vc at h;split at h
 ·cases h
 ·exact h
theorem Rel.frame(r:Rel K O H0 fps s σ H):Rel K O (Vc H (Ow O fps)) fps s σ H:=
 ⟨QF,r.len,r.is,r.emp,r.nd,λi b p a=>⟨by unfold Vc;rw[k8 ⟨i,b,a⟩],(r.own i b p a).2⟩,r.dis⟩
theorem Rel.under(r:Rel K O H0 fps s σ H):Same H0 (Vc H (Ow O fps)):=λb o h=>by unfold Vc;rw[k9 (λ⟨i,c,a⟩=>by rw[(r.own i c b a).1] at h;cases h)];exact r.same b o h
open Classical in
noncomputable def UC(fps:Nat->List aH)(n:Nat)(i:Nat)(fp:List aH):Nat->List aH:=λj=>if j=i/\i<n then fp else fps j
theorem ZK{n i j:Nat}{a:List aH}(h:j≠i):UC fps n i a j=fps j:=by unfold UC;rw[k9 (λz=>h z.1)]
theorem Pd{n i:Nat}{a:List aH}(h:i<n):UC fps n i a i=a:=by unfold UC;rw[k8 ⟨rfl,h⟩]
theorem Rel.set(r:Rel K O H0 fps s σ H){i:Nat}{l:PV}{v:V}{f:List aH}(y:Is K H l v f)(q:i∈O->f.Nodup/\∀p∈f,H0 p=none/\VY (H p))
  (o:∀j,j≠i->(j∈O\/i∈O)->∀p∈f,p∉fps j):Rel K O H0 (UC fps s.length i f) (s.set i (aA l)) (σ.set i (aA v)) H:=by
 by_cases c:i<s.length
 ·have g:UC fps s.length i f i=f:=Pd c;refine⟨r.same,by rw[bu,bu];exact r.len,λj a e=>?_,λj h=>?_,λj b=>?_,λj b p d=>?_,λj b k n p d=>?_⟩
  ·rw[ao] at e;by_cases b:i=j
   ·subst b;rw[k8 rfl,k8 c] at e;cases e;rw[g];exact⟨v,by rw[ao,k8 rfl,k8 (by rw[<-r.len];exact c)],y⟩
   ·rw[k9 b] at e;obtain⟨w,u,t⟩:=r.is j a e;rw[ZK (aj b)];exact⟨w,by rw[ao,k9 b];exact u,t⟩
  ·by_cases b:i=j
   ·subst b;exact absurd (by rw[ao,k8 rfl,k8 c]) (h l)
   ·rw[ZK (aj b)];exact r.emp j λa z=>h a (by rw[ao,k9 b];exact z)
  ·by_cases e:j=i
   ·subst e;rw[g];exact(q b).1
   ·rw[ZK e];exact r.nd j b
  ·by_cases e:j=i
   ·subst e;rw[g] at d;exact(q b).2 p d
   ·rw[ZK e] at d;exact r.own j b p d
  ·by_cases e:j=i
   ·subst e;rw[g] at d;rw[ZK n];exact o k n (.inr b) p d
   ·rw[ZK e] at d;by_cases m:k=i
    ·subst m;rw[g];exact λz=>o j e (.inl b) p z d
    ·rw[ZK m];exact r.dis j b k n p d
 ·have g:s.set i (aA l)=s:=g6 (by omega);have m:σ.set i (aA v)=σ:=g6 (by rw[<-r.len];omega);have x:UC fps s.length i f=fps:=by funext j;unfold UC;rw[k9 (λz=>c z.2)]
  rw[g,m,x];exact r
theorem Rel.mutate(r:Rel K O H0 fps s σ H){i:Nat}(n:i∈O){p:aH}(m:p∈fps i){o:HO}{l':PV}{v:V}{fp':List aH}(L:σ[i]?=aA (aA v))(f:i<s.length)
  (E:Is K (upd H p o) l' v fp') (M:fp'.Nodup) (B:∀q∈fp',H0 q=none/\VY (upd H p o q)) (y:∀j,j≠i->∀q∈fp',q∉fps j) (C:VY (aA o)):Rel K O H0 (UC fps s.length i fp') (s.set i (aA l')) σ (upd H p o):=by
 have g:=(r.own i n p m).2;have D:=(r.own i n p m).1;have l:UC fps s.length i fp' i=fp':=Pd f
 have tk:IT H (upd H p o):=⟨λb I h=>by
  rw[upd_ne (λz=>by rw[z] at h;rw[h] at g;exact g)];exact h,λb o I h=>by
  rw[upd_ne (λz=>by rw[z] at h;rw[h] at g;exact g)];exact h,λb o x h=>by
  rw[upd_ne (λz=>by rw[z] at h;rw[h] at g;exact g)];exact h⟩
 refine⟨λb u h=>by rw[upd_ne (Zp h D)];exact r.same b u h,by rw[bu];exact r.len,λj a e=>?_,λj h=>?_,λj c=>?_,λj c q d=>?_,λj c k t q d=>?_⟩
 ·rw[ao] at e;by_cases c:i=j
  ·subst c;rw[k8 rfl,k8 f] at e;cases e;rw[l];exact⟨v,L,E⟩
  ·rw[k9 c] at e;obtain⟨w,G,F⟩:=r.is j a e;rw[ZK (aj c)];refine⟨w,G,Is.tr tk _ _ _ (λq d=>RdK.of λu J=>?_) F⟩;have ne:q≠p:=λz=>r.dis i n j (aj c) p m (z▸d);rw[upd_ne ne];exact J
 ·by_cases c:i=j
  ·subst c;exact absurd (by rw[ao,k8 rfl,k8 f]) (h l')
  ·rw[ZK (aj c)];exact r.emp j λa z=>h a (by rw[ao,k9 c];exact z)
 ·by_cases e:j=i
  ·subst e;rw[l];exact M
  ·rw[ZK e];exact r.nd j c
 ·by_cases e:j=i
  ·subst e;rw[l] at d;exact B q d
  ·rw[ZK e] at d;refine⟨(r.own j c q d).1,?_⟩;have ne:q≠p:=λz=>r.dis j c i (aj e) q d (z▸m);rw[upd_ne ne];exact(r.own j c q d).2
 ·by_cases e:j=i
  ·subst e;rw[l] at d;rw[ZK t];exact y k t q d
  ·rw[ZK e] at d;by_cases A:k=i
   ·subst A;rw[l];exact λz=>y j e q z d
   ·rw[ZK A];exact r.dis j c k t q d
end
noncomputable def Kep(a b:List aH):Prop:=a=b\/a=[]
theorem Kep.refl(a:List aH):Kep a a:=.inl rfl
theorem Kep.trans{a b c:List aH}(h:Kep a b)(k:Kep b c):Kep a c:=by
 rcases h with rfl | h
 ·exact k
 ·exact .inr h
inductive Out where
 | nx (s:ZD) | rt (l:PV) | bk (s:ZD) | ct (s:ZD)
abbrev XS:=ZD->Option Out
noncomputable def OutOk(K:aD)(O W:List Nat)(H0:Hp)(fps:Nat->List aH)(σ:Sf)(D:YF):Out->Prop
 | .nx s'=>∀k4 σ' H',Rel K O H0 k4 s' σ' H'->(∀j,j∉W->σ'[j]?=σ[j]?/\Kep (k4 j) (fps j))->D.nx σ' H'
 | .bk s'=>∀k4 σ' H',Rel K O H0 k4 s' σ' H'->(∀j,j∉W->σ'[j]?=σ[j]?/\Kep (k4 j) (fps j))->D.bk σ' H'
 | .ct s'=>∀k4 σ' H',Rel K O H0 k4 s' σ' H'->(∀j,j∉W->σ'[j]?=σ[j]?/\Kep (k4 j) (fps j))->D.ct σ' H'
 | .rt l=>∀v fp H',Same H0 H'->Is K H' l v fp->fp.Nodup->(∀p∈fp,H0 p=none/\VY (H' p))->D.rt v H'
noncomputable def EB(K:aD)(O W:List Nat)(f:XS):TS:=λD σ H=>∃H0 fps s out,Rel K O H0 fps s σ H/\f s=aA out/\OutOk K O W H0 fps σ D out
noncomputable def VS(X:Cx)(O W:List Nat)(st:b7)(f:XS):Prop:=PS X st (EB X.K O W f)
noncomputable def Kj(X:Cx)(O W:List Nat)(st:List b7)(f:XS):Prop:=PSs X st (EB X.K O W f)
theorem OutOk.same{O W m:List Nat}{o:Hp}{fps c:Nat->List aH}{n f:Sf}{D:YF}{d:Out}(h:OutOk K O m o fps n D d)(k:∀j,j∉m->f[j]?=n[j]?/\Kep (c j) (fps j))(e:∀j,j∉m->j∉W):OutOk K O W o c f D d:=by
 cases d with
 | nx s'=>exact λi b g r q=>h i b g r λj a=>⟨(q j (e j a)).1.trans (k j a).1,(q j (e j a)).2.trans (k j a).2⟩
 | bk s'=>exact λi b g r q=>h i b g r λj a=>⟨(q j (e j a)).1.trans (k j a).1,(q j (e j a)).2.trans (k j a).2⟩
 | ct s'=>exact λi b g r q=>h i b g r λj a=>⟨(q j (e j a)).1.trans (k j a).1,(q j (e j a)).2.trans (k j a).2⟩
 | rt l=>exact h
theorem OutOk.less{O W:List Nat}{j F:Hp}{fps:Nat->List aH}{g:Sf}{D:YF}{b:Out}(h:OutOk K O W j fps g D b)(e:Same j F):OutOk K O W F fps g D b:=by
 cases b with
 | nx s'=>exact λf a c r q=>h f a c (r.less e) q
 | bk s'=>exact λf a c r q=>h f a c (r.less e) q
 | ct s'=>exact λf a c r q=>h f a c (r.less e) q
 | rt l=>exact λv o c m i d n=>h v o c (e.trans m) i d λp k=>⟨Same.off e (n p k).1,(n p k).2⟩
noncomputable def YB:XS:=λs=>aA (.nx s)
noncomputable def Zn(f g:XS):XS:=λs=>(f s).bind λo=>match o with | .nx s'=>g s' | r=>aA r
noncomputable def S6(c:XT)(f g:XS):XS:=λs=>(c s).bind λk=>if k=aC then f s else g s
noncomputable def ZT(f:XE):XS:=λs=>(f s).map .rt
noncomputable def Zs(i:Nat)(f:XE):XS:=λs=>(f s).map λl=>.nx (s.set i (aA l))
section
variable {X:Cx} {O W W1 W2:List Nat} {st:b7} {Yh:List b7} {f g:XS} {pos:di}
theorem PS.imp{t t':TS}(h:PS X st t)(i:∀D a H,t' D a H->t D a H):PS X st t':=λb s a H D I q=>h b s a H D I (i D a H q)
theorem PSs.imp{t t':TS}(h:PSs X Yh t)(i:∀D a H,t' D a H->t D a H):PSs X Yh t':=λb s a H D I q=>h b s a H D I (i D a H q)
theorem K9:∀D a H,EB K O W YB D a H->Gu D a H:=λD a H ⟨c,fps,s,b,r,e,k⟩=>by cases e;exact k fps a H r λj _=>⟨rfl,Kep.refl _⟩
theorem Yu:Kj X O [] [] YB:=PSs.imp Il K9
theorem Zh(h:VS X O W st f):Kj X O W [st] f:=My h
theorem Zd(x:VS X O W1 st f)(w:Kj X O W2 Yh g):Kj X O (W1++W2) (st::Yh) (Zn f g):=PSs.imp (Oc x w) λD B H ⟨t,fps,s,i,r,e,k⟩=>by
 obtain⟨q,u,e⟩:=Ze e;have a:∀j,j∉W1++W2->j∉W1:=λj b z=>b (bR _ z);have h:∀j,j∉W1++W2->j∉W2:=λj b z=>b (aa _ z);refine⟨t,fps,s,q,r,u,?_⟩
 cases q with
 | nx s1=>
  intro d y C A v;exact⟨t,d,s1,i,A,e,k.same (λj b=>v j (a j b)) h⟩
 | bk s1=>cases e;exact λp c o n m=>k p c o n λj b=>m j (a j b)
 | ct s1=>cases e;exact λp c o n m=>k p c o n λj b=>m j (a j b)
 | rt l=>cases e;exact k
theorem Wi{c:au}{a b:List b7}{m:XT}(q:VT X c m)(t:Kj X O W1 a f)(p:Kj X O W2 b g):VS X O (W1++W2) (.If c a b pos) (S6 m f g):=PS.imp (EL q t p) λD u H ⟨n,fps,s,h,r,e,k⟩=>by
 obtain⟨c,o,e⟩:=Ze e;have d:∀j,j∉W1++W2->j∉W1:=λj l z=>l (bR _ z);have i:∀j,j∉W1++W2->j∉W2:=λj l z=>l (aa _ z);refine⟨λ_=>False,s,c,λ_ z=>z.elim,r.env,o,λv s1=>?_⟩
 cases c with
 | true=>
  exact⟨n,fps,s,h,r.grow s1,e,k.same (λj _=>⟨rfl,Kep.refl _⟩) d⟩
 | false=>
  exact⟨n,fps,s,h,r.grow s1,e,k.same (λj _=>⟨rfl,Kep.refl _⟩) i⟩
theorem Zx{e:au}{a:XE}(m:VM X e a):VS X O [] (.Return (aA e) pos) (ZT a):=PS.imp (Nk m) λD o H ⟨q,fps,s,f,r,e,k⟩=>by obtain⟨l,c,rfl⟩:=map_some e;exact⟨s,l,r.env,c,λv h j g i d n=>k v j h (r.same.trans g) i d λp b=>⟨Same.off r.same (n p b).1,(n p b).2⟩⟩
theorem Pe{e:au}{i:Nat}(g:PE X e (RW i))(c:i∈O:=by decide):VS X O [] (.Return (aA e) pos) (ZT (Za i)):=PS.imp (Nk g) λD h H ⟨j,fps,s,f,r,e,k⟩=>by obtain⟨l,d,rfl⟩:=map_some e;obtain⟨v,a,b⟩:=r.is i l (QC d);exact⟨v,a,k v _ H r.same b (r.nd i c) (r.own i c)⟩
theorem ML{t:TE}{i:Nat}{c:XE}(o:∀a H Q,tM K c a H Q->t a H Q):∀D a H,EB K O [i] (Zs i c) D a H->Nl t (Uu i) D a H:=λD a H ⟨u,fps,s,g,r,e,k⟩=>by
 obtain⟨l,f,rfl⟩:=map_some e;refine o a H _ ⟨s,l,r.env,f,λv q w h is d n=>?_⟩;refine k _ _ q ((r.grow h).set is (λ_=>⟨d,λp b=>⟨Same.off r.same (n p b).1,(n p b).2⟩⟩) λj _ _ p b z=>r.dom j p z (n p b).1) λj m=>?_;have:j≠i:=by simpa using m
 exact⟨by rw[ao,k9 (aj this)],.inl (ZK this)⟩
theorem F0{i:Nat}{x:ah}{e:au}{b:XE}{a:di}(j:X.N.Nodup)(f:X.N[i]?=aA x)(c:Ig X.env.scope x)(k:VM X e b)(g:f9 e (aA (.Name x a)) pos.line X.env=pure aB:=by rfl)(d:X.fn x=aC\/X.env.scope.names.lookup x=aA .local:=by first | exact .inl rfl | exact .inr rfl | assumption) :
  VS X O [i] (.Assign [.Name x a] e pos) (Zs i b):=PS.imp (Fi j f c k g d) (ML λ_ _ _ h=>h)
end
noncomputable def Vd(T:Tgt)(fb:XS):List PV->ZD->Option Out
 | [],s=>aA (.nx s)
 | l::r,s=>(YU T l s).bind λs1=>(fb s1).bind λo=>match o with | .nx s2=>Vd T fb r s2 | .ct s2=>Vd T fb r s2 | .bk s2=>aA (.nx s2) | .rt v=>aA (.rt v)
noncomputable def YD(O:List Nat)(fi:XL)(T:Tgt)(fb:XS):XS:=λs=>(fi (Yo O s)).bind λls=>Vd T fb ls s
theorem Rel.setAll{O:List Nat}{m H:Hp}:∀{is:List Nat}{ls:List PV}{vs:List V}{fs:List aH}{fps:Nat->List aH}{s:ZD}{σ:Sf},Rel K O m fps s σ H->Iss K H ls vs fs->ls.length=is.length->(∀i∈is,i∉O)->(∀i∈O,∀p∈fps i,p∉fs)->
  ∃k,Rel K O m k (VL.setAll is ls s) (Yt is vs σ) H/\∀j,j∉is->(Yt is vs σ)[j]?=σ[j]?/\Kep (k j) (fps j)
 | [],ls,vs,fs,fps,s,σ,r,_,_,_,_=>⟨fps,by unfold VL.setAll Yt;exact r,λj _=>⟨by unfold Yt;rfl,Kep.refl _⟩⟩
 | i::is,[],vs,fs,fps,s,σ,r,_,hl,_,_=>by simp at hl
 | i::is,l::ls,vs,fs,fps,s,σ,r,hi,hl,hO,hd=>by
  obtain⟨x,v,f1,f2,rfl,q,o,rfl⟩:=hi.inv;have g:=hO i a9
  have u:=r.set (i:=i) q (λz=>absurd z g) λj f c p h z=>by
   rcases c with c | c
   ·exact hd j c p z (bR _ h)
   ·exact absurd c g
  obtain⟨k,n,t⟩:=Rel.setAll (is:=is) u o (by simpa using hl) (λj f=>hO j (aW _ f)) λj f p h z=>by have d:j≠i:=λe=>g (by rw[<-e];exact f);rw[ZK d] at h;exact hd j f p h (aa _ z)
  refine⟨k,n,λj f=>?_⟩;have d:j≠i:=λe=>f (e▸a9);obtain⟨a,b⟩:=t j (λz=>f (aW _ z));exact⟨a.trans (by rw[ao,k9 (aj d)]),b.trans (.inl (ZK d))⟩
section
variable {O W:List Nat} {T:Tgt} {fb:XS}
theorem Ja{E:Hp}{fps:Nat->List aH}{s:ZD}{H:Sf}{D:YF}{J:It}{ls:List PV}{u:Out}(r:Rel K O (Vc E (Ow O fps)) fps s H E)(G:CB K (Ow O fps) E J ls)(e:Vd T fb ls s=aA u)(hT:∀i∈T.slots,i∉O)
  (k:OutOk K O (T.slots++W) (Vc E (Ow O fps)) fps H D u):Cv (gT K T) (EB K O W fb) D H J E:=by
 have w:∀j,j∉T.slots++W->j∉T.slots:=λj a z=>a (bR _ z);have c:∀j,j∉T.slots++W->j∉W:=λj a z=>a (aa _ z)
 refine⟨λi m t I=>m=ls.length-i/\i<=ls.length/\∃S Y,Rel K O (Vc E (Ow O fps)) S Y t I/\Vd T fb (ls.drop i) Y=aA u/\∀j,j∉T.slots++W->t[j]?=H[j]?/\Kep (S j) (fps j),
  ⟨ls.length,by simp,bq _,fps,s,r,e,λj _=>⟨rfl,Kep.refl _⟩⟩,?_⟩
 rintro i m t I ⟨rfl,hi,S,Y,R,g,Z⟩;have ab:=λb o h n=>R.same b o (by unfold Vc;rw[k9 n];exact h)
 cases q:ls.drop i with
 | nil=>
  have hil:i=ls.length:=by have:=congrArg fK q;simp at this;omega
  subst hil;rw[q] at g;cases g;exact .inl ⟨G.stop I ab,k S t I R Z⟩
 | cons l rr=>
  obtain⟨hl,hr⟩:=S4 q;have P:=(aV.mp hl).1;rw[q] at g;obtain⟨sb,eb,g⟩:=Ze g;obtain⟨o,eo,g⟩:=Ze g
  refine .inr ⟨G.go I i l ab hl,λC U=>∃fps2 s2,Rel K O (Vc E (Ow O fps)) fps2 s2 C U/\Vd T fb (ls.drop (i+1)) s2=aA u/\∀j,j∉T.slots++W->C[j]?=H[j]?/\Kep (fps2 j) (fps j),
   λC U h2=>⟨ls.length-(i+1),by omega,rfl,P,h2⟩,λx U y=>?_⟩
  obtain⟨s2,fx,ix,nx⟩:=G.yld I i l x U ab hl y;obtain⟨bl,bv,bf,rfl,bi,L,M,Q⟩:=NM ix eb;obtain⟨A,r3,q3⟩:=Rel.setAll (R.grow s2) bi L hT λj a p hp z=>by obtain⟨n1,n2⟩:=nx p (M p z);have:=(R.own j a p hp).1;unfold Vc at this;rw[k9 n2] at this;exact n1 this
  refine Q _ _ ⟨_,A,_,o,r3,eo,?_⟩;have d:∀j,j∉T.slots++W->(Yt T.slots bv t)[j]?=H[j]?/\Kep (A j) (fps j):=λj a=>⟨(q3 j (w j a)).1.trans (Z j a).1,(q3 j (w j a)).2.trans (Z j a).2⟩
  cases o with
  | nx s4=>exact λf F X N B=>⟨f,s4,N,by rw[hr];exact g,λj a=>⟨(B j (c j a)).1.trans (d j a).1,(B j (c j a)).2.trans (d j a).2⟩⟩
  | ct s4=>exact λf F X N B=>⟨f,s4,N,by rw[hr];exact g,λj a=>⟨(B j (c j a)).1.trans (d j a).1,(B j (c j a)).2.trans (d j a).2⟩⟩
  | bk s4=>
   cases g;exact λf F X N B=>k f F X N λj a=>⟨(B j (c j a)).1.trans (d j a).1,(B j (c j a)).2.trans (d j a).2⟩
  | rt v=>
   cases g;exact k
end
section
variable {X:Cx} {O W:List Nat} {tg iter:au} {body:List b7} {fi:XL} {T:Tgt} {fb:XS} {pos:di}
theorem F1(j:iV (model X.prog X.w) X.A X.env X.xe)(h:X.calm=aC)(l:VI X tg iter fi)(m:PG X tg (gT X.K T))(g:Kj X O W body fb)(d:∀i∈T.slots,i∉O:=by decide)
  (f:∀x,bT iter X.env x=pure x:=by intro _;rfl):VS X O (T.slots++W) (.For tg iter body [] pos) (YD O fi T fb):=PS.imp (Fm j h l m g f) λD n H ⟨p,fps,s,c,r,e,k⟩=>by
 obtain⟨ls,b,e⟩:=Ze e;refine⟨Ow O fps,Yo O s,ls,r.owMut,r.envO,b,λJ o s1 a=>?_⟩;exact Ja (r.grow s1).frame a e d (k.less (r.grow s1).under)
end
noncomputable def YE(c:XT)(fb:XS):Nat->ZD->Option Out
 | 0,_=>none
 | n+1,s=>(c s).bind λk=>if k=aC then(fb s).bind λo=>match o with | .nx s2=>YE c fb n s2 | .ct s2=>YE c fb n s2 | .bk s2=>aA (.nx s2) | .rt v=>aA (.rt v) else aA (.nx s)
theorem Vk{c:XT}{fb:XS}:∀{n:Nat}{s:ZD}{o:Out},YE c fb n s=aA o->YE c fb (n+1) s=aA o
 | 0,_,_,h=>by cases h
 | n+1,s,o,h=>by
  unfold YE at h ⊢;obtain⟨k,a,h⟩:=Ze h;rw[a]
  cases k with
  | false=>exact h
  | true=>
   rw[k8 rfl] at h;obtain⟨d,b,h⟩:=Ze h;simp only[aY,if_true,b]
   cases d with
   | nx s2=>exact Vk h
   | ct s2=>exact Vk h
   | bk s2=>exact h
   | rt v=>exact h
theorem QG{c:XT}{fb:XS}{n m:Nat}{s:ZD}{o:Out}(h:YE c fb n s=aA o)(a:n<=m):YE c fb m s=aA o:=by
 induction m with
 | zero=>
  have:n=0:=by omega
  subst this;exact h
 | succ m ih=>
  by_cases e:n=m+1
  ·subst e;exact h
  ·exact Vk (ih (by omega))
open Classical in
noncomputable def X4(c:XT)(fb:XS):XS:=λs=>if h:∃n,(YE c fb n s).isSome=aC then YE c fb h.choose s else none
theorem LH{c:XT}{fb:XS}{n:Nat}{s:ZD}{o:Out}(h:YE c fb n s=aA o):X4 c fb s=aA o:=by
 have a:∃n,(YE c fb n s).isSome=aC:=⟨n,by rw[h];rfl⟩;unfold X4;rw[dif_pos a];obtain⟨d,e⟩:=bZ.mp a.choose_spec;rw[e];rcases Nat.le_total n a.choose with b | b
 ·rw[QG h b] at e;exact e.symm
 ·rw[QG e b] at h;exact h
section
variable {X:Cx} {O W:List Nat} {c:au} {body:List b7} {fc:XT} {fb:XS} {pos:di}
theorem S7(L:iV (model X.prog X.w) X.A X.env X.xe)(I:VT X c fc)(G:Kj X O W body fb):VS X O W (.While c body [] pos) (X4 fc fb):=PS.imp (Kq L I G) λD C H ⟨A,fps,s,q,r,e,k⟩=>by
 unfold X4 at e;split at e
 case isFalse=>cases e
 rename_i M;generalize M.choose=n at e;refine⟨λm g E=>∃w u,Rel X.K O A w u g E/\YE fc fb m u=aA q/\∀j,j∉W->g[j]?=C[j]?/\Kep (w j) (fps j),⟨n,fps,s,r,e,λj _=>⟨rfl,Kep.refl _⟩⟩,?_⟩;rintro m g E ⟨w,u,B,f,p⟩
 cases m with
 | zero=>cases f
 | succ m=>
  obtain⟨b,F,f⟩:=Ze f;refine⟨λ_=>False,u,b,λ_ z=>z.elim,B.env,F,λx s2=>?_⟩
  cases b with
  | false=>
   cases f;exact k w g x (B.grow s2) p
  | true=>
   obtain⟨o,N,f⟩:=Ze f;refine⟨λi x=>∃fps2 s2,Rel X.K O A fps2 s2 i x/\YE fc fb m s2=aA q/\∀j,j∉W->i[j]?=C[j]?/\Kep (fps2 j) (fps j),λi x J=>⟨m,g9 m,J⟩,A,w,u,o,B.grow s2,N,?_⟩
   cases o with
   | nx s4=>exact λa l y t h=>⟨a,s4,t,f,λj d=>⟨(h j d).1.trans (p j d).1,(h j d).2.trans (p j d).2⟩⟩
   | ct s4=>exact λa l y t h=>⟨a,s4,t,f,λj d=>⟨(h j d).1.trans (p j d).1,(h j d).2.trans (p j d).2⟩⟩
   | bk s4=>
    cases f;exact λa l y t h=>k a l y t λj d=>⟨(h j d).1.trans (p j d).1,(h j d).2.trans (p j d).2⟩
   | rt v=>cases f;exact k
end
end VL
namespace VL
open PySem PySem.Spec PyProof.Rows L2
variable {K:aD}
section
variable {O:List Nat} {H0 H H':Hp} {fps:Nat->List aH} {s:ZD} {σ:Sf}
theorem Rel.lst_at(r:Rel K O H0 fps s σ H){i:Nat}(j:i∈O){m:List PV}(e:s[i]?=aA (aA (.lst m))):∃p c d,σ[i]?=aA (aA (.ref p))/\H p=aA (.lst c)/\Iss K H m c d/\fps i=p::d:=by obtain⟨v,a,b⟩:=r.is i _ e;obtain⟨p,c,d,rfl,f,g,h⟩:=b.lst_inv;exact⟨p,c,d,a,f,g,h⟩
theorem Tj{b:Type}{l:List b}{i:Nat}{a:b}(h:l[i]?=aA a):i<l.length:=(aV.mp h).1
theorem TK.upd'{p:aH}{o:HO}(a:VY (H p)):IT H (L2.upd H p o):=⟨λb c h=>by
 rw[upd_ne (λz=>by rw[z] at h;rw[h] at a;exact a)];exact h,λb o c h=>by
 rw[upd_ne (λz=>by rw[z] at h;rw[h] at a;exact a)];exact h,λb o x h=>by
 rw[upd_ne (λz=>by rw[z] at h;rw[h] at a;exact a)];exact h⟩
theorem RdK.upd_ne{p q:aH}{o:HO}(ne:q≠p):RdK H (L2.upd H p o) q:=RdK.of λu a=>by rw[L2.upd_ne ne];exact a
theorem Rel.relist(r:Rel K O H0 fps s σ H){i:Nat}(c:i∈O){m k:List PV}(e:s[i]?=aA (aA (.lst m))){p:aH}{l b:List aH}{d:List V}(g:fps i=p::l)(x:σ[i]?=aA (aA (.ref p)))
  (w:Iss K H k d b) (t:(p::b).Nodup) (u:∀q∈b,q∈l\/((H0 q=none/\VY (H q))/\∀j,q∉fps j)):Rel K O H0 (UC fps s.length i (p::b)) (s.set i (aA (.lst k))) σ (L2.upd H p (.lst d)):=by
 have f:p∈fps i:=by rw[g];exact a9
 have v:=(r.own i c p f).2;have n:=(bP.mp t).1;refine r.mutate c f x (Tj e) (Is.lst Zq (Iss.tr (TK.upd' v) _ _ _ (λq a=>RdK.upd_ne λz=>n (z▸a)) w)) t (λq a=>?_) (λj o q a z=>?_) cY
 ·rcases af.mp a with rfl | a
  ·exact⟨(r.own i c q f).1,by rw[Zq];exact cY⟩
  ·have ne:q≠p:=λz=>n (z▸a);rw[L2.upd_ne ne];rcases u q a with h | h
   ·exact r.own i c q (by rw[g];exact aW _ h)
   ·exact h.1
 ·rcases af.mp a with rfl | a
  ·exact r.dis i c j o q f z
  ·rcases u q a with h | h
   ·exact r.dis i c j o q (by rw[g];exact aW _ h) z
   ·exact h.2 j z
end
noncomputable def Jb(s:ZD)(i:Nat):Option (List PV):=match s[i]? with | some (aA (.lst m))=>aA m | _=>none
noncomputable def Kk:PV->Option Int
 | .int k=>aA k
 | _=>none
noncomputable def DR:PV->Option (List PV)
 | .lst k=>aA k
 | _=>none
theorem UD{s:ZD}{i:Nat}{m:List PV}(h:Jb s i=aA m):s[i]?=aA (aA (.lst m)):=by
 unfold Jb at h;split at h
 ·cases h;assumption
 ·cases h
theorem UE{a:PV}{k:Int}(h:Kk a=aA k):a = .int k:=by
 unfold Kk at h;split at h
 ·cases h;rfl
 ·cases h
theorem Jc{a:PV}{k:List PV}(h:DR a=aA k):a = .lst k:=by
 unfold DR at h;split at h
 ·cases h;rfl
 ·cases h
noncomputable def gd(c:Bool):Option Unit:=if c=aC then aA () else none
theorem Sr{c:Bool}{u:Unit}(h:gd c=aA u):c=aC:=by
 unfold gd at h;split at h
 ·assumption
 ·cases h
noncomputable def UG(i:Nat)(f:XE):XS:=λs=>(f s).bind λl=>(Jb s i).bind λm=>(gd (decide (m.length<=10000))).bind λ_=>aA (.nx (s.set i (aA (.lst (m++[l])))))
noncomputable def UH(i:Nat)(fk:XE)(f:XE):XS:=λs=>(fk s).bind λk=>(f s).bind λl=>(Kk k).bind λk=>(Jb s i).bind λm=>(gd (ZC m&&ZQ l&&decide (0<=k/\k<=1000000/\m.length<=10000))).bind λ_=>aA (.nx (s.set i (aA (.lst (m.take k.toNat++l::m.drop k.toNat)))))
noncomputable def YZ(i:Nat)(fk:XE)(f:XE):XS:=λs=>(f s).bind λl=>(fk s).bind λk=>(Kk k).bind λk=>(Jb s i).bind λm=>(gd (ZC m&&ZQ l)).bind λ_=>(Nj m.length k).map λj=>.nx (s.set i (aA (.lst (m.set j l))))
section
variable {X:Cx} {O:List Nat} {i:Nat} {st:b7} {f fk:XE}
theorem C2{H:Hp}{p:aH}{a:List V}(h:H p=aA (.lst a)):Co K "list" (.ref p) H:=.inl ⟨rfl,_,SqL.of h⟩
theorem MM{s:ZD}{a:Sf}{fps:Nat->List aH}{b:List aH}:∀j,j∉[i]->a[j]?=a[j]?/\Kep (UC fps s.length i b j) (fps j):=λj c=>⟨rfl,.inl (ZK (by simpa using c))⟩
theorem LI(h:PS X st (Mz (Cp X.K "list" MD (RW i) (SI (tM X.K f) Iv))))(o:i∈O:=by decide):VS X O [i] st (UG i f):=PS.imp h λD M H ⟨Q,fps,s,B,r,e,k⟩=>by
 obtain⟨l,A,e⟩:=Ze e;obtain⟨m,c,e⟩:=Ze e;obtain⟨_,F,e⟩:=Ze e;have c:=UD c;have u:=of_decide_eq_true (Sr F);cases e;obtain⟨p,I,N,w,v,t,d⟩:=r.lst_at o c;refine⟨.ref p,w,C2 v,s,l,r.env,A,λy R P s2 J G n=>?_⟩;refine⟨p,I,y,rfl,rfl,s2 _ _ v,by rw[t.len];exact lt_size (by omega),?_⟩;have C:=r.grow s2;have fr:=λq g j z=>r.dom j q z (n q g).1;refine k _ _ _ (C.relist o c d w ((t.mono s2).append (Iss.one J)) ?_ λq g=>?_) MM
 ·have x:=r.nd i o;rw[d] at x;exact gU.mpr ⟨x,G,λa L b E z=>fr b E i (by rw[d,<-z];exact L)⟩
 ·rcases bb.mp g with h | h
  ·exact .inl h
  ·exact .inr ⟨⟨Same.off r.same (n q h).1,(n q h).2⟩,fr q h⟩
theorem Iss.pureEq{H:Hp}{l:List PV}{a:List V}{c:List aH}(h:Iss K H l a c)(b:ZC l=aC):Iss K H l a []:=by have:=Iss.pure _ _ _ b h;subst this;exact h
theorem NN{l:List PV}(n:Nat)(h:ZC l=aC):ZC (l.take n)=aC:=by rw[YW,aq] at *;exact λx a=>h x (iQ a)
theorem NO{l:List PV}(n:Nat)(h:ZC l=aC):ZC (l.drop n)=aC:=by rw[YW,aq] at *;exact λx a=>h x (List.mem_of_mem_drop a)
theorem LJ(h:PS X st (Mz (Cp X.K "list" ME (RW i) (SI (tF X.K fk) (SI (tF X.K f) Iv)))))(A:i∈O:=by decide):VS X O [i] st (UH i fk f):=PS.imp h λD Q H ⟨U,fps,s,E,r,e,k⟩=>by obtain⟨kk,t,e⟩:=Ze e;obtain⟨l,C,e⟩:=Ze e;obtain⟨n,N,e⟩:=Ze e;obtain⟨m,c,e⟩:=Ze e;obtain⟨_,I,e⟩:=Ze e;rw[UE N] at t;have c:=UD c;have u:=Sr I;simp only[bW,decide_eq_true_eq] at u;obtain⟨⟨d,J⟩,P,Y,v⟩:=u;cases e;obtain⟨p,L,R,x,w,o,G⟩:=r.lst_at A c;refine⟨.ref p,x,C2 w,λ_=>False,s,_,λ_ z=>z.elim,r.env,t,λz S W s1 F _=>⟨λ_=>False,s,l,λ_ z=>z.elim,r.env.mono s1,C,λy Z T s2 B _=>?_⟩⟩;have a:=s1.trans s2;obtain⟨rfl,_⟩:=F.int_inv;have:=Is.pure _ _ _ J B;subst this;refine⟨p,L,n,y,rfl,rfl,a _ _ w,P,by omega,by rw[o.len];exact lt_size (by omega),?_⟩;have b:=(o.mono a).pureEq d;obtain⟨f1,g,_⟩:=b.take n.toNat;obtain⟨f2,j,_⟩:=b.drop n.toNat;have g:=g.pureEq (NN _ d);have j:=j.pureEq (NO _ d);exact k _ _ _ ((r.grow a).relist A c G x (g.append (Iss.cons B j)) (by simp) λq M=>by simp at M) MM
theorem Wj(h:PS X st (Nl (tF X.K f) (Fh (RW i) (tF X.K fk) KA)))(v:i∈O:=by decide):VS X O [i] st (YZ i fk f):=PS.imp h λD M H ⟨Q,fps,s,w,r,e,k⟩=>by obtain⟨l,B,e⟩:=Ze e;obtain⟨kk,d,e⟩:=Ze e;obtain⟨J,F,e⟩:=Ze e;obtain⟨m,b,e⟩:=Ze e;obtain⟨_,A,e⟩:=Ze e;rw[UE F] at d;have b:=UD b;have o:=Sr A;simp only[bW] at o;obtain⟨g,t⟩:=o;obtain⟨j,L,rfl⟩:=map_some e;obtain⟨p,C,N,u,G,c,x⟩:=r.lst_at v b;refine⟨λ_=>False,s,l,λ_ z=>z.elim,r.env,B,λy P T s1 n _=>?_⟩;refine⟨.ref p,u,λ_=>False,s,_,λ_ z=>z.elim,r.env.mono s1,d,λz S R s2 I _=>?_⟩;have a:=s1.trans s2;obtain⟨rfl,_⟩:=I.int_inv;have:=Is.pure _ _ _ t n;subst this;refine⟨p,C,J,j,rfl,rfl,a _ _ G,by rw[c.len];exact L,?_⟩;exact k _ _ _ ((r.grow a).relist v b x u (Iss.setP j g t ((c.mono a).pureEq g) (n.mono s2)) (by simp) λq E=>by simp at E) MM
end
theorem Iss.setRow{H:Hp}{o:List V}:∀{m:List PV}{xs:List V}{fq:List aH}{j:Nat}{n n':List PV}{q:aH},Iss K H m xs fq->m[j]?=aA (.lst n)->xs[j]?=aA (.ref q)->fq.Nodup->VY (H q)->ZC n=aC->Iss K (L2.upd H q (.lst o)) n' o []->
  Iss K (L2.upd H q (.lst o)) (m.set j (.lst n')) xs fq
 | [],_,_,_,_,_,_,_,e,_,_,_,_,_=>by simp at e
 | a::m,xs,fq,0,n,n',q,h,e,ex,nd,mu,pn,h'=>by obtain⟨x,r,f1,f2,rfl,g,d,rfl⟩:=h.inv;simp at e ex;subst e ex;obtain⟨u,v,t,e,A,b,rfl⟩:=g.lst_inv;cases e;have:=Iss.pure _ _ _ pn b;subst this;have f:q∉f2:=(bP.mp nd).1;exact Iss.cons (Is.lst Zq h') (Iss.tr (TK.upd' mu) _ _ _ (λz b=>RdK.upd_ne λe=>f (e▸b)) d)
 | a::m,xs,fq,j+1,n,n',q,h,e,ex,nd,mu,pn,h'=>by obtain⟨x,r,f1,f2,rfl,g,d,rfl⟩:=h.inv;simp at e ex;obtain⟨w,k,i⟩:=gU.mp nd;obtain⟨y,B,l,s,c⟩:=d.get e;rw[ex] at l;cases l;obtain⟨u,v,t,p,_,_,rfl⟩:=s.lst_inv;cases p;have f:q∉f1:=λz=>i q z q (c q a9) rfl;exact Iss.cons (Is.tr (TK.upd' mu) _ _ _ (λz b=>RdK.upd_ne λe=>f (e▸b)) g) (Iss.setRow d e ex k mu pn h')
noncomputable def WA(i:Nat)(fa fb:XE)(f:XE):XS:=λs=>(f s).bind λl=>(fa s).bind λa=>(fb s).bind λb=>(Kk a).bind λa=>(Kk b).bind λb=>(Jb s i).bind λm=>(Nj m.length a).bind λj=>(m[j]?).bind λr=>(DR r).bind λn=>
 (gd (ZC n&&ZQ l)).bind λ_=>(Nj n.length b).map λc=>.nx (s.set i (aA (.lst (m.set j (.lst (n.set c l))))))
end VL
namespace VL
open PySem PySem.Spec PyProof.Rows L2
variable {K:aD}
section
variable {X:Cx} {a b c d:au} {fa fb fc fd:XE} {pos:di}
theorem MN(d:X.A.units+64<i7)(e:VE X a fa)(c:VE X b fb):VE X (.Compare a [.Eq] [b] pos) (Zi (VB aB) fa fb):=KJ (K6 d) (Q8 aB) e c (U6 _)
theorem Dt(d:X.A.units+64<i7)(e:VE X a fa)(c:VE X b fb):VE X (.Compare a [.NotEq] [b] pos) (Zi (VB aC) fa fb):=KJ (K7 d) (Q8 aC) e c (U6 _)
theorem V0(d:X.A.units+64<i7)(e:VE X a fa)(c:VE X b fb):VT X (.Compare a [.Eq] [b] pos) (xB (Zi (VB aB) fa fb)):=Q4 (K6 d) (Q8 aB) e c (U6 _)
theorem Jd(d:X.A.units+64<i7)(e:VE X a fa)(c:VE X b fb):VT X (.Compare a [.NotEq] [b] pos) (xB (Zi (VB aC) fa fb)):=Q4 (K7 d) (Q8 aC) e c (U6 _)
noncomputable def C3:PV->Option Bool
 | .bl c=>aA c
 | _=>none
end
section
variable {X:Cx} {a b:au} {fa fb:XE} {pos:di}
noncomputable def gCat:PV->PV->Option PV
 | .lst m,.lst n=>if m.length+n.length<=10000 then aA (.lst (m++n)) else none
 | _,_=>none
noncomputable def S8:PV->PV->Option PV
 | .lst m,.lst n=>if m.length+n.length<=10000/\ZC m=aC/\ZC n=aC then aA (.lst (m++n)) else none
 | _,_=>none
theorem Pf(G:VE X a fa)(w:VE X b fb):VM X (.BinOp a .Add b pos) (Zi S8 fa fb):=PE.imp (Ks FF G w) λI H Q ⟨s,l,env,e,k⟩=>by
 obtain⟨h,i,t,D,e⟩:=SU e;refine⟨λ_=>False,s,h,λ_ z=>z.elim,env,t,λx L f1 s1 o _=>⟨λ_=>False,s,i,λ_ z=>z.elim,env.mono s1,D,λy M f2 s2 F _=>?_⟩⟩
 cases h with
 | lst m=>cases i with
  | lst n=>
   have e:(if m.length+n.length<=10000/\ZC m=aC/\ZC n=aC then aA (PV.lst (m++n)) else none)=aA l:=e;split at e
   case isFalse=>cases e
   rename_i g;cases e;obtain⟨p,B,J,rfl,E,j,rfl⟩:=o.lst_inv;obtain⟨C,u,A,rfl,d,c,rfl⟩:=F.lst_inv;refine⟨p,C,B,u,rfl,rfl,s2 _ _ E,d,by rw[j.len,c.len];exact cP (lt_size g.1),λq f=>?_⟩;refine k _ _ [q] (s1.trans (s2.trans (Same.new f _))) (Is.lst Zq ((((j.mono s2).pureEq g.2.1).append (c.pureEq g.2.2)).mono (Same.new f _))) (by simp) λr v=>?_;rw[aw.mp v];exact⟨Same.off (s1.trans s2) f,by rw[Zq];exact cY⟩
  | _=>cases e
 | _=>cases e
noncomputable def OE:PV->PV->Option PV
 | .lst m,.int k=>if ZC m=aC/\-1000000<=k/\k<=1000000/\m.length*k.toNat<=10000 then aA (.lst (aU k.toNat m).flatten) else none
 | _,_=>none
theorem Iss.rep{H:Hp}{m:List PV}{a:List V}(h:Iss K H m a []):∀k:Nat,Iss K H (aU k m).flatten (aU k a).flatten []
 | 0=>Iss.nil
 | k+1=>by rw[cy,cy,df,df];exact h.append (Iss.rep h k)
theorem Je(B:VE X a fa)(t:VE X b fb):VM X (.BinOp a .Mult b pos) (Zi OE fa fb):=PE.imp (Ks FG B t) λC H Q ⟨s,l,env,e,k⟩=>by
 obtain⟨d,f,j,v,e⟩:=SU e;refine⟨λ_=>False,s,d,λ_ z=>z.elim,env,j,λx E f1 s1 i _=>⟨λ_=>False,s,f,λ_ z=>z.elim,env.mono s1,v,λy F f2 s2 A _=>?_⟩⟩
 cases d with
 | lst m=>cases f with
  | int n=>
   have e:(if ZC m=aC/\-1000000<=n/\n<=1000000/\m.length*n.toNat<=10000 then aA (PV.lst (aU n.toNat m).flatten) else none)=aA l:=e;split at e
   case isFalse=>cases e
   rename_i g;cases e;obtain⟨p,u,D,rfl,w,h,rfl⟩:=i.lst_inv;refine⟨p,n,u,rfl,A.int_inv.1,s2 _ _ w,by omega,by omega,by rw[h.len];exact cP (lt_size g.2.2.2),λq c=>?_⟩;refine k _ _ [q] (s1.trans (s2.trans (Same.new c _))) (Is.lst Zq ((Iss.rep ((h.mono s2).pureEq g.1) n.toNat).mono (Same.new c _))) (by simp) λr o=>?_;rw[aw.mp o];exact⟨Same.off (s1.trans s2) c,by rw[Zq];exact cY⟩
  | _=>cases e
 | _=>cases e
end
theorem Iss.fps{H:Hp}:∀{ls:List PV}{vs:List V}{fp:List aH},Iss K H ls vs fp->∃fps:Nat->List aH,(∀(i:Nat) l,ls[i]?=aA l->∃v,vs[i]?=aA v/\Is K H l v (fps i))/\∀i,ls.length<=i->fps i=[]
 | [],vs,fp,h=>⟨λ_=>[],λi l e=>by simp at e,λ_ _=>rfl⟩
 | a::ls,vs,fp,h=>by
  obtain⟨x,r,f1,f2,rfl,f,d,rfl⟩:=h.inv;obtain⟨fps,g,p2⟩:=d.fps;refine⟨λi=>match i with | 0=>f1 | k+1=>fps k,λi l e=>?_,λi c=>?_⟩
  ·cases i with
   | zero=>simp at e;subst e;exact⟨x,rfl,f⟩
   | succ k=>
    obtain⟨v,a,b⟩:=g k l (by simpa using e);exact⟨v,by simpa using a,b⟩
  ·cases i with
   | zero=>simp at c
   | succ k=>exact p2 k (by simpa using c)
noncomputable def ZL(m:Nat)(ls:List PV):ZD:=ls.map aA++aU (m-ls.length) none
noncomputable def NP:Out->Option PV
 | .rt v=>aA v
 | .nx _=>aA .non
 | _=>none
noncomputable def YL(m:Nat)(f:XS):List PV->Option PV:=λls=>(f (ZL m ls)).bind NP
theorem MO{N:List ah}{n:Nat}{O W:List Nat}{f:XS}{vs:List V}{H:Hp}{Q:VK}{E:XK}(w:∀i∈O,n<=i)(h:Y6 K (YL N.length f) n vs H Q E):EB K O W f { nx:=λ_ s=>Q .non s,rt:=Q } (L2.start N vs) H:=by
 obtain⟨L,ls,y,l,g,e,q⟩:=h;obtain⟨o,A,t⟩:=Ze e;obtain⟨fps,C,p2⟩:=g.fps;have k:=g.len
 have r:∀i:Nat,ls.length<=i->∀l,(ZL N.length ls)[i]?≠aA (aA l):=λi g l z=>by
  unfold ZL at z;rw[bK (by simpa using g),b6] at z;split at z<;>cases z
 have u:Rel K O H fps (ZL N.length ls) (L2.start N vs) H:=by
  refine⟨Same.refl H,?_,λi a z=>?_,λi x=>?_,λi g=>?_,λi g p m=>?_,λi g j J p m=>?_⟩
  ·unfold ZL L2.start;simp[k]
  ·by_cases c:i<ls.length
   ·unfold ZL at z;rw[ar (by simpa using c),aQ] at z
    cases q:ls[i]? with
    | none=>rw[q] at z;cases z
    | some b=>
     rw[q] at z;cases z;obtain⟨v,G,D⟩:=C i a q;refine⟨v,?_,D⟩;unfold L2.start;rw[ar (by simpa [k] using c),aQ,G];rfl
   ·exact absurd z (r i (by omega) a)
  ·by_cases c:i<ls.length
   ·exact absurd (by unfold ZL;rw[ar (by simpa using c),aQ,aN c];rfl) (x ls[i])
   ·exact p2 i (by omega)
  ·rw[p2 i (by have:=w i g;omega)];exact cp
  ·rw[p2 i (by have:=w i g;omega)] at m;simp at m
  ·rw[p2 i (by have:=w i g;omega)] at m;simp at m
 refine⟨H,fps,ZL N.length ls,o,u,A,?_⟩
 cases o with
 | nx s'=>
  cases t;exact λM B s I _=>q .non s [] I.same Is.non cp λp m=>by simp at m
 | rt v=>
  cases t;exact λv y s F i d n=>q v s y F i d n
 | bk s'=>cases t
 | ct s'=>cases t
section
variable {P:bM} {w:bz} {mg:ah->Option aF} {base:bU}
theorem Pg{x:ah}{st:b7}{N d:List ah}{k n:Nat}{O W:List Nat}(m:Nat)(f:XS)(D:Def K mg x st)(S:Zl N d (Zg st))
  (p:∀(kV doc pm:aF)(an:Option aH)(b ct:aF)(us:List aF),us.length=d.length->gD (cG x x (YN st) (Yc st) (Zg st) .none kV doc pm an b ct) ⟨us,[]⟩=pure (d.zip us))
  (l:d.length=n) (g:N.length=m) (o:∀i∈O,n<=i)
  (c:∀(e:aH)(b:aF)(A:bj)(a:List jQ)(s:aL)(H:Hp)(E:XK),Room k (A.deeper (fI x (Zg st) s.heap.objs.size e b))->Kj (SK Nw P w K mg base N x (Zg st) e b A a s H E).nox O W (Yc st) f) :
  Xl P w K mg base x d (Y6 K (YL m f) n) (k+1):=by
 subst g;refine D.cal S p (λvs H Q E h=>by rw[l];exact h.1) λe b A a s H vs Q E j h=>⟨_,c e b A a s H E j,MO o h⟩
end
end VL
namespace VL
open PySem PySem.Spec PyProof.Rows L2
variable {K:aD}
section
variable {X:Cx} {O:List Nat} {tg k6 iter:au} {k5:List au} {scope:dA} {pos:di} {fi:XL} {T:Tgt} {ft:XT} {fe:XE}
theorem Y7(own fr:List ah)(ix:List Nat){i:Nat}{y:ah}{f b:di}(l:X.N.Nodup)(n:X.N[i]?=aA y)(d:X.env.scope.names.lookup y=aA .local)(c:X.calm=aC)(k:VI X tg iter fi)(S:Vi X.N X.env.scope scope own fr ix=aC)
  (m:∀cl C s H a,PG (ZA X (own++fr) scope cl C s H a) tg (gT X.K T)) (j:∀cl C s H a,EA (ZA X (own++fr) scope cl C s H a) k5 ft) (o:∀cl C s H a,VM (ZA X (own++fr) scope cl C s H a) k6 fe)
  (g:∀i∈T.slots,i<own.length:=by decide)
  (e:f9 (.ListComp k6 [⟨tg,iter,k5,0⟩] scope pos) (aA (.Name y f)) b.line X.env=pure aC:=by rfl)
  (h:∀x,bT iter X.env x=pure x:=by intro _;rfl):VS X O [i] (.Assign [.Name y f] (.ListComp k6 [⟨tg,iter,k5,0⟩] scope pos) b) (Zs i (Zt own.length ix fi T ft fe)):=
 PS.imp (KH own fr ix l n d c k S m (λcl C s H a=>(show Nx (ZA X (own++fr) scope cl C s H a) k5 (Ot X.K ft) from j cl C s H a)) (λcl C s H a=>(show PE (ZA X (own++fr) scope cl C s H a) k6 (tM X.K fe) from o cl C s H a)) e h) (ML (Pc g))
end
section
variable {P:bM} {w:bz} {mg:ah->Option aF} {base:bU}
theorem F2{x:ah}{st:b7}{N e:List ah}{k n:Nat}{O W:List Nat}{d:aH}{g:dP}(m:Nat)(f:XS)(F:Fun K x x st d g)(S:Zl N e (Zg st))
  (o:e.length=n) (j:N.length=m) (p:∀i∈O,n<=i)
  (c:∀(d:aH)(b:aF)(A:bj)(a:List jQ)(s:aL)(H:Hp)(E:XK),Room k (A.deeper (fI x (Zg st) s.heap.objs.size d b))->Kj (SK Nw P w K mg base N x (Zg st) d b A a s H E).nox O W (Yc st) f) :
  T9 P w K mg base Nw (k+1) d g e (Y6 K (YL m f) n):=by
 subst j;refine F.ok S (λvs H Q E h=>by rw[o];exact h.1) λb A a s H vs Q E l h=>⟨_,c d b A a s H E l,?_⟩;exact MO p h
theorem Jf{st:b7}{x:ah}{D:List PV->Option PV}{k:Nat}{i:aH}(p:Def K mg "law" st)(g:mg "law" = aA (.ref i))
  (l:∀(kV c d:aF)(h:Option aH)(b ct u:aF),gD (cG "law" "law" (YN st) (Yc st) (Zg st) .none kV c d h b ct) ⟨[u],[]⟩=pure [(x,u)])
  (H:∀(base:bU)(f:aH)(a:dP),K.In base->base.Ns cJ mg->Fun K "law" "law" st f a->T9 P w K mg base Nw k f a [x] (Y6 K D 1)) :
  ∃a:dP,(∀(s:aL)(u:aF),jG s a ⟨[u],[]⟩ [(x,u)])/\∀base:bU,K.In base->base.Ns cJ mg->T9 P w K mg base Nw k i a [x] (Y6 K D 1):=by
 obtain⟨f,a,j,F⟩:=p.ex;have e:=g.symm.trans j;cases e;refine⟨a,?_,λbase n m=>H base i a n m F⟩;obtain⟨t,r,kV,c,d,h,b,ct,o,rfl,v,q⟩:=F.ex;exact λs u=>.of_eq (l kV c d h b ct u)
end
theorem F3{H:Hp}{a:aH}{b:List Int}{D:List PV->Option PV}{E:XK}(d:D [.cst (iL b)]=aA (.bl aC))(c:FH H)(e:SqL K H a (b.map V.int)):Y6 K D 1 [.ref a] H (λv _=>v = .bl aC) E:=by
 have f:CsK K H a (b.map V.int):=by
  rcases e with h | h
  ·rcases h with h | ⟨o,h⟩
   ·rcases c a with z | ⟨o,j,z⟩
    ·rw[h] at z;cases z
    ·rw[h] at z;cases z
   ·exact .inl ⟨o,h⟩
  ·exact .inr h
 exact⟨rfl,[.cst (iL b)],[],.bl aC,Iss.one (Is.cst f (Iss.ofInts b)),d,λv g k _ i _ _=>i.bl_inv.1⟩
end VL
namespace VL
open PySem L2
noncomputable def F4(K:aD):Bool:=K.all λp=>match p.2.data with
 | .fields vs=>(match vs.toList with
  | _::.str n _::_=>!(Li n)
  | _=>aC)
 | _=>aC
theorem noLam{K:aD}(g:F4 K=aC):∀(q:ah)(c:aH),Li q=aC->cO K (.ref c) q=aC->False:=λq c h a=>by
 have a:(match K.lookup c with
   | some ⟨_,_,.fields vs,_⟩=>(match vs.toList with | _::.str n _::_=>n==q | _=>aB)
   | _=>aB)=aC:=a
 split at a
 ·rename_i j i vs k d;split at a
  ·rename_i y n t r b;have f:n=q:=beq_iff_eq.mp a;subst f;have e:=aq.mp g (c,_) (PySem.W.mem_of_lookupK d);simp only[b,h,Bool.not_true] at e;cases e
  ·cases a
 ·cases a
@[simp] theorem eVar_def(i:Nat)(s:ZD):Za i s=(s[i]?).join:=rfl
@[simp] theorem eC_def(l:PV)(s:ZD):eC l s=aA l:=rfl
@[simp] theorem UI(g:PV->PV->Option PV)(a b:XE)(s:ZD):Zi g a b s=(a s).bind λx=>(b s).bind λy=>g x y:=rfl
@[simp] theorem eUn_def(g:PV->Option PV)(a:XE)(s:ZD):FU g a s=(a s).bind g:=rfl
@[simp] theorem S9(f:XE)(s:ZD):eP f s=(f s).bind λl=>if ZQ l=aC then aA l else none:=rfl
@[simp] theorem evs_nil(s:ZD):Sg [] s=aA []:=rfl
@[simp] theorem ZO(f:XE)(fs:List XE)(s:ZD):Sg (f::fs) s=(f s).bind λx=>(Sg fs s).map (x::·):=rfl
@[simp] theorem Y0(D:List PV->Option PV)(fs:List XE)(s:ZD):Zc D fs s=(Sg fs s).bind D:=rfl
@[simp] theorem eTup_def(fs:List XE)(s:ZD):Hh fs s=(Sg fs s).map .tup:=rfl
@[simp] theorem eLst_def(fs:List XE)(s:ZD):SW fs s=(Sg fs s).map .lst:=rfl
@[simp] theorem Xq(g:PV->Option Int->Option Int->Option PV)(a:XE)(lo hi:XO)(s:ZD):Wn g a lo hi s=(a s).bind λx=>(lo s).bind λl=>(hi s).bind λu=>g x l u:=rfl
@[simp] theorem Ph(s:ZD):VD s=aA none:=rfl
@[simp] theorem gI_ii(g:Int->Int->Int)(i j:Int):gI g (.int i) (.int j)=aA (.int (g i j)):=rfl
@[simp] theorem gB_ii(g:Int->Int->Bool)(i j:Int):gB g (.int i) (.int j)=aA (.bl (g i j)):=rfl
@[simp] theorem F5(C:Int->Int->Prop)[∀i j,Decidable (C i j)](g:Int->Int->Int)(i j:Int):LB C g (.int i) (.int j)=if C i j then aA (.int (g i j)) else none:=rfl
@[simp] theorem gIx_ti(l:List PV)(i:Int):ZS (.tup l) (.int i)=U8 l i:=rfl
@[simp] theorem gIx_li(l:List PV)(i:Int):ZS (.lst l) (.int i)=U8 l i:=rfl
@[simp] theorem gIx_ci(l:List PV)(i:Int):ZS (.cst l) (.int i)=U8 l i:=rfl
@[simp] theorem F6(f:XE)(s:ZD):xB f s=(f s).bind C3:=by
 unfold xB
 cases f s with
 | none=>rfl
 | some a=>cases a<;>rfl
@[simp] theorem blO_bl(b:Bool):C3 (.bl b)=aA b:=rfl
@[simp] theorem xAnd_def(a b:XT)(s:ZD):NC a b s=(a s).bind λc=>if c=aC then b s else aA aB:=rfl
@[simp] theorem Hl(a b:XT)(s:ZD):IZ a b s=(a s).bind λc=>if c=aC then aA aC else b s:=rfl
@[simp] theorem Jg(a:XT)(s:ZD):ND a s=(a s).map not:=rfl
@[simp] theorem Jh(a b:XE)(s:ZD):Tf a b s=(xB a s).bind λc=>if c=aC then b s else aA (.bl aB):=rfl
@[simp] theorem eOr_def(a b:XE)(s:ZD):Bh a b s=(xB a s).bind λc=>if c=aC then aA (.bl aC) else b s:=rfl
@[simp] theorem eNot_def(a:XE)(s:ZD):Hd a s=(xB a s).map λc=>.bl !c:=rfl
@[simp] theorem MP(c:XT)(a b:XE)(s:ZD):GD c a b s=(c s).bind λk=>if k=aC then a s else b s:=rfl
@[simp] theorem eIsN_def(neg:Bool)(a:XE)(s:ZD):KY neg a s=(a s).bind (Dp neg):=rfl
@[simp] theorem sNext_def(s:ZD):YB s=aA (.nx s):=rfl
@[simp] theorem OF(f g:XS)(s:ZD):Zn f g s=(f s).bind λo=>match o with | .nx s'=>g s' | r=>aA r:=rfl
@[simp] theorem XN(c:XT)(f g:XS)(s:ZD):S6 c f g s=(c s).bind λk=>if k=aC then f s else g s:=rfl
@[simp] theorem Ji(f:XE)(s:ZD):ZT f s=(f s).map .rt:=rfl
@[simp] theorem Ra(i:Nat)(f:XE)(s:ZD):Zs i f s=(f s).map λl=>.nx (s.set i (aA l)):=rfl
@[simp] theorem retO_rt(v:PV):NP (.rt v)=aA v:=rfl
@[simp] theorem pureV_int(i:Int):ZQ (.int i)=aC:=rfl
@[simp] theorem pureV_bl(i:Bool):ZQ (.bl i)=aC:=rfl
@[simp] theorem pureV_str(i:ah):ZQ (.str i)=aC:=rfl
@[simp] theorem pureV_non:ZQ .non=aC:=rfl
@[simp] theorem VF(l:List PV):ZQ (.tup l)=ZC l:=by rw[ZQ]
@[simp] theorem pureL_nil:ZC []=aC:=rfl
@[simp] theorem pureL_cons(a:PV)(l:List PV):ZC (a::l)=(ZQ a&&ZC l):=rfl
theorem LK{b:Type}{l:List b}{f:b->PV}(h:∀a∈l,ZQ (f a)=aC):ZC (l.map f)=aC:=by rw[YW,List.all_map,aq];exact h
@[simp] theorem pureL_iL(l:List Int):ZC (l.map PV.int)=aC:=Yi l
abbrev pP(l:List Int):PV:=.tup (iL l)
abbrev wP(W:List (List Int)):PV:=.tup (W.map pP)
@[simp] theorem Vl(W:List (List Int)):ZC (W.map pP)=aC:=LK λa _=>by simp
theorem NQ{l:List Int}{k:Nat}(h:k<l.length):(iL l)[k]?=aA (.int (Xp l k)):=by simp[Xp,aN h]
theorem Ua{l:List Int}{k:Nat}(h:k<l.length):U8 (iL l) (k:Int)=aA (.int (Xp l k)):=Xn (NQ h)
theorem Ss{W:List (List Int)}{k:Nat}(h:k<W.length):U8 (W.map pP) (k:Int)=aA (pP (Zu W k)):=by refine Xn ?_;rw[aQ,Oo h];rfl
@[simp] theorem F7(l:List Int):Th [.tup (l.map PV.int)]=aA (.int l.sum):=by simp[Th,Sh,Xb l]
@[simp] theorem F8(l:List Int):Th [.lst (l.map PV.int)]=aA (.int l.sum):=by simp[Th,Sh,Xb l]
@[simp] theorem Jj(l:List Bool):R6 [.lst (l.map PV.bl)]=aA (.bl (l.all id)):=by simp[R6,Sh,X3 l]
@[simp] theorem F9(l:List Bool):K4 [.lst (l.map PV.bl)]=aA (.bl (l.any id)):=by simp[K4,Sh,X3 l]
@[simp] theorem Jk(l:List PV):Z5 [.tup l]=aA (.int l.length):=rfl
@[simp] theorem NR(l:List PV):Z5 [.lst l]=aA (.int l.length):=rfl
@[simp] theorem gLen_c(l:List PV):Z5 [.cst l]=aA (.int l.length):=rfl
@[simp] theorem Wk(l:List PV):ZW [.lst l]=aA (.tup l):=rfl
@[simp] theorem gTuple_t(l:List PV):ZW [.tup l]=aA (.tup l):=rfl
@[simp] theorem OG(l:List PV):Vj [.tup l]=if ZC l=aC then aA (.lst l) else none:=rfl
@[simp] theorem Rc(l:List PV):Vj [.lst l]=if ZC l=aC then aA (.lst l) else none:=rfl
@[simp] theorem gMin2_ii(i j:Int):Ox [.int i,.int j]=aA (.int (if j<i then j else i)):=rfl
@[simp] theorem gMax2_ii(i j:Int):Ds [.int i,.int j]=aA (.int (if j>i then j else i)):=rfl
@[simp] theorem gInt1_b(c:Bool):GG [.bl c]=aA (.int (if c then 1 else 0)):=rfl
@[simp] theorem gInt1_i(c:Int):GG [.int c]=aA (.int c):=rfl
@[simp] theorem gInst_ii(i:Int):W6 [.int i,.ty "int"]=aA (.bl aC):=rfl
@[simp] theorem gInst_ib(i:Int):W6 [.int i,.ty "bool"]=aA (.bl aB):=rfl
@[simp] theorem gInst_tt(l:List PV):W6 [.tup l,.ty "tuple"]=aA (.bl aC):=rfl
@[simp] theorem gInst_ll(l:List PV):W6 [.lst l,.ty "list"]=aA (.bl aC):=rfl
theorem Hm(n:Nat)(i j:Int):SY (n+1) (.int i) (.int j)=aC:=rfl
@[simp] theorem Pj(neg:Bool)(i j:Int):VB neg (.int i) (.int j)=aA (.bl (if neg then !decide (i=j) else decide (i=j))):=by
 unfold VB;rw[k8 (Hm 7 i j)];congr 2;cases neg<;>simp
theorem QH{e:Type}{T:Tgt}{f:XT}{c:XE}{d:ZD}{q g:e->PV}:∀{ls:List e},(∀a∈ls,∃s1,YU T (q a) d=aA s1/\f s1=aA aC/\c s1=aA (g a))->XM T f c d (ls.map q)=aA (ls.map g)
 | [],_=>rfl
 | a::r,h=>by obtain⟨s1,k,i,m⟩:=h a a9;have l:=QH (ls:=r) λb j=>h b (aW _ j);rw[eJ,eJ];unfold XM;rw[k];simp only[aY,i,if_true,m,l,dY]
theorem UJ{d:Type}{T:Tgt}{j:XT}{e:XE}{f:ZD}{q g:d->PV}{c:d->Bool}:∀{ls:List d},(∀a∈ls,∃s1,YU T (q a) f=aA s1/\j s1=aA (c a)/\(c a=aC->e s1=aA (g a)))->XM T j e f (ls.map q)=aA ((ls.filter c).map g)
 | [],_=>rfl
 | a::r,h=>by
  obtain⟨s1,m,k,n⟩:=h a a9;have i:=UJ (ls:=r) λb l=>h b (aW _ l);rw[eJ];unfold XM;rw[m];simp only[aY,k]
  cases hc:c a with
  | true=>simp[n hc,i,hc]
  | false=>simp[i,hc]
theorem Z9{d:Type}{n:Nat}{ix:List Nat}{fi:XL}{T:Tgt}{e:XT}{c:XE}{s:ZD}(ls:List d)(q g:d->PV)(b:fi s=aA (ls.map q))(f:ls.length<=10000)
  (h:∀a∈ls,∃s1,YU T (q a) (Z1 n ix s)=aA s1/\e s1=aA aC/\c s1=aA (g a)):Zt n ix fi T e c s=aA (.lst (ls.map g)):=by
 unfold Zt;rw[b];simp only[aY,aO,k8 f,QH h,dY]
theorem UK{d:Type}{n:Nat}{ix:List Nat}{fi:XL}{T:Tgt}{f:XT}{e:XE}{s:ZD}(ls:List d)(q g:d->PV)(c:d->Bool)(b:fi s=aA (ls.map q))(i:ls.length<=10000)
  (h:∀a∈ls,∃s1,YU T (q a) (Z1 n ix s)=aA s1/\f s1=aA (c a)/\(c a=aC->e s1=aA (g a))):Zt n ix fi T f e s=aA (.lst ((ls.filter c).map g)):=by
 unfold Zt;rw[b];simp only[aY,aO,k8 i,UJ h,dY]
theorem Xx{T:Tgt}{fb:XS}:∀{ls:List PV}{s:ZD}(Jv:Nat->ZD->Prop),Jv 0 s->(∀(i:Nat) l st,ls[i]?=aA l->Jv i st->∃s1 s2,YU T l st=aA s1/\fb s1=aA (.nx s2)/\Jv (i+1) s2)->
  ∃f,Vd T fb ls s=aA (.nx f)/\Jv ls.length f
 | [],s,Jv,h0,_=>⟨s,rfl,h0⟩
 | l::r,s,Jv,h0,h=>by obtain⟨s1,s2,a,b,c⟩:=h 0 l s rfl h0;obtain⟨f,d,e⟩:=Xx (ls:=r) (s:=s2) (λi=>Jv (i+1)) c λi l' st g j=>h (i+1) l' st (by simpa using g) j;refine⟨f,?_,e⟩;unfold Vd;rw[a];simp only[aY,b];exact d
theorem UL{n i:Nat}{l:PV}(h:(Ti n)[i]?=aA l):i<n/\l = .int (i:Int):=by have a:=(aV.mp h).1;unfold Ti at a h;rw[aO,bY] at a;rw[aQ,ak a] at h;exact⟨a,(av h).symm⟩
theorem OH{lo:Int}{n i:Nat}{l:PV}(h:(Wx lo n)[i]?=aA l):i<n/\l = .int (lo+(i:Int)):=by have a:=(aV.mp h).1;unfold Wx at a h;rw[aO,bY] at a;rw[aQ,ak a] at h;exact⟨a,(av h).symm⟩
@[simp] theorem Rf(n:Nat):(Ti n).length=n:=by unfold Ti;simp
@[simp] theorem Jl(lo:Int)(n:Nat):(Wx lo n).length=n:=by unfold Wx;simp
@[simp] theorem bindT_one(i:Nat)(l:PV)(s:ZD):YU (.one i) l s=aA (s.set i (aA l)):=rfl
theorem Vm(m:List PV):W7 m=(aI m.length).map λ(i:Nat)=>.tup [.int (i:Int),m.getD i .non]:=by
 apply cV;intro i;rw[aQ];by_cases h:i<m.length
 ·have:(W7 m)[i]?=aA (.tup [.int (i:Int),m[i]]):=by unfold W7;simp
  rw[this,ak h];simp[aN h]
 ·rw[bN (by rw[QE];omega),bN (by simpa using h)];rfl
theorem Ub(m n:List PV)(h:n.length=m.length):UA m n=(aI m.length).map λ(i:Nat)=>.tup [m.getD i .non,n.getD i .non]:=by
 apply cV;intro i;rw[aQ];by_cases a:i<m.length
 ·have:(UA m n)[i]?=aA (.tup [m[i],n[i]]):=by unfold UA;rw[aQ,gR (z:=(m[i],n[i])) |>.mpr ⟨aN a,aN (by omega)⟩];rfl
  rw[this,ak a];simp[aN a,aN (show i<n.length by omega)]
 ·rw[bN (by rw[OA];omega),bN (by simpa using a)];rfl
theorem VG(l:List Int)(i:Nat)(h:i<l.length):(iL l).getD i .non = .int (Xp l i):=by rw[aM,NQ h];rfl
@[simp] theorem Hn(f:XE)(s:ZD):ZZ [f] s=(f s).bind λa=>(Kk a).bind λj=>if -1000000<=j/\j<=1000000 then aA (Ti j.toNat) else none:=by
 unfold ZZ
 cases h:f s with
 | none=>simp[h]
 | some a=>cases a<;>simp[h,Kk]
@[simp] theorem Ho(f g:XE)(s:ZD):YQ [f,g] s=(f s).bind λa=>(g s).bind λb=>(Kk a).bind λi=>(Kk b).bind λj=>if -1000000<=i/\i<=1000000/\-1000000<=j/\j<=1000000 then aA (Wx i (j-i).toNat) else none:=by
 unfold YQ
 cases h:f s with
 | none=>simp[h]
 | some a=>cases h2:g s with
  | none=>simp[h,h2]
  | some b=>cases a<;>cases b<;>simp[h,h2,Kk]
@[simp] theorem UM(i:Int):Kk (.int i)=aA i:=rfl
@[simp] theorem Hq(i:List PV):DR (.lst i)=aA i:=rfl
@[simp] theorem Jm(b1 b2:Bool)(f g:XE)(s:ZD):OC b1 b2 [f,g] s=(f s).bind λl=>(g s).bind λr=>(seqB b1 l).bind λm=>(seqB b2 r).map λn=>UA m n:=by
 unfold OC;cases h:f s<;>cases h2:g s<;>simp[h,h2]
@[simp] theorem seqB_f(l:List PV):seqB aB (.tup l)=aA l:=rfl
@[simp] theorem seqB_t(l:List PV):seqB aC (.lst l)=aA l:=rfl
@[simp] theorem seqB_c(l:List PV):seqB aC (.cst l)=aA l:=rfl
@[simp] theorem xLst_def(f:XE)(s:ZD):Vb f s=(f s).bind Ez:=rfl
@[simp] theorem asS_l(l:List PV):Ez (.lst l)=aA l:=rfl
@[simp] theorem asS_c(l:List PV):Ez (.cst l)=aA l:=rfl
theorem Vn{f:XE}{s:ZD}{l:List PV}(h:f s=aA (.tup l)):V8 f s=aA l:=by unfold V8;rw[h]
@[simp] theorem sFor_def(O:List Nat)(fi:XL)(T:Tgt)(fb:XS)(s:ZD):YD O fi T fb s=(fi (Yo O s)).bind λls=>Vd T fb ls s:=rfl
@[simp] theorem xTrue_def(s:ZD):ZF s=aA aC:=rfl
theorem Yj{f:XE}{s:ZD}{n:Nat}(h:f s=aA (.int (n:Int)))(a:n<=10000):ZZ [f] s=aA (Ti n):=by rw[Hn,h];simp only[aY,UM];rw[k8 ⟨by omega,by omega⟩,fA]
theorem VH{f g:XE}{s:ZD}{i j:Int}(h:f s=aA (.int i))(a:g s=aA (.int j))(b : -10000<=i/\i<=10000)(c : -10000<=j/\j<=10000):YQ [f,g] s=aA (Wx i (j-i).toNat):=by rw[Ho,h,a];simp only[aY,UM];rw[k8 ⟨by omega,by omega,by omega,by omega⟩]
theorem Ea{i j:Int}(a : -10000<=i)(h:i<=10000):CMul i j:=by
 refine .inl ?_;have e:(2^64:Int)=18446744073709551616:=by decide
 rw[e];omega
theorem Su{c:Bool}(h:c=aC):gd c=aA ():=by unfold gd;rw[k8 h]
theorem NS{i:Nat}{f:XE}{s:ZD}{m:List PV}{l:PV}(h:f s=aA l)(a:Jb s i=aA m)(b:m.length<=10000):UG i f s=aA (.nx (s.set i (aA (.lst (m++[l]))))):=by unfold UG;rw[h];simp only[aY,a,Su (decide_eq_true b)]
theorem NT{i:Nat}{a f:XE}{s:ZD}{m:List PV}{l:PV}{k:Int}(o:a s=aA (.int k))(h:f s=aA l)(e:Jb s i=aA m)(d:ZC m=aC)(n:ZQ l=aC)(b:0<=k)(g:k<=1000000)(j:m.length<=10000) :
  UH i a f s=aA (.nx (s.set i (aA (.lst (m.take k.toNat++l::m.drop k.toNat))))):=by
 unfold UH;rw[o,h];have c:(ZC m&&ZQ l&&decide (0<=k/\k<=1000000/\m.length<=10000))=aC:=by rw[d,n,decide_eq_true ⟨b,g,j⟩];rfl
 simp only[aY,UM,e,Su c]
theorem QI{i:Nat}{a f:XE}{s:ZD}{m:List PV}{l:PV}{k:Int}{j:Nat}(h:f s=aA l)(n:a s=aA (.int k))(d:Jb s i=aA m)(b:ZC m=aC)(g:ZQ l=aC)(e:Nj m.length k=aA j) :
  YZ i a f s=aA (.nx (s.set i (aA (.lst (m.set j l))))):=by
 unfold YZ;rw[n,h];have c:(ZC m&&ZQ l)=aC:=by rw[b,g];rfl
 simp only[aY,UM,d,Su c,e,dY]
theorem Rg{i:Nat}{d fb f:XE}{s:ZD}{m n:List PV}{l:PV}{a b:Int}{j c:Nat}(h:f s=aA l)(t:d s=aA (.int a))(u:fb s=aA (.int b))(e:Jb s i=aA m)(p:Nj m.length a=aA j)(r:m[j]?=aA (.lst n))(q:ZC n=aC)(o:ZQ l=aC)(g:Nj n.length b=aA c) :
  WA i d fb f s=aA (.nx (s.set i (aA (.lst (m.set j (.lst (n.set c l))))))):=by
 unfold WA;rw[h,t,u];have k:(ZC n&&ZQ l)=aC:=by rw[q,o];rfl
 simp only[aY,UM,Hq,e,p,r,Su k,g,dY]
theorem VJ{n k:Nat}(h:k<n):Nj n (k:Int)=aA k:=by unfold Nj;rw[k8 (by omega),k8 (by omega)];rfl
@[simp] theorem NU{i j:Int}(h : -(2^64)<i/\i<2^64):CMul i j:=.inl h
end VL
namespace VL
open PySem PySem.Spec PyProof.Rows L2
variable {K:aD}
noncomputable def GI(K:aD):R2:=λx y H Q=>∃a b xs ys,x = .ref a/\y = .ref b/\SqT K H a xs/\SqT K H b ys/\xs.length+ys.length<=sizeLine/\
 (xs=[]->Q (.ref b) H)/\(ys=[]->Q (.ref a) H)/\∀p,H p=none->Q (.ref p) (upd H p (.tup (xs++ys)))
theorem UN{X:Cx}:U4 X (ck .Add) (GI X.K):=by
 intro S s P H x y v u Q I p k h;obtain⟨a,b,o,w,rfl,rfl,q,r,M,C,D,L⟩:=h;by_cases i:o=[]
 ·cases p;cases k;obtain⟨E,O,B,_⟩:=I.tuple q;obtain⟨d,R,p2,_⟩:=I.tuple r;obtain⟨⟨G,N,m,z⟩,l,F,n,A⟩:=id B;obtain⟨⟨t,f,data2,e⟩,c,j,J,g⟩:=id p2;subst F A j g
  exact jI ⟨_,l,rfl⟩ ⟨_,c,rfl⟩ g8 i8 eh eQ (eG _ _)
   (tuple_addW0 a b E.toArray d.toArray n J N f z e (by simp[O.nil_iff.mpr i])) ⟨l,c,.ref b,H,I,rfl,C i⟩
 ·exact IE _ _ _ _ _ _ _ _ _ I p k ⟨a,b,o,w,rfl,rfl,q,r,i,M,D,λ_=>L⟩
noncomputable def V1:PV->PV->Option PV
 | .tup m,.tup n=>if m.length+n.length<=10000 then aA (.tup (m++n)) else none
 | _,_=>none
theorem UO:RB K (GI K) V1:=λH x y a b l j fb o h e Q k=>by
 cases a with
 | tup m=>cases b with
  | tup n=>
   have e:(if m.length+n.length<=10000 then aA (PV.tup (m++n)) else none)=aA l:=e;split at e
   case isFalse=>cases e
   rename_i w;cases e;obtain⟨p,t,rfl,v,g⟩:=o.tup_inv;obtain⟨u,s,rfl,f,c⟩:=h.tup_inv;refine⟨p,u,t,s,rfl,rfl,SqT.of v,SqT.of f,by rw[g.len,c.len];exact cP (lt_size w),λz=>?_,λz=>?_,λq i=>?_⟩
   ·have:=eU.mp (by rw[<-g.len,z];rfl);subst this;exact k _ _ fb (Same.refl _) h λr d=>.inr (.inl d)
   ·have:=eU.mp (by rw[<-c.len,z];rfl);subst this;rw[cw] at k;exact k _ _ j (Same.refl _) o λr d=>.inl d
   ·exact k _ _ (j++fb) (Same.new i _) (Is.tup Zq ((g.append c).mono (Same.new i _))) λr d=>(bb.mp d).elim .inl λz=>.inr (.inl z)
  | _=>cases e
 | _=>cases e
end VL
namespace VL
open PySem
open PySem.Sem (wp)
open PySem.Builtin
theorem Tn:fillsNumberSlot (.type "tuple") "mul" = pure aB:=rfl
theorem Pk:seqRepeat? (.type "tuple")=pure (aA (.builtin "tuple.__mul__")):=rfl
theorem Rh(a:Int)(t:Tok)(l:aH)(b:Array aF)(n:Nat)(e:Option aH)(c:Array (Option aF)) :
  Meets (iX.«int.__rmul__» ⟨[.int a t,.ref l],[]⟩) (λ_ R s=>s.heap.get? l=aA { cls:=.type "tuple",dict:=e,data:=.seq b n,slots:=c }/\R (.ok (.ret aF.notImplemented)) s):=
 .of_wp λprog w A R s h=>by obtain⟨f,g,d,tk,os⟩:=s;obtain⟨i,h⟩:=h;wp_walk;exact⟨_,rfl,h⟩
theorem Rj(l:aH)(a:Array aF)(n:Nat)(o:Option aH)(f:Array (Option aF))(x:Int)(u:Tok)(r:1<x)(q:x<2^63)(e:a.isEmpty=aB)(k:a.size*x.toNat<=sizeLine)
  (b:Array aF) (p:il (λi j=>i++j) #[] (aU x.toNat a)=b) (y:b.size<=sizeLine) :
  Meets (iX.«tuple.__mul__» ⟨[.ref l,.int x u],[]⟩) (λ_ R s=>s.heap.get? l=aA { cls:=.type "tuple",dict:=o,data:=.seq a n,slots:=f }/\R (.ok (.ret (jP s.heap.objs.size))) { s with heap:=s.heap.push { cls:=j9 "tuple",data:=Data.seq b },toks:=s.toks }):=
 .of_wp λprog w A R s h=>by
  obtain⟨t,g,d,tk,os⟩:=s;obtain⟨v,h⟩:=h;have c:a.size*x.toNat<=2^40:=by rw[iI] at k;omega
  have m:(a.size:Int)*x=((a.size*x.toNat:Nat):Int):=by rw[Int.natCast_mul,Int.toNat_of_nonneg (by omega)]
  wp_walk
  refine eK (by simp;omega) ?_
  wp_walk
  refine eK (by simp[e];omega) ?_
  wp_walk
  refine eK (by simp[e];omega) ?_
  wp_walk
  refine eK (decide_eq_false (by omega)) ?_
  wp_walk
  refine eK (decide_eq_false (by rw[m];unfold Tuple.tupleTooMany;simp only[decide_eq_true_eq];omega)) ?_
  wp_walk
  rw[p];exact⟨_,rfl,h⟩
theorem R8(l:aH)(a:Array aF)(n:Nat)(c:Option aH)(b:Array (Option aF))(u:Tok) :
  Meets (iX.«tuple.__mul__» ⟨[.ref l,.int 1 u],[]⟩) (λ_ R s=>s.heap.get? l=aA { cls:=.type "tuple",dict:=c,data:=.seq a n,slots:=b }/\R (.ok (.ret (jP l))) s):=
 .of_wp λprog w A R s h=>by
  obtain⟨e,g,d,tk,os⟩:=s;obtain⟨f,h⟩:=h
  wp_walk
  exact⟨_,rfl,h⟩
end VL
namespace VL
open PySem PySem.Spec PyProof.Rows L2
noncomputable def GJ(K:aD):R2:=λx y H Q=>∃a k xs,x = .ref a/\y = .int k/\SqT K H a xs/\xs≠[]/\1<=k/\k<2^62/\xs.length*k.toNat<=sizeLine/\
 (k=1->Q (.ref a) H)/\∀p,H p=none->Q (.ref p) (upd H p (.tup (aU k.toNat xs).flatten))
theorem Hr{X:Cx}:U4 X (ck .Mult) (GJ X.K):=by
 intro Z s S H x y v u Q I N C h;obtain⟨a,k,W,rfl,rfl,O,M,U,T,g,A,G⟩:=h;cases N;obtain⟨t,rfl⟩:=C;obtain⟨c,j,z,_⟩:=I.tuple O;obtain⟨⟨D,i,m,f⟩,d,B,n,w⟩:=id z;subst B w;have p:=j.length
 refine gP rfl ⟨_,d,rfl⟩ (λJ=>gv J k t) Tn F.fills_int_mul F.slot_int_rmul Pk F.slot_int_index.lookup
  (eM F.slot_int_rmul (gv s k t) F.entry_int_rmul (F.args_int_rmul_2 _ _) (Rh k t a c.toArray n i f) ⟨d,rfl,⟨_,d,rfl⟩,?_⟩)
 by_cases R:k=1
 ·subst R;exact eM F.slot_tuple_mul ⟨_,d,rfl⟩ F.entry_tuple_mul (F.args_tuple_mul_2 _ _) (R8 a c.toArray n i f t) ⟨d,.ref a,H,I,rfl,A rfl⟩
 ·have l:c.toArray.isEmpty=aB:=by
   cases c with
   | nil=>exact absurd (j.nil_iff.mp rfl) M
   | cons _ _=>rfl
  have P:il (λE L=>E++L) #[] (aU k.toNat c.toArray)=(aU k.toNat c).flatten.toArray:=by have:=U9 c k.toNat [];exact this
  have r:(aU k.toNat c).flatten.length<=sizeLine:=by rw[QZ,cU,<-p];exact g
  refine eM F.slot_tuple_mul ⟨_,d,rfl⟩ F.entry_tuple_mul (F.args_tuple_mul_2 _ _) (Rj a c.toArray n i f k t (by omega) (by omega) l (by rw[aP,<-p];exact g) _ P (by rw[aP];exact r)) ⟨d,?_⟩;refine⟨.ref s.heap.objs.size,_,I.laid (λb Y q=>aE _ q) (aG _) ?_,rfl,G _ (I.hok.fresh (aG _))⟩;exact⟨⟨by rw[QZ,cU];exact g,λo e=>SF e⟩,_,j.rep k.toNat,jT _ _⟩
noncomputable def OI:PV->PV->Option PV
 | .tup m,.int k=>if ZC m=aC/\m≠[]/\1<=k/\k<=1000000/\m.length*k.toNat<=10000 then aA (.tup (aU k.toNat m).flatten) else none
 | _,_=>none
theorem Hs{K:aD}:RB K (GJ K) OI:=λH x y a b l s fb h j e Q k=>by
 cases a with
 | tup m=>cases b with
  | int n=>
   unfold OI at e;simp only at e;split at e
   case isFalse=>cases e
   rename_i c;cases e;obtain⟨p,o,rfl,t,f⟩:=h.tup_inv;refine⟨p,n,o,rfl,j.int_inv.1,SqT.of t,λz=>c.2.1 (eU.mp (by rw[<-f.len,z];rfl)),c.2.2.1,by omega,by rw[f.len];exact cP (lt_size c.2.2.2.2),λz=>?_,λq g=>?_⟩
   ·subst z;have i:(aU (Int.toNat 1) m).flatten=m:=by simp
    rw[i] at k;exact k _ _ s (Same.refl _) h λr d=>.inl d
   ·exact k _ _ [] (Same.new g _) (Is.tup Zq ((Iss.rep (f.pureEq c.1) n.toNat).mono (Same.new g _))) λr d=>by simp at d
  | _=>cases e
 | _=>cases e
end VL
namespace PW
open PySem L2 VL
noncomputable def QJ:XS:=(ZT (eP (Zc Th [Zi ZS (Za 0) (Za 1)])))
noncomputable def VN:List PV->Option PV:=YL 2 QJ
noncomputable def To:XS:=(ZT (eP (Tf (Zc W6 [Za 0,eC (.ty "int")]) (Hd (Zc W6 [Za 0,eC (.ty "bool")])))))
noncomputable def Yv:List PV->Option PV:=YL 1 To
noncomputable def QK:XS:=(ZT (eP (Tf (Zc W6 [Za 0,eC (.ty "tuple")]) (Tf (Zi (VB aB) (Zc Z5 [Za 0]) (Za 1)) (Zc R6 [Zt 1 [] (V8 (Za 0)) (.one 0) ZF (Zc Yv [Za 0])])))))
noncomputable def QL:List PV->Option PV:=YL 2 QK
end PW
set_option maxHeartbeats 1000000
namespace VL
open PySem PySem.Spec PyProof.Rows L2
noncomputable def Jn:XS:=λ_=>none
variable {K:aD}
noncomputable def EC(K:aD)(D:List PV->Option PV)(n:Nat):Sp:=λvs H Q _=>vs.length=n/\∃v0 vr l0 ls fp0 l',vs=v0::vr/\Is K H l0 v0 fp0/\fp0.Nodup/\(∀p∈fp0,VY (H p))/\Iss K H ls vr []/\D (l0::ls)=aA l'/\
 ∀H' fq,Same (Vc H (·∈fp0)) H'->Is K H' l' v0 fq->fq.Nodup->(∀p∈fq,Vc H (·∈fp0) p=none/\VY (H' p))->Q .non H'
noncomputable def Eb(K:aD)(O W:List Nat)(H0:Hp)(fps:Nat->List aH)(σ:Sf)(D:YF):Out->Prop
 | .nx s'=>∀k4 σ' H',Rel K O H0 k4 s' σ' H'->σ'[0]?=σ[0]?->D.nx σ' H'
 | _=>True
noncomputable def Ec(K:aD)(O W:List Nat)(f:XS):TS:=λD σ H=>∃H0 fps s s',Rel K O H0 fps s σ H/\f s=aA (.nx s')/\Eb K O W H0 fps σ D (.nx s')
noncomputable def DS(X:Cx)(O W:List Nat)(st:b7)(f:XS):Prop:=PS X st (Ec X.K O W f)
noncomputable def Ht(X:Cx)(O W:List Nat)(st:List b7)(f:XS):Prop:=PSs X st (Ec X.K O W f)
section
variable {X:Cx} {O W W1 W2:List Nat} {st:b7} {Yh:List b7} {f g:XS} {pos:di}
theorem VS.vs0(h:VS X O W st f)(b:0∉W:=by decide):DS X O W st f:=PS.imp h λD l H ⟨g,fps,s,j,r,e,k⟩=>⟨g,fps,s,.nx j,r,e,λd a c i q=>k d a c i (q 0 b).1⟩
theorem Jo(h:DS X O W st f):Ht X O W [st] f:=My h
theorem QM(m:DS X O W1 st f)(j:Ht X O W2 Yh g):Ht X O (W1++W2) (st::Yh) (Zn f g):=PSs.imp (Oc m j) λD w H ⟨c,fps,s,o,r,e,k⟩=>by
 obtain⟨h,d,e⟩:=Ze e
 cases h with
 | nx s1=>exact⟨c,fps,s,s1,r,d,λa n x v i=>⟨c,a,s1,o,v,e,λu b t q p=>k u b t q (p.trans i)⟩⟩
 | bk s1=>cases e
 | ct s1=>cases e
 | rt l=>cases e
theorem Rk{Q fa fb:XE}(h:PS X st (Nl (tF X.K Q) (Fh (Ey (FA X.K) (RW 0) (tF X.K fa)) (tF X.K fb) KA)))(v:0∈O:=by decide):DS X O [0] st (WA 0 fa fb Q):=PS.imp h λD σ H ⟨H0,fps,s,s',r,e,k⟩=>by
 obtain⟨l,e0,e⟩:=Ze e;obtain⟨a,Y,e⟩:=Ze e;obtain⟨b,S,e⟩:=Ze e;obtain⟨ai,ea,e⟩:=Ze e;obtain⟨bi,eb,e⟩:=Ze e;obtain⟨m,G,e⟩:=Ze e;obtain⟨j,ej,e⟩:=Ze e;obtain⟨ZM,P,e⟩:=Ze e;obtain⟨n,er,e⟩:=Ze e;obtain⟨_,eg,e⟩:=Ze e;rw[UE ea] at Y;rw[UE eb] at S;rw[Jc er] at P;have G:=UD G;have R:=Sr eg;simp only[bW] at R;obtain⟨N,Z⟩:=R;obtain⟨c,ec,e⟩:=map_some e;cases e;obtain⟨p,xs,fq,U,T,I,x⟩:=r.lst_at v G;refine⟨λ_=>False,s,l,λ_ z=>z.elim,r.env,e0,λy H1 fy s1 W _=>?_⟩;refine⟨.ref p,U,λ_=>False,s,_,λ_ z=>z.elim,r.env.mono s1,Y,λz H2 fz s2 i2 _=>?_⟩;obtain⟨rfl,_⟩:=i2.int_inv;have i:=s1.trans s2;obtain⟨q,f1,g,iq,u⟩:=(I.mono i).get P;obtain⟨f,C,fz',rfl,M,hz,rfl⟩:=id iq.lst_inv;refine⟨p,xs,ai,.ref f,rfl,rfl,SqL.of (i _ _ T),?_,λ_=>False,s,_,λ_ z=>z.elim,r.env.mono i,S,λw H3 fw E i3 _=>?_⟩
 ·unfold U8;rw[I.len,ej];exact g
 obtain⟨rfl,_⟩:=i3.int_inv;have d:=i.trans E;have L:=r.grow d;have B:f∈fps 0:=by rw[x];exact aW _ (u f a9)
 have mu:=(L.own 0 v f B).2;have A:H3 f=aA (.lst C):=E _ _ M;have:=Is.pure _ _ _ Z W;subst this;refine⟨f,C,bi,c,rfl,rfl,A,by rw[hz.len];exact ec,?_⟩;have F:=r.nd 0 v;rw[x] at F;have J:f≠p:=λz=>(bP.mp F).1 (z▸u f a9);have t:Iss X.K (L2.upd H3 f (.lst (C.set c y))) (n.set c l) (C.set c y) []:=Iss.tr (TK.upd' mu) _ _ _ (λq g=>by simp at g) (Iss.setP c N Z ((hz.mono E).pureEq N) (W.mono (s2.trans E)));have rows:=Iss.setRow (I.mono d) P g (bP.mp F).2 mu N t;refine k _ _ _ (L.mutate (o:=.lst (C.set c y)) (l':=.lst (m.set j (.lst (n.set c l)))) (fp':=p::fq) v B U (Tj G) (Is.lst (by rw[L2.upd_ne (aj J)];exact d _ _ T) rows) F (λq g=>?_) (λj hj q g z=>r.dis 0 v j hj q (by rw[x];exact g) z) cY) rfl;refine⟨(r.own 0 v q (by rw[x];exact g)).1,?_⟩;by_cases e:q=f
 ·subst e;rw[Zq];exact cY
 ·rw[L2.upd_ne e];exact(L.own 0 v q (by rw[x];exact g)).2
end
noncomputable def Du:Out->Option PV
 | .nx s=>match s[0]? with | some (aA l)=>aA l | _=>none
 | _=>none
noncomputable def ED(m:Nat)(f:XS):List PV->Option PV:=λls=>if ZC (ls.drop 1)=aC then(f (ZL m ls)).bind Du else none
theorem Jp{N:List ah}{n:Nat}{W:List Nat}{f:XS}{vs:List V}{H:Hp}{Q:VK}{E:XK}(h:EC K (ED N.length f) n vs H Q E):Ec K [0] W f { nx:=λ_ F=>Q .non F,rt:=Q } (L2.start N vs) H:=by
 obtain⟨hl,w,G,l0,L,g,l',rfl,J,B,C,t,e,q⟩:=h;unfold ED at e;split at e
 case isFalse=>cases e
 obtain⟨A,M,m⟩:=Ze e;have d:Iss K H (l0::L) (w::G) (g++[]):=Iss.cons J t;have k:=d.len;generalize s:l0::L=ls at *
 have u:∀i:Nat,ls.length<=i->∀l,(ZL N.length ls)[i]?≠aA (aA l):=λi d l z=>by
  unfold ZL at z;rw[bK (by simpa using d),b6] at z;split at z<;>cases z
 have D:Rel K [0] (Vc H (·∈g)) (λi=>if i=0 then g else []) (ZL N.length ls) (L2.start N (w::G)) H:=by
  refine⟨QF,?_,λi a z=>?_,λi I=>?_,λi d=>?_,λi d p o=>?_,λi d j S p o=>?_⟩
  ·have Z:G.length+1=ls.length:=k;unfold ZL L2.start;simp;omega
  ·by_cases c:i<ls.length
   ·unfold ZL at z;rw[ar (by simpa using c),aQ] at z
    cases q:ls[i]? with
    | none=>rw[q] at z;cases z
    | some b=>
     rw[q] at z;cases z
     cases i with
     | zero=>
      rw[<-s] at q;simp at q;subst q;exact⟨w,by unfold L2.start;simp,by simpa using J⟩
     | succ i=>
      rw[<-s] at q;obtain⟨v,f1,T,R,Y⟩:=t.get (i:=i) (a:=a) (by simpa using q);have:f1=[]:=by cases f1 with | nil=>rfl | cons x r=>exact absurd (Y x a9) (by simp)
      subst this;refine⟨v,?_,by simpa using R⟩;unfold L2.start;rw[ar (by rw[aO,k];exact c),aQ];simp[T]
   ·exact absurd z (u i (by omega) a)
  ·by_cases c:i<ls.length
   ·exact absurd (by unfold ZL;rw[ar (by simpa using c),aQ,aN c];rfl) (I ls[i])
   ·have:i≠0:=by rw[<-s] at c;simp at c;omega
    simp[this]
  ·simp at d;subst d;simpa using B
  ·simp at d;subst d;have o:p∈g:=by simpa using o
   exact⟨by unfold Vc;rw[k8 o],C p o⟩
  ·simp at d;subst d;simp[S]
 cases A with
 | nx s'=>
  have m:(match s'[0]? with | some (aA l)=>aA l | _=>none)=aA l':=m;split at m
  case h_2=>cases m
  rename_i l O;cases m;refine⟨_,_,_,s',D,M,λX P F y U=>?_⟩;obtain⟨v,a,b⟩:=y.is 0 _ O;rw[U] at a;have:v=w:=by unfold L2.start at a;simp at a;exact a.symm
  subst this;exact q F (X 0) y.same b (y.nd 0 (by simp)) λp o=>y.own 0 (by simp) p o
 | rt v=>cases m
 | bk s'=>cases m
 | ct s'=>cases m
section
variable {P:bM} {w:bz} {mg:ah->Option aF} {base:bU}
theorem Hu{x:ah}{st:b7}{N d:List ah}{k n:Nat}{W:List Nat}(m:Nat)(f:XS)(D:Def K mg x st)(S:Zl N d (Zg st))
  (j:∀(kV doc pm:aF)(an:Option aH)(b ct:aF)(us:List aF),us.length=d.length->gD (cG x x (YN st) (Yc st) (Zg st) .none kV doc pm an b ct) ⟨us,[]⟩=pure (d.zip us))
  (l:d.length=n) (g:N.length=m)
  (c:∀(e:aH)(b:aF)(A:bj)(a:List jQ)(s:aL)(H:Hp)(E:XK),Room k (A.deeper (fI x (Zg st) s.heap.objs.size e b))->Ht (SK Nw P w K mg base N x (Zg st) e b A a s H E).nox [0] W (Yc st) f) :
  Xl P w K mg base x d (EC K (ED m f) n) (k+1):=by
 subst g;refine D.cal S j (λvs H Q E h=>by rw[l];exact h.1) λe b A a s H vs Q E i h=>⟨_,c e b A a s H E i,Jp h⟩
end
noncomputable def OJ(i:Nat)(D:List PV->Option PV)(fs:List XE):XS:=λs=>match s[i]? with
 | some (aA l0)=>(Sg fs s).bind λls=>if ZC ls=aC then(D (l0::ls)).map λl'=>.nx (s.set i (aA l')) else none
 | _=>none
theorem Jq{X:Cx}{O:List Nat}{i:Nat}{st:b7}{D:List PV->Option PV}{n:Nat}{fs:List XE}(h:PS X st (Mz (Kw (EC X.K D n) [] E0 (SI (RW i) (DQ X.K fs)))))(hn:fs.length+1=n:=by rfl)(t:i∈O:=by decide):VS X O [i] st (OJ i D fs):=PS.imp h λD' T H ⟨H0,fps,s,W,r,e,k⟩=>by
 unfold OJ at e;split at e
 case h_2=>cases e
 rename_i l0 Q;obtain⟨ls,N,e⟩:=Ze e;split at e
 case isFalse=>cases e
 rename_i I;obtain⟨l',E,rfl⟩:=map_some e;obtain⟨C,S,Y⟩:=r.is i _ Q;refine⟨C,S,λ_=>False,s,ls,λ_ z=>z.elim,r.env,N,λvs x fp s1 F _=>?_⟩;have:=Iss.pure _ _ _ I F;subst this;show EC X.K D n ((C::vs)++[]) x _ E0;rw[cw];have g:=r.grow s1;refine⟨by rw[bg,F.len,Vy N];exact hn,C,vs,l0,ls,fps i,l',rfl,Y.mono s1,r.nd i t,λp B=>(g.own i t p B).2,F,E,λM y sm iq G P=>?_⟩;have v:i<s.length:=Tj Q;have c:∀b o,b∉fps i->x b=aA o->M b=aA o:=λb o l ho=>sm b o (by unfold Vc;rw[k9 l];exact ho);have tk:IT x M:=⟨λb R l=>c b _ (λz=>by have:=(g.own i t b z).2;rw[l] at this;exact this) l,λb o R l=>c b _ (λz=>by have:=(g.own i t b z).2;rw[l] at this;exact this) l,λb o R l=>c b _ (λz=>by have:=(g.own i t b z).2;rw[l] at this;exact this) l⟩
 have A:∀p∈y,p∈fps i\/x p=none:=λp B=>by
  have:=(P p B).1;unfold Vc at this;split at this
  ·exact .inl (by assumption)
  ·exact .inr this
 have fr:∀j,j≠i->∀p∈y,p∉fps j:=λj d p B z=>by
  rcases A p B with h | h
  ·exact g.dis i t j d p h z
  ·exact g.dom j p z h
 have m:UC fps s.length i y i=y:=Pd v;refine k (UC fps s.length i y) T M ⟨λb u l=>c b u (λz=>by rw[(g.own i t b z).1] at l;cases l) (g.same b u l),by rw[bu];exact r.len,λj a e=>?_,λj h=>?_,λj d=>?_,λj d q f=>?_,λj d k' J q f=>?_⟩ MM
 ·rw[ao] at e;by_cases d:i=j
  ·subst d;rw[k8 rfl,k8 v] at e;cases e;rw[m];exact⟨C,S,iq⟩
  ·rw[k9 d] at e;obtain⟨w,Z,h2⟩:=g.is j a e;rw[ZK (aj d)];refine⟨w,Z,Is.tr tk _ _ _ (λq f=>RdK.of λu hu=>?_) h2⟩;exact c q u (λz=>g.dis i t j (aj d) q z f) hu
 ·by_cases d:i=j
  ·subst d;exact absurd (by rw[ao,k8 rfl,k8 v]) (h l')
  ·rw[ZK (aj d)];exact r.emp j λa z=>h a (by rw[ao,k9 d];exact z)
 ·by_cases e:j=i
  ·subst e;rw[m];exact G
  ·rw[ZK e];exact r.nd j d
 ·by_cases e:j=i
  ·subst e;rw[m] at f;refine⟨?_,(P q f).2⟩;rcases A q f with h | h
   ·exact(g.own j d q h).1
   ·exact Same.off g.same h
  ·rw[ZK e] at f;refine⟨(r.own j d q f).1,?_⟩;have U:=(g.own j d q f).2;have L:q∉fps i:=λz=>g.dis j d i (aj e) q f z
   cases hh:x q with
   | none=>exact absurd hh (g.dom j q f)
   | some o=>rw[c q o L hh,<-hh];exact U
 ·by_cases e:j=i
  ·subst e;rw[m] at f;rw[ZK J];exact fr k' J q f
  ·rw[ZK e] at f;by_cases E:k'=i
   ·subst E;rw[m];exact λz=>fr j e q z f
   ·rw[ZK E];exact r.dis j d k' J q f
end VL
namespace VL
open PySem PySem.Spec PyProof.Rows L2
variable {K:aD}
noncomputable def CMulW(i j:Int):Prop:=i.natAbs.log2<67108863/\j.natAbs.log2<67108863
noncomputable def T4(i j:Int):Prop:=j≠0/\j.natAbs.log2<9000
instance (i j:Int):Decidable (CMulW i j):=by unfold CMulW;infer_instance
instance (i j:Int):Decidable (T4 i j):=by unfold T4;infer_instance
theorem MQ(i:Int):eB i<=i.natAbs.log2+1:=by
 unfold eB;split
 ·exact bq _
 ·exact aG _
theorem CMulW.ok{i j:Int}(h:CMulW i j):IntMulOk i j:=by
 unfold IntMulOk iX.Int.intTooBig;have c:=MQ i;have a:=MQ j;have d:=h.1;have b:=h.2
 have:decide (((eB i:Int)+(eB j:Int))>(bitsLine:Int))=aB:=decide_eq_false (by
  have e:(bitsLine:Int)=134217728:=rfl;rw[e];omega)
 rw[this];simp
section
variable {X:Cx} {a b:au} {fa fb:XE} {pos:di}
theorem Hv:U4 X (ck .Mult) (rI CMulW λi j=>.int (i*j)):=Fp λ_ _ _ _ _ _ _ a q=>mul_int q a.ok
theorem Jr:U4 X (ck .FloorDiv) (rI T4 λi j=>.int (i.fdiv j)):=Fp λ_ _ _ _ _ _ _ a q=>jD a.1 q (.inl (PyProof.noPylong_of_log2 a.2))
abbrev QN:=LB CMulW (· * ·)
abbrev Js:=LB T4 jL
theorem UP(d:VE X a fa)(c:VE X b fb):VE X (.BinOp a .Mult b pos) (Zi QN fa fb):=Xm Hv (T3 _ _) d c
theorem OK(d:VE X a fa)(c:VE X b fb):VE X (.BinOp a .FloorDiv b pos) (Zi Js fa fb):=Xm Jr (T3 _ _) d c
end
theorem Rl:∀{ns:List Int}{n:Int},n∈ns->n.natAbs.log2<=gh (ns.map .int)
 | m::r,n,h=>by
  rw[eJ];simp only[gh,PySem.W.WData.weight];rcases af.mp h with rfl | h
  ·by_cases a:n=0
   ·subst a;have:Nat.log2 (ji 0)=0:=by decide +kernel
    omega
   ·rw[k9 (by simpa using a)];omega
  ·have:=Rl h;omega
open PySem.W PySem.Calls in
theorem law_walkB{l:PySem.W.OpenLaw}{q:bM}{j:List ah}{XP:(ah->Option aF)->bU->Prop}{P:bz->bU->Prop}{d:DefRec}{KK:Params->aD}{x:ah}{D:List PV->Option PV}(k:Nat)(hn:l.most=aA 63)(I:d.params.defaults=[])
  (hr:Room k jK) (A:∀(w:bz)(q:ah)(c:aH),Li q=aC->cO (KK w.params) (.ref c) q=aC->False) (hD:∀g:List Int,g.length<=63->(∀n∈g,n.natAbs.log2<=1048576)->D [.cst (iL g)]=aA (.bl aC))
  (hY:∀(w:bz)(h:bU),P w h->(KK w.params).In h)
  (F:∀(w:bz)(p:ah->Option aF)(G:aH)(h:bU),(KK w.params).In h->h.Ns cJ p->p d.name=aA (.ref G)->
   ∃O:dP,(∀(s:aL)(u:aF),jG s O ⟨[u],[]⟩ [(x,u)])/\∀base:bU,(KK w.params).In base->base.Ns cJ p->T9 l.prog w (KK w.params) p base Nw k G O [x] (Y6 (KK w.params) D 1)) (B:PyProof.Rows.importsNone q=aC:=by decide +kernel) :
  PySem.W.WalkO q j XP P l.row.toRowW d [] (λf vs=>PySem.call f vs):=by
 intro w W R p mb m X G o pm cd doc dv kv ho hd hcd t N v U Q as E C hrd L hlo;obtain rfl:dv = .none:=Dflts.none t I;obtain rfl:kv = .none:=Dflts.noKw t;obtain⟨a,vs,g,rfl,rfl,y,i,b⟩:=Att.script_of hn E L
 have Y:∀n∈g,n.natAbs.log2<=1048576:=λn h=>by
  have S:(WData.list (g.map jV)).layable=aC:=aq.mp C _ (aw.mpr rfl);unfold WData.layable at S;have J:=of_decide_eq_true (Bool.and_eq_true_iff.mp S).2;have M:WData.weightAll (g.map jV)<=1048576:=by simpa [WData.weight] using J
  exact aS (Rl h) M
 have T:=hY w _ X;obtain⟨O,hb,Z⟩:=F w p G _ T m.T.g N;refine enter_call (jH (L2.law_call (A w) T m.T.g m.T.b m.T.builtins m.T.nolimit (m.T.seer B) v y i (aS b (by decide)) hr Z hb (λH hO hS=>F3 (hD g b Y) hO hS) λH e s' z=>z) λr s' hq=>?_);obtain⟨rfl,J,M,h4⟩:=hq;exact⟨.inl ⟨.bool aC,.bool aC,[],rfl,λ_=>rfl,.bool aC,Att.post_true l _,λ_=>⟨List.Pairwise.nil,λ_ hm=>(nomatch hm)⟩⟩,J,M,h4⟩
end VL
namespace VL
open PySem PySem.Spec PyProof.Rows L2
noncomputable def Jt(i:Nat)(f0:XE):XS:=λs=>(f0 s).bind λl0=>match s[i]? with
 | some (aA l)=>if ZQ l0=aC then aA (.rt (.tup [l0,l])) else none
 | _=>none
theorem Ju{X:Cx}{O:List Nat}{e:au}{i:Nat}{f:XE}{b:di}(A:PE X e (E5 (SI (tF X.K f) (SI (RW i) Iv))))(h:i∈O:=by decide):VS X O [] (.Return (aA e) b) (Jt i f):=PS.imp (Nk A) λD B H ⟨C,fps,s,j,r,e,k⟩=>by
 obtain⟨l0,m,e⟩:=Ze e;split at e
 case h_2=>cases e
 rename_i l w;split at e
 case isFalse=>cases e
 rename_i n;cases e;obtain⟨v,y,o⟩:=r.is i _ w;refine⟨λ_=>False,s,l0,λ_ z=>z.elim,r.env,m,λp d f1 s1 c _=>?_⟩;have:=Is.pure _ _ _ n c;subst this;refine⟨v,y,(by show 2<=sizeLine;decide),λq u=>?_⟩;have a:Same d (upd d q (.tup [p,v])):=Same.new u _;have g:=r.grow s1;refine k _ (fps i) _ (g.same.trans a) (Is.tup Zq ?_) (r.nd i h) λz x=>?_
 ·have t:=Iss.cons (c.mono a) (Iss.one ((o.mono s1).mono a));simpa using t
 ·have:=g.own i h z x;exact⟨this.1,Same.mut a this.2⟩
end VL
namespace PW
open PySem L2 VL
noncomputable def UQ:XS:=(Zn (S6 (xB (Zi GC (Za 1) (Zc Z5 [Za 0]))) (ZT (eP (Zi ZS (Za 0) (Za 1)))) YB)
  (ZT (eP (Zi Wh (Zi YX (Zi Z4 (Zi Z4 (Zi YX (Za 1) (Za 1)) (Zi YX (eC (.int 3)) (Za 1))) (eC (.int 1))) (eC (.int 5003))) (eC (.int 1999))))))
noncomputable def Yf:List PV->Option PV:=YL 2 UQ
noncomputable def Rn:XS:=(Zn (Zs 3 (eP (Zi Nz (Za 0) (eC (.int 2)))))
  (Zn (S6 (NC (xB (Zi (VB aB) (Zi Wh (Za 0) (eC (.int 2))) (eC (.int 1)))) (xB (Zi Ki (Za 0) (Zi IY (eC (.int 10)) (eC (.int 9)))))) (Zn (YD [] (ZZ [Za 1]) (.one 4) (Zs 3 (eP (Zi Nz (Za 3) (eC (.int 1000))))))
  (ZT (eP (Zi Wh (Za 3) (Za 2))))) YB)
  (Zn (Zs 3 (eP (Zi Z4 (Zi Wh (Za 3) (eC (.int 999979))) (Zi YX (eC (.int 1009)) (Za 1)))))
  (Zn (Zs 3 (eP (Zi Wh (Zi Z4 (Zi YX (Za 3) (Za 3)) (Zi YX (eC (.int 40503)) (Za 3))) (eC (.int 999983)))))
  (ZT (eP (Zi Wh (Zi Nz (Zi Wh (Zi Z4 (Zi YX (Za 3) (Za 3)) (Zi YX (eC (.int 7)) (Za 1))) (eC (.int 999961))) (eC (.int 11))) (Za 2))))))))
noncomputable def Zw:List PV->Option PV:=YL 5 Rn
noncomputable def Sv:XS:=(Zn (Zs 4 (eP (Zc Ox [eC (.int 9),Zi Z4 (Zi ZS (Zi ZS (Za 0) (Za 1)) (Za 2)) (Za 3)])))
  (Zn (WA 0 (Za 1) (Za 2) (Za 4))
  (WA 0 (Za 2) (Za 1) (Za 4))))
noncomputable def WB:List PV->Option PV:=ED 5 Sv
noncomputable def Pm:XS:=(Zn (Zs 2 (Zc Yf [Za 0,eC (.int 0)]))
  (Zn (Zs 3 (eP (Zi Z4 (eC (.int 1)) (Zc Zw [Za 2,eC (.int 0),Za 1]))))
  (Zn (Zs 4 (Zt 1 [3] (ZZ [Za 3]) (.one 0) ZF (Zi OE (SW [eC (.int 0)]) (Za 1))))
  (Zn (Zs 5 (SW []))
  (Zn (YD [4,5] (ZZ [Za 3]) (.one 6) (UH 5 (Zc Zw [Zc Yf [Za 0,Zi Z4 (eC (.int 6)) (Za 6)],eC (.int 10),Zi Z4 (Za 6) (eC (.int 1))]) (Za 6)))
  (Zn (YD [4,5] (YQ [eC (.int 1),Za 3]) (.one 6) (Zn (Zs 7 (Zc Yf [Za 0,Za 6]))
  (OJ 4 WB [Zi ZS (Za 5) (Za 6),Zi ZS (Za 5) (Zc Zw [Za 7,eC (.int 1),Za 6]),Zi Z4 (eC (.int 1)) (Zc Zw [Za 7,eC (.int 2),eC (.int 3)])])))
  (Zn (S6 (xB (Zi Ki (Za 3) (eC (.int 1)))) (YD [4,5] (ZZ [Zc Zw [Za 2,eC (.int 3),eC (.int 6)]]) (.one 6) (Zn (Zs 7 (Zc Yf [Za 0,Zi Z4 (eC (.int 7)) (Za 6)]))
  (Zn (Zs 8 (Zc Zw [Za 7,eC (.int 4),Za 3]))
  (Zn (Zs 9 (eP (Zi Wh (Zi Z4 (Zi Z4 (Za 8) (eC (.int 1))) (Zc Zw [Za 7,eC (.int 5),Zi XH (Za 3) (eC (.int 1))])) (Za 3))))
  (OJ 4 WB [Za 8,Za 9,Zi Z4 (eC (.int 1)) (Zc Zw [Za 7,eC (.int 6),eC (.int 2)])]))))) YB)
  (ZT (eP (Zc ZW [Zt 1 [] (Vb (Za 4)) (.one 0) ZF (Zc ZW [Za 0])]))))))))))
noncomputable def Pn:List PV->Option PV:=YL 10 Pm
noncomputable def LL:XS:=(ZT (eP (Zc ZW [Zt 2 [3,1,2,0] (OC aB aB [Za 0,Za 1]) (.many [0,1]) ZF (Zi Js (Zi XH (Zi QN (Zi ZS (Za 3) (Za 4)) (Za 0)) (Zi QN (Zi ZS (Za 5) (Za 4)) (Za 1))) (Za 2))])))
noncomputable def Tp:List PV->Option PV:=YL 4 LL
noncomputable def OL:XS:=(Zn (Zs 1 (Zc Vj [Za 0]))
  (Zn (Zs 2 (eP (eC (.int 1))))
  (Zn (YD [1] (ZZ [Zc Z5 [Za 0]]) (.one 3) (Zn (Zs 4 (eP (Zi ZS (Za 1) (Za 3))))
  (Zn (Zs 1 (Zt 2 [3,4,2] (OB aC [Za 1]) (.many [0,1]) ZF (eP (GD (xB (Zi (VB aB) (Za 0) (Za 2))) (Za 1) (Zc Tp [Za 1,Za 3,Za 2,Za 4])))))
  (Zs 2 (eP (Zi ZS (Za 4) (Za 3)))))))
  (Jt 1 (Za 2)))))
noncomputable def Ro:List PV->Option PV:=YL 5 OL
noncomputable def Jw:XS:=(ZT (eP (Zc ZW [Zt 1 [1,0] (Vb (Za 2)) (.one 0) ZF (GD (xB (Zi (VB aB) (Za 0) (Za 1))) (Zc VN [Za 2,Za 1]) (FU Hg (Zi ZS (Zi ZS (Za 2) (Za 1)) (Za 0))))])))
noncomputable def Rq:List PV->Option PV:=YL 3 Jw
noncomputable def Tq:XS:=(Zn (Zs 2 (Zt 1 [1] (ZZ [Zc Z5 [Za 0]]) (.one 0) (xB (Zi (VB aC) (Za 0) (Za 1))) (eP (Za 0))))
  (ZT (eP (Zc ZW [Zt 1 [0,2] (Vb (Za 2)) (.one 0) ZF (Zc Rq [Za 1,Za 0,Za 2])]))))
noncomputable def Y1:List PV->Option PV:=YL 3 Tq
noncomputable def Hw:XS:=(ZT (eP (Tf (Zc W6 [Za 0,eC (.ty "tuple")]) (Tf (Zi (VB aB) (Zc Z5 [Za 0]) (Za 1)) (Zc R6 [Zt 1 [] (V8 (Za 0)) (.one 0) ZF (Zc Yv [Za 0])])))))
noncomputable def Sw:List PV->Option PV:=YL 2 Hw
end PW
namespace L2
open PySem PySem.Spec PyProof.Rows
abbrev WJ:=aH->cx->List (List Sn×V)->It
end L2
namespace VL
open PySem PySem.Spec PyProof.Rows L2
variable {K:aD}
instance (x:ah) (n:Int):Decidable (MulOk x n):=by unfold MulOk;infer_instance
end VL
set_option maxHeartbeats 3200000
namespace VX
open PySem PySem.Spec PyProof.Rows L2 VL
abbrev XR:=ZD->Option ah
noncomputable def Bk(K:aD)(O:List Nat)(fx:XR)(E:XK):TS:=λ_ σ H=>∃H0 fps s n,Rel K O H0 fps s σ H/\fx s=aA n/\∀C H',gw K cJ n=aA (aA (.ref C))->Same H0 H'->E (.ref C) none H'
noncomputable def VX(X:Cx)(O:List Nat)(E:XK)(st:b7)(fx:XR):Prop:=PS X st (Bk X.K O fx E)
abbrev XF:=ZD->Option (ah×PV)
end VX
namespace VL
open PySem PySem.Spec PyProof.Rows L2
theorem Inv.freezeL{X:Cx}{j:List (aH×cx)}{i:Sf}{H:Hp}{s:aL}{d:aH}{f:List V}{o:cx}(I:L2.Inv X j i H s)(g:H d=aA (.lst f))(m:s.heap.get? d=aA o) :
  L2.Inv X j i (upd H d (.frz o (.lst f))) s:=by
 have ne:∀b u,H b=aA u->(∀k,u≠.lst k)->b≠d:=λb u q n z=>by rw[z,g] at q;exact n _ (av q).symm
 have p:∀b,H b=none->b≠d:=λb q z=>by rw[z,g] at q;cases q
 have un:Un X.fs [] H (upd H d (.frz o (.lst f))) s.heap s.heap:=
  ⟨λb o q _ _ _=>q,λb o q _ _ _=>⟨o.slots,q⟩,λb o q n _=>by rw[upd_ne (p b n)];exact n,λb o q _=>⟨o,q⟩,
   λb f q=>by rw[upd_ne (ne b _ q λ_ z=>nomatch z)];exact q,λb o u q=>by rw[upd_ne (ne b _ q λ_ z=>nomatch z)];exact q,λb r q=>⟨#[],by rw[upd_ne (ne b _ q λ_ z=>nomatch z),q];simp⟩⟩
 have h:HOk X.prog X.w (upd H d (.frz o (.lst f))) s.heap:=λb u q=>by
  have a:∀c y,H c=aA (.own y)->upd H d (.frz o (.lst f)) c=aA (.own y):=λc y z=>by rw[upd_ne (ne c _ z λ_ z=>nomatch z)];exact z
  have e:∀c xs',H c=aA (.tup xs')->upd H d (.frz o (.lst f)) c=aA (.tup xs'):=λc y z=>by rw[upd_ne (ne c _ z λ_ z=>nomatch z)];exact z
  by_cases l:b=d
  ·subst l;rw[Zq] at q;cases q;exact⟨m,(I.hok b _ g).stay (λ_ _ _ z=>z) (λc z=>a c _ z) e λc u z=>by rw[upd_ne (ne c _ z λ_ z=>nomatch z)];exact z⟩
  ·rw[upd_ne l] at q;exact(I.hok b u q).stay (λ_ _ _ z=>z) (λc z=>a c _ z) e λc u z=>by rw[upd_ne (ne c _ z λ_ z=>nomatch z)];exact z
 have:=I.un (t':=s.toks) un h;exact this
noncomputable def R9(f:XE):XE:=λs=>(f s).bind λl=>match l with
 | .lst m=>(X2 m).map λns=>.cst (iL ns)
 | _=>none
theorem Tr{X:Cx}{e:au}{f:XE}(h:VM X e f):VE X e (R9 f):=by
 intro J s t H Q I ⟨P,st,l,N,env,D,k⟩;obtain⟨m,x,i⟩:=Ze (D)
 cases m with
 | lst ms=>
  obtain⟨j,A,L⟩:=map_some (i);subst L;have B:=XJ A;subst B;refine Yz (h J s t H (λv c=>∃p,v = .ref p/\c p=aA (.lst (j.map V.int))/\Same H c/\H p=none) I ⟨st,.lst (iL j),env.free,x,λv U W d is S C=>?_⟩) λu s1 ⟨v,c,g,y,p,F,a,d,E⟩=>?_
  ·obtain⟨p,R,M,rfl,a,G,rfl⟩:=is.lst_inv;obtain⟨rfl,rfl⟩:=G.iL;exact⟨p,rfl,a,d,(C p (by simp)).1⟩
  ·subst F;obtain⟨z,O,n,r,T,e⟩:=g.lstM a;refine⟨.ref p,_,Inv.freezeL g a e,y,k _ _ [] (λb o q=>?_) ?_ (by simp)⟩
   ·rw[upd_ne (λw=>by rw[w,E] at q;cases q)];exact d b o q
   ·unfold Is;exact⟨p,_,rfl,.inl ⟨_,Zq⟩,Iss.ofInts _⟩
 | _=>cases i
end VL
namespace L2
open PySem PySem.Spec PyProof.Rows
abbrev MR(x:ah):ah->Bool:=λy=>y==x
structure CellF(N:List ah)(around scope:dA)(x:ah)(fr:List ah)(ix:List Nat):Prop where
 kind:scope.kind = .function
 cf:∀n acc,fj n scope.names acc=(x,n)::acc
 pc:∀h,jX h scope.names=h.push { cls:=.type "cell",data:=.cell none }
 cells:∀y∈scope.names,y.2 = .cell->y.1=x
 names:∀y∈scope.names,y.2 = .local->scope.names.lookup y.1=aA .local
 frees:∀y∈scope.names,y.2 = .free->(around.names.lookup y.1=aA .cell\/around.names.lookup y.1=aA .free)
 slots:fr.map aA=ix.map (λi=>N[i]?)
 outs:∀z∈fr,(z,bF)∈scope.names
 apart:∀z∈fr,scope.names.lookup z=aA .free
 ne:∀z∈fr,z≠x
theorem CellF.clos{X:Cx}{g:List (aH×cx)}{b:St}{H:Hp}{s:aL}{a:dA}{x:ah}{fr:List ah}{ix:List Nat}(S:CellF X.N X.env.scope a x fr ix)(I:Inv X g b H s):∀y∈a.names,y.2 = .free->(X.env.cells.lookup y.1).isSome=aC:=λy d f=>by obtain⟨c,e⟩:=I.ok.has y.1 (S.frees y d f);rw[e];rfl
theorem LM{M:Model}{A:bj}{E:aF->aL->Prop}{s:aL}{N:List ah}{d b:dA}{a:aH}{f:ah}{c:jQ}{x:ah}{fr:List ah}{ix:List Nat}{cl:List (ah×aH)}{Q:jQ->aL->Prop}(S:CellF N d b x fr ix)
  (i:Q (newEnv b s.heap.objs.size a ((x,s.heap.objs.size+1)::cl) f none .none (aA c) ic) { s with heap:=(s.heap.push { cls:=.type "dict",data:=.dict #[] }).push { cls:=.type "cell",data:=.cell none } }) :
  bB M A (gF b a cl [] f none .none (aA c)) Q E s:=by
 simp only[gF,Option.isSome_some,if_true];refine aJ (wpAny_alloc ?_);refine aJ (wpAny_layCells _ (λh g cells=>by cases hkc:g==b5<;>simp[hkc]) _ _ _ _ ?_);refine aJ (ag (ag ?_));have e:(s.heap.push { cls:=.type "dict",data:=.dict #[] }).objs.size=s.heap.objs.size+1:=bp ..;rw[S.pc];simp only[S.cf,e];exact i
theorem Yp{x y:ah}{a c:aH}{cl:List (ah×aH)}(h:((x,a)::cl).lookup y=aA c):(y=x/\c=a)\/(y≠x/\cl.lookup y=aA c):=by
 rw[bI] at h
 cases q:y==x with
 | true=>rw[q] at h;exact .inl ⟨by simpa using q,by simpa using h.symm⟩
 | false=>rw[q] at h;exact .inr ⟨by simpa using q,h⟩
section
variable {X:Cx} {tg k6 iter:au} {k5:List au} {scope:dA} {pos:di} {x:ah} {fr:List ah} {ix:List Nat} {wi:TI} {g:TG} {tt:TT} {te:TE}
abbrev CC(X:Cx)(scope:dA)(x:ah)(C:aH):List (ah×aH):=(x,C+1)::Y9 X.env.cells scope.names []
theorem NV{jz:List (aH×cx)}{B:St}{J:Hp}{s2:aL}{L:List aH}{h₁:bU}{tk:Nat}{C:aH}(S:CellF X.N X.env.scope scope x fr ix)(a:Inv X jz B J s2)(f2:∀b∈L,Wq X jz J b)(H:∀b∈L,b<s2.heap.objs.size)
  (E:s2.heap.objs.size<=C) (hns:h₁.Ns C λ_=>none) (U:h₁.IsCell (C+1) none) (t:∀b o,s2.heap.get? b=aA o->h₁.get? b=aA o) :
  Inv (Oa (MR x) X (x::fr) scope (CC X scope x C) C s2 J L) [] (ZP 1 ix B) J { s2 with heap:=h₁,toks:=tk }:=by
 have O:=a.stkSub;have cs:=S.clos a;have sub:∀y c,(Y9 X.env.cells scope.names []).lookup y=aA c->X.env.cells.lookup y=aA c:=λy c e=>Wf scope.names [] cs (λh=>by simp at h) e;have lt:∀y c,(Y9 X.env.cells scope.names []).lookup y=aA c->c<s2.heap.objs.size:=λy c e=>by obtain⟨v,q⟩:=a.cell y c (sub y c e);exact q.lt
 have N:(Oa (MR x) X (x::fr) scope (CC X scope x C) C s2 J L).Ok:=by
  refine⟨a.ok.mod,S.kind,a.ok.glob,a.ok.blt,E,λy z c A f=>?_,λy Y=>?_,λy c Z e=>?_,a.ok.hd,a.ok.frames,.inl rfl,λb w=>⟨?_,λy c e=>?_⟩,a.bs,?_,λb o e w=>?_,λb w z=>?_,a.stack,a.stkFree,a.ok.tab.un a.base,λ_ z=>absurd rfl z⟩
  ·rcases Yp A with⟨s,d⟩ | ⟨s,d⟩<;>rcases Yp f with⟨b1,M⟩ | ⟨b1,M⟩
   ·rw[s,b1]
   ·have h:=lt z c M;rw[d] at h;exact absurd (a0 h E) (gG.mpr (iO C))
   ·have h:=lt y c d;rw[M] at h;exact absurd (a0 h E) (gG.mpr (iO C))
   ·exact a.ok.inj y z c (sub y c d) (sub z c M)
  ·have Y:=Y
   have:∃k',(relabel scope X.env).names.lookup y=aA k'/\(k' = .cell\/k' = .free):=by
    rcases Y with h | h
    ·exact⟨_,h,.inl rfl⟩
    ·exact⟨_,h,.inr rfl⟩
   obtain⟨k',e,W⟩:=this;obtain⟨k,e0⟩:=Xo e;have P:=Yr (env:=X.env) e0;have e:(scope.names.map λ(n,k)=>if(k==bF&&X.env.scope.kind==.function&&X.env.kindOf n==aA .cell) then(n,b5) else(n,k)).lookup y=aA k':=e;rw[P] at e;have m:=cW e0;by_cases G:y=x
   ·subst G;exact⟨C+1,by show((y,C+1)::_:List (ah×aH)).lookup y=_;simp[bI]⟩
   cases k with
   | free=>
    obtain⟨c,R⟩:=bZ.mp (Wg (cells:=X.env.cells) _ [] m);refine⟨c,?_⟩;show((x,C+1)::_:List (ah×aH)).lookup y=_;rw[bI,show(y==x)=aB by simpa using G];exact R
   | cell=>exact absurd (S.cells _ m rfl) G
   | _=>simp at e;subst e;rcases W with z | z<;>cases z
  ·show s2.heap.objs.size<=c;have Z:(y==x)=aC:=Z;rcases Yp e with⟨s,d⟩ | ⟨s,d⟩
   ·rw[d];exact fD E
   ·exact absurd (by simpa using Z) s
  ·exact az (a0 (H b w) E)
  ·rcases Yp e with⟨s,d⟩ | ⟨s,d⟩
   ·rw[d];exact du (a0 (H b w) (fD E))
   ·exact(f2 b w).2.2.2.2.1 y c (sub y c d)
  ·exact aS a.ok.bsz a.sz
  ·rcases(f2 b w).2.2.2.1 with z | z
   ·exact a.ok.noex b o e z
   ·exact absurd (a0 (aR (a.ok.bs b o e).1) z) (br _)
  ·rcases af.mp (O b z) with e | e
   ·exact(f2 b w).2.1 e
   ·exact(f2 b w).2.2.1 e
 have sl:fr.length=ix.length:=by simpa using congrArg fK S.slots
 refine⟨N,rfl,a.bare,Un.kept t,⟨_,hns,λi y v A f g=>?_⟩,λy c e=>?_,a.hok.fresh E,λy c e=>?_,λp hp=>absurd (show p∈([]:List (aH×cx)) from hp) (by simp),a.hok.kept t,?_⟩
 ·have A:(x::fr)[i]?=aA y:=A;unfold ZP at f
  cases i with
  | zero=>simp at f
  | succ i=>
   have A:fr[i]?=aA y:=by simpa using A
   have f:(ix.map λi=>(B[i]?).join)[i]?=aA (aA v):=by simpa using f
   rw[aQ] at f
   cases ej:ix[i]? with
   | none=>rw[ej] at f;cases f
   | some j=>
    rw[ej] at f;have f:(B[j]?).join=aA v:=by simpa using f
    have f:B[j]?=aA (aA v):=by
     cases q:B[j]? with
     | none=>rw[q] at f;cases f
     | some z=>rw[q] at f;exact congrArg aA f
    have hN:X.N[j]?=aA y:=by have q:=congrArg (λl=>l[i]?) S.slots;simp only[aQ,A,ej] at q;exact(av q).symm
    have D:=dk A;have hm:=S.outs y D;have hk:=S.frees _ hm rfl;obtain⟨m,hn,hl⟩:=a.loc;obtain⟨u,r,l⟩:=hl j y v hN f (by rcases hk with k | k;exact .inr (.inl k);exact .inr (.inr k));refine⟨u,r,?_⟩;rcases l with⟨k,_⟩ | ⟨_,c,R,F⟩
    ·have k:X.env.scope.names.lookup y=aA .local:=k;rcases hk with q | q<;>rw[k] at q<;>cases q
    ·obtain⟨c',I⟩:=bZ.mp (Wg _ [] hm);have ec:=sub y c' I;rw[R] at ec;cases ec;refine .inr ⟨?_,c,?_,?_⟩
     ·have g:=g;rcases g with g | g
      ·have P:=Yr (env:=X.env) (S.apart y D);have g:(scope.names.map λ(n,k)=>if(k==bF&&X.env.scope.kind==.function&&X.env.kindOf n==aA .cell) then(n,b5) else(n,k)).lookup y=aA .local:=g;rw[P] at g;exfalso;split at g<;>cases g
      ·exact g
     ·show((x,C+1)::_:List (ah×aH)).lookup y=_;rw[bI,show(y==x)=aB by simpa using S.ne y D];exact I
     ·obtain⟨o,T,Q⟩:=F;exact⟨o,t _ _ T,Q⟩
 ·rcases Yp e with⟨s,d⟩ | ⟨s,d⟩
  ·rw[d];exact⟨_,U⟩
  ·obtain⟨v,o,T,Q⟩:=a.cell y c (sub y c d);exact⟨v,o,t _ _ T,Q⟩
 ·rcases Yp e with⟨s,d⟩ | ⟨s,d⟩
  ·rw[d];exact a.hok.fresh (by omega)
  ·exact a.freeC y c (sub y c d)
 ·show(ZP 1 ix B).length=(x::fr).length;unfold ZP;rw[bH,cX,aO,bg,sl];omega
theorem Po{P:List (aH×cx)}{M:St}{I:Hp}{s2:aL}{Y:List aH}{Z:aH}{tn:Nat->bU->Prop}{J:It}{Fin:List V->Hp->Prop}{RR:aF->aH->jv->aL->Prop}{E:aF->aL->Prop}
  (k:X.calm=aC) (S:CellF X.N X.env.scope scope x fr ix)
  (hg:∀cl C s H ex,PG (Oa (MR x) X (x::fr) scope cl C s H ex) tg g) (ht:∀cl C s H ex,Nx (Oa (MR x) X (x::fr) scope cl C s H ex) k5 tt) (he:∀cl C s H ex,PE (Oa (MR x) X (x::fr) scope cl C s H ex) k6 te)
  (L:Inv X P M I s2) (T:QU X.prog X.w X.K tg J Y Z tn) (B:tn 0 s2.heap) (f2:∀b∈Y,Wq X P I b)
  {W:Nat->Nat->List V->Hp->Prop} {m0:Nat} (w0:W 0 m0 [] I)
  (turn:∀i m ys H,W i m ys H->ys.length<=sizeLine/\
   ((J.stop i H/\Fin ys H)\/
    (J.go i H/\∃N:List V->Hp->Prop,(∀ys' H',N ys' H'->∃m',m'<m/\W (i+1) m' ys' H')/\
     ∀x H',J.yld i H x H'->g x (ZP 1 ix M) H' λj I=>j.drop 1=(ZP 1 ix M).drop 1/\tt j I λb H3=>if b=aC then te j H3 λy H4=>N (ys++[y]) H4 else N ys H3)))
  (Q:∀(D C:aH)(oC:cx)(m:ah->Option aF)(s':aL)(H':Hp)(ys:List V),Inv X (P++[(C,oC)]) M (upd H' D (.lst ys)) s'->s'.heap.get? C=aA oC->s'.heap.Ns C m->Wq X P (upd H' D (.lst ys)) C->H' D=none->Fin ys H'->RR (.ref D) C (.ok .next) s') :
  bB (model X.prog X.w) X.A (newList []) (λw G=>bB (model X.prog X.w) X.A (gF scope X.env.globals (Y9 X.env.cells scope.names []) [] X.env.qual none .none (aA X.env)) (λf A=>
   gp (model X.prog X.w) X.A (.compStart (.ListComp k6 [⟨tg,iter,k5,0⟩] scope pos) 0 (.ref Z) w { f with scope:=relabel scope X.env }) (RR w f.locals) A) E G) E s2:=by
 have F:∀b∈Y,b<s2.heap.objs.size:=λb O=>by obtain⟨o,e,_⟩:=T.obj 0 s2.heap B b O;exact aR e
 refine cu (LM S ?_)
 dsimp only
 generalize p:s2.heap.push { cls:=.type "list",dict:=none,data:=.seq ([]:List aF).toArray }=G2;have R:G2.objs.size=s2.heap.objs.size+1:=by rw[<-p,bp]
 have a:=(bU.Ns.new G2 (.type "dict")).push { cls:=.type "cell",data:=.cell none };generalize d:(G2.push { cls:=.type "dict",data:=.dict #[] }).push { cls:=.type "cell",data:=.cell none }=h₁ at a ⊢;have ext:∀b o,G2.get? b=aA o->h₁.get? b=aA o:=λb o e=>d▸aE _ (aE _ e);have u:h₁.IsCell (G2.objs.size+1) none:=by refine⟨{ cls:=.type "cell",data:=.cell none },?_,rfl⟩;rw[<-d,show G2.objs.size+1=(G2.push { cls:=.type "dict",data:=.dict #[] }).objs.size from(bp ..).symm];exact aZ _ rfl
 generalize hCC:G2.objs.size=C at a R u ⊢;generalize n:s2.heap.objs.size=D at R ⊢;have hDC:D≠C:=by omega
 have l:∀b,b<s2.heap.objs.size->b≠C/\b≠D:=λb O=>by rw[n] at O;exact⟨az (by omega),az O⟩
 have t:∀b o,s2.heap.get? b=aA o->h₁.get? b=aA o:=λb o e=>ext b o (p▸aE _ e)
 have r:h₁.get? D=aA { cls:=.type "list",data:=.seq ([]:List aF).toArray 0 }:=by
  have e0:G2.get? D=aA { cls:=.type "list",data:=.seq ([]:List aF).toArray 0 }:=by rw[<-p,<-n];exact aZ _ rfl
  exact ext _ _ e0
 have I0:=λtk=>NV (tk:=tk) S L f2 F (C:=C) (by omega) a u t;refine Qy (s2:=s2) (h₁:=h₁) (fv:=MR x) (N:=x::fr) (C:=C) (D:=D) (cl:=CC X scope x C) (kk:=1) (ix:=ix) k (hg _ _ _ _ _) (ht _ _ _ _ _) (he _ _ _ _ _) L T B f2 w0 turn Q F R n t r I0 λy c e z=>?_;rcases Yp e with⟨a1,U⟩ | ⟨a1,U⟩
 ·have q:C+1=D:=U.symm.trans z;omega
 ·obtain⟨v,q⟩:=L.cell y c (Wf scope.names [] (S.clos L) (λh=>by simp at h) U);exact(l c q.lt).2 z
theorem LN(c:X.calm=aC)(w:PI X tg iter wi)(S:CellF X.N X.env.scope scope x fr ix)
  (z:∀cl C s H ex,PG (Oa (MR x) X (x::fr) scope cl C s H ex) tg g) (t:∀cl C s H ex,Nx (Oa (MR x) X (x::fr) scope cl C s H ex) k5 tt) (M:∀cl C s H ex,PE (Oa (MR x) X (x::fr) scope cl C s H ex) k6 te)
  (n:∀x,bT iter X.env x=pure x:=by intro _;rfl):PE X (.ListComp k6 [⟨tg,iter,k5,0⟩] scope pos) (SO 1 ix wi g tt te):=by
 intro E s k H Q I h;refine eI rfl n (X1 (S.clos I)) S.kind S.names (Yz (w E s k H _ I h) λv s1 r=>Yz r λL s2 q=>?_);obtain⟨N,Z,Y,J,H2,e,j,T,i,f2,W,⟨O,y⟩,turn⟩:=q;subst e;refine Po c S z t M j T i f2 y turn ?_;intro D C R m U A l G F u a B d;refine⟨m,u,λP f=>⟨.ref D,upd A D (.lst l),?_,rfl,d D B⟩⟩;exact(G.unpinned).turned (λb o p e=>f.extBut b o p e) a.1 a.2.1 a.2.2.2.1 a.2.2.2.2.1 a.2.2.2.2.2
noncomputable def NW(N:List ah)(around scope:dA)(x:ah)(fr:List ah)(ix:List Nat):Bool:=
 (match scope.kind with | .function=>aC | _=>aB)&&(scope.names.filter (λy=>y.2==.cell)==[(x,.cell)])&&scope.names.all (λy=>y.2 != .local || scope.names.lookup y.1==aA .local)&&
 scope.names.all (λy=>y.2 != .free || (around.names.lookup y.1==aA .cell || around.names.lookup y.1==aA .free))&&(fr.map aA==ix.map (λi=>N[i]?))&&
 fr.all (λz=>scope.names.contains (z,bF))&&fr.all (λz=>scope.names.lookup z==aA .free)&&fr.all (λz=>z != x)
theorem GK{x:ah}:∀(names:List (ah×dB))(n:Nat)(a:List (ah×aH)),(names.filter (λy=>y.2==.cell)=[(x,.cell)]->fj n names a=(x,n)::a)/\(names.filter (λy=>y.2==.cell)=[]->fj n names a=a)
 | [],n,a=>⟨λh=>by simp at h,λ_=>rfl⟩
 | (y,k)::r,n,a=>by
  have b:=λn a=>GK (x:=x) r n a;unfold fj
  cases q:k==b5 with
  | true=>
   rw[k8 rfl,fJ,show((y,k).2==b5)=aC from q,k8 rfl];refine⟨λh=>?_,λh=>by simp at h⟩;injection h with h1 h2;cases h1;exact(b _ _).2 h2
  | false=>
   rw[k9 bO,fJ,show((y,k).2==b5)=aB from q,k9 bO];exact b n a
theorem GL{x:ah}:∀(names:List (ah×dB))(h:bU),(names.filter (λy=>y.2==.cell)=[(x,.cell)]->jX h names=h.push { cls:=.type "cell",data:=.cell none })/\(names.filter (λy=>y.2==.cell)=[]->jX h names=h)
 | [],h=>⟨λh=>by simp at h,λ_=>rfl⟩
 | (y,k)::r,h=>by
  have a:=λh=>GL (x:=x) r h;unfold jX
  cases q:k==b5 with
  | true=>
   rw[k8 rfl,fJ,show((y,k).2==b5)=aC from q,k8 rfl];refine⟨λh=>?_,λh=>by simp at h⟩;injection h with h1 h2;exact(a _).2 h2
  | false=>
   rw[k9 bO,fJ,show((y,k).2==b5)=aB from q,k9 bO];exact a h
theorem LO{N:List ah}{b a:dA}{x:ah}{fr:List ah}{ix:List Nat}(h:NW N b a x fr ix=aC):CellF N b a x fr ix:=by
 unfold NW at h;simp only[bW] at h;obtain⟨⟨⟨⟨⟨⟨⟨i,c⟩,m⟩,p⟩,l⟩,o⟩,j⟩,k⟩:=h;have c:a.names.filter (λy=>y.2==.cell)=[(x,.cell)]:=by simpa using c
 refine⟨?_,λn g=>(GK _ n g).1 c,λh=>(GL _ h).1 c,λy f e=>?_,λy f e=>?_,λy f e=>?_,by simpa using l,λz d=>?_,λz d=>?_,λz d=>?_⟩
 ·split at i
  ·assumption
  ·cases i
 ·have:y∈a.names.filter (λy=>y.2==.cell):=fP.mpr ⟨f,by rw[e];rfl⟩;rw[c] at this;rw[aw.mp this]
 ·have:=aq.mp m y f;rw[e] at this;simpa using this
 ·have:=aq.mp p y f;rw[e] at this;simpa using this
 ·simpa using aq.mp o z d
 ·simpa using aq.mp j z d
 ·simpa using aq.mp k z d
end
end L2
namespace VL
open PySem PySem.Spec PyProof.Rows L2
section
variable {X:Cx} {tg k6 iter:au} {k5:List au} {scope:dA} {pos:di} {fi:XL} {T:Tgt} {ft:XT} {fe:XE}
theorem LP(x:ah)(fr:List ah)(ix:List Nat)(b:X.calm=aC)(f:VI X tg iter fi)(S:NW X.N X.env.scope scope x fr ix=aC)
  (d:∀cl C s H a,PG (Oa (MR x) X (x::fr) scope cl C s H a) tg (gT X.K T)) (c:∀cl C s H a,EA (Oa (MR x) X (x::fr) scope cl C s H a) k5 ft) (h:∀cl C s H a,VM (Oa (MR x) X (x::fr) scope cl C s H a) k6 fe)
  (e:∀i∈T.slots,i<1:=by decide) (g:∀x,bT iter X.env x=pure x:=by intro _;rfl):VM X (.ListComp k6 [⟨tg,iter,k5,0⟩] scope pos) (Zt 1 ix fi T ft fe):=
 PE.imp (LN b f (LO S) d (λcl C s H a=>(show Nx (Oa (MR x) X (x::fr) scope cl C s H a) k5 (Ot X.K ft) from c cl C s H a)) (λcl C s H a=>(show PE (Oa (MR x) X (x::fr) scope cl C s H a) k6 (tM X.K fe) from h cl C s H a)) g) (Pc e)
end
end VL
namespace L2
open PySem PySem.Spec PyProof.Rows
theorem LQ{X:Cx}(B:X.calm=aC):Xk X (.builtin "any") (λm H Q=>∃(b:Bool) (p:aH) (ns:List Int),m=[.ref p]/\Sd b X.K H p (ns.map V.int)/\Q (.bl (ns.any λz=>z != 0)) H):=by
 intro T s L H m S Q I r h;obtain⟨b,p,bs,rfl,C,q⟩:=h;obtain⟨u,rfl,G⟩:=TZ r;cases G;obtain⟨j,l,a,P⟩:=I.seqB C;have D:p<s.heap.objs.size:=let⟨_,e⟩:=a.has;aR e;have k:=l.length;rw[aO] at k;refine call_any_walk (Yd a ?_);refine⟨_,_,_,_,_,_,λi=>bs.getD i 0 != 0,rfl,Walks.seqB (A:=X.A.in1) b (I.ok.hd B) s.heap.objs.size p (az D) j.toArray,⟨IterB.new (aZ _ rfl),a.at λo e=>aE _ e⟩,λi v O R M g F=>?_,λN tk J=>?_⟩
 ·have g:j.toArray[i]?=aA v:=g;have g:j[i]?=aA v:=by simpa using g
  have d:i<bs.length:=by rw[k];exact(aV.mp g).1
  obtain⟨u,n,y⟩:=l.get (i:=i) (x:=.int bs[i]) (by rw[aQ,aN d];rfl);rw[g] at n;cases n;obtain⟨t,rfl⟩:=y;refine PyProof.Rows.truthy_int ?_;have e:bs.getD i 0=bs[i]:=by rw[aM,aN d];rfl
  rw[<-e];exact F
 ·have e:(aI j.toArray.size).any (λi=>bs.getD i 0 != 0)=bs.any λz=>z != 0:=by
   rw[aP,<-k,iA,dy,dy];constructor
   ·rintro⟨i,d,h⟩;have d:=aX.mp d;rw[aM,aN d] at h;exact⟨_,dR d,h⟩
   ·rintro⟨x,E,h⟩;obtain⟨i,d,rfl⟩:=fM.mp E;refine⟨i,aX.mpr d,?_⟩;rw[aM,aN d];exact h
  rw[e];refine⟨.bl (bs.any λz=>z != 0),H,I.kept (λc o f=>J c o ?_ (aE _ f)),rfl,q⟩;intro w;rw[aw.mp w] at f;exact absurd (aR f) (br _)
end L2
namespace VL
open PySem PySem.Spec PyProof.Rows L2
variable {K:aD}
noncomputable def Rr:List PV->Option PV
 | [l]=>(Sh l).bind λm=>(X2 m).map λns=>.bl (ns.any λz=>z != 0)
 | _=>none
theorem Hx:RC K (λd H Q=>∃(b:Bool) (p:aH) (a:List Int),d=[.ref p]/\Sd b K H p (a.map V.int)/\Q (.bl (a.any λz=>z != 0)) H) Rr:=λH vs ls l t h e Q k=>by
 unfold Rr at e;split at e
 ·obtain⟨m,f,n⟩:=Ze e;obtain⟨a,j,rfl⟩:=map_some n;obtain⟨v,rfl,i⟩:=h.one_inv;obtain⟨p,d,r,rfl,c,q,s⟩:=Vz (K:=K) i f;have o:=XJ j;subst o;obtain⟨rfl,rfl⟩:=q.iL;obtain⟨b,g⟩:=Q6 c;exact⟨b,p,a,rfl,g,k _ H [] (Same.refl H) (Is.bl _) λp c=>by simp at c⟩
 ·cases e
abbrev GN:=LB (λ_ j=>j≠0) Int.fmod
theorem Hy{X:Cx}{a b:au}{d fb:XE}{c:di}(e:VE X a d)(f:VE X b fb):VE X (.BinOp a .Mod b c) (Zi GN d fb):=Xm Ip (T3 _ _) e f
end VL
namespace VL
open PySem PySem.Spec PyProof.Rows L2
section
variable {X:Cx} {a b:au} {fa fb:XE} {pos:di}
theorem Jx(g:X.prog.given.tree=none)(d:Room 35 X.A)(b:X.stack=X.env::X.outer)(a:X.env.scope.isGenerator=aB)(c:X.env.scope.isCoroutine=aB):U4 X (ck .FloorDiv) (rI (λ_ j=>j≠0) λi j=>.int (i.fdiv j)):=by
 intro m s l H x y v u Q I k f h;obtain⟨i,j,rfl,rfl,e,q⟩:=h;obtain⟨t,rfl⟩:=k;obtain⟨t',rfl⟩:=f;refine jD e ⟨.int (i.fdiv j),H,I.tok _,⟨_,rfl⟩,q⟩ (.inr (jy I.nolimit ?_ ?_))
 ·have:=d.dp;show X.A.depth+100<iK;omega
 ·exact PySem.SeerAt.of (I.ok.mod.seer.keeps I.bk) g (by rw[I.ok.frames,b]) a c I.ok.blt I.ok.glob
abbrev Jy:=LB (λ_ j=>j≠0) jL
theorem Jz(f:X.prog.given.tree=none)(h:Room 35 X.A)(g:VE X a fa)(i:VE X b fb)(e:X.stack=X.env::X.outer:=by rfl)(c:X.env.scope.isGenerator=aB:=by rfl)(d:X.env.scope.isCoroutine=aB:=by rfl):VE X (.BinOp a .FloorDiv b pos) (Zi Jy fa fb):=Xm (Jx f h e c d) (T3 _ _) g i
end
end VL
namespace VL
open PySem L2
variable {P:bM} {w:bz} {K:aD} {mg:ah->Option aF} {base:bU}
theorem LR{x:ah}{st:b7}{N b:List ah}{k n m:Nat}(D:Def K mg x st)(S:Zl N b (Zg st))
  (d:∀(kV doc pm:aF)(an:Option aH)(a ct:aF)(us:List aF),us.length=b.length->gD (cG x x (YN st) (Yc st) (Zg st) .none kV doc pm an a ct) ⟨us,[]⟩=pure (b.zip us))
  (f:b.length=n):Xl P w K mg base x b (Y6 K (YL m Jn) n) (k+1):=by
 refine D.cal S d (λvs H Q E h=>by rw[f];exact h.1) λi a A c s H vs Q E g h=>?_;obtain⟨_,ls,j,l,_,e,_⟩:=h;cases e
end VL
namespace PW
open PySem L2 VL
noncomputable def OM:XS:=(ZT (Zc Y1 [Za 0,eC (.int 0)]))
noncomputable def XQ:List PV->Option PV:=YL 1 OM
noncomputable def NX:XS:=(ZT (Zt 1 [1] (ZZ [Za 0]) (.one 0) ZF (eP (GD (xB (Zi (VB aB) (Za 0) (Za 1))) (eC (.int 1)) (eC (.int 0))))))
noncomputable def WC:List PV->Option PV:=YL 2 NX
noncomputable def NY:XS:=(Zn (Zs 1 (eP (Zc Z5 [Za 0])))
  (Zn (Zs 2 (Zt 2 [1] (OB aB [Za 0]) (.many [0,1]) ZF (eP (R9 (Zi S8 (Zc Vj [Za 1]) (Zc WC [Za 2,Za 0]))))))
  (Zn (Zs 3 (Zt 1 [1] (ZZ [Za 1]) (.one 0) ZF (eP (R9 (Zi S8 (Zc WC [Za 1,Za 0]) (Zi OE (SW [eC (.int 0)]) (Za 1)))))))
  (ZT (Zi S8 (Za 2) (Za 3))))))
noncomputable def Uc:List PV->Option PV:=YL 4 NY
noncomputable def Si:XS:=(ZT (Zt 1 [2,0] (YQ [Zi Z4 (Za 2) (eC (.int 1)),Za 1]) (.one 0) (xB (Zi (VB aC) (Zi ZS (Zi ZS (Za 2) (Za 0)) (Za 1)) (eC (.int 0)))) (eP (Za 0))))
noncomputable def YH:List PV->Option PV:=YL 3 Si
noncomputable def Ed:XS:=(ZT (Zt 2 [2] (OC aC aC [Za 0,Za 1]) (.many [0,1]) ZF (eP (Zi XH (Za 0) (Zi QN (Za 2) (Za 1))))))
noncomputable def Ts:List PV->Option PV:=YL 3 Ed
noncomputable def W8:XS:=(Zn (Zs 3 (Zc Vj [Za 0]))
  (Zn (Zs 4 (Zc YH [Za 3,Za 1,Za 2]))
  (Zn (X4 (xB (Zi Ki (Zc Z5 [Za 4]) (eC (.int 0)))) (Zn (Zs 5 (eP (Zi ZS (Za 4) (eC (.int 0)))))
  (Zn (S6 (IZ (xB (Zi (VB aB) (Zi ZS (Zi ZS (Za 3) (Za 2)) (Za 2)) (eC (.int 0)))) (xB (Zi GC (Zc NJ [Zi ZS (Zi ZS (Za 3) (Za 5)) (Za 2)]) (Zc NJ [Zi ZS (Zi ZS (Za 3) (Za 2)) (Za 2)])))) (Zn (Zs 6 (eP (Zi ZS (Za 3) (Za 2))))
  (Zn (YZ 3 (Za 2) (Zi ZS (Za 3) (Za 5)))
  (YZ 3 (Za 5) (Za 6)))) YB)
  (Zn (YD [3] (Vb (Za 4)) (.one 7) (YZ 3 (Za 7) (R9 (Zc Ts [Zi ZS (Za 3) (Za 7),Zi ZS (Za 3) (Za 2),Zi Jy (Zi ZS (Zi ZS (Za 3) (Za 7)) (Za 2)) (Zi ZS (Zi ZS (Za 3) (Za 2)) (Za 2))]))))
  (Zs 4 (Zc YH [Za 3,Za 1,Za 2]))))))
  (ZT (Za 3)))))
noncomputable def ZG:List PV->Option PV:=YL 8 W8
noncomputable def Qa:XS:=(ZT (Zt 1 [0] (ZZ [Zc Z5 [Za 0]]) (.one 0) ZF (eP (R9 (Zt 1 [0] (Vb (Za 1)) (.one 0) ZF (eP (Zi ZS (Za 0) (Za 1))))))))
noncomputable def Ym:List PV->Option PV:=YL 1 Qa
noncomputable def X5:XS:=(Zn (Zs 3 (Zc ZG [Za 0,Za 1,Za 2]))
  (Zn (X4 (xB (Zc Rr [Wn Wz (Zi ZS (Za 3) (Za 2)) (Xw (Zi Z4 (Za 2) (eC (.int 1)))) (Xw (Za 1))])) (Zn (Zs 3 (Zc Ym [Zc ZG [Zc Ym [Za 3],Za 1,Za 2]]))
  (Zs 3 (Zc ZG [Za 3,Za 1,Za 2]))))
  (ZT (Za 3))))
noncomputable def YG:List PV->Option PV:=YL 4 X5
noncomputable def ON:XS:=(Zn (Zs 3 (eP (Zi ZS (Zi ZS (Za 0) (Za 2)) (Za 2))))
  (Zn (YD [] (YQ [Zi Z4 (Za 2) (eC (.int 1)),Za 1]) (.one 4) (S6 (xB (Zc K4 [Zt 1 [3] (Vb (Wn Wz (Zi ZS (Za 0) (Za 4)) VD (Xw (Za 1)))) (.one 0) ZF (Zi (VB aC) (Zi GN (Za 0) (Za 1)) (eC (.int 0)))])) (ZT (eP (Za 4))) YB))
  (ZT (eP (eC .non)))))
noncomputable def XU:List PV->Option PV:=YL 5 ON
noncomputable def UR:XS:=(Zn (Zs 3 (Zc YG [Za 0,Za 1,Za 2]))
  (Zn (Zs 4 (Zc XU [Za 3,Za 1,Za 2]))
  (Zn (X4 (xB (KY aC (Za 4))) (Zn (YZ 3 (Za 2) (R9 (Zc Ts [Zi ZS (Za 3) (Za 2),Zi ZS (Za 3) (Za 4),eC (.int 1)])))
  (Zn (Zs 3 (Zc YG [Za 3,Za 1,Za 2]))
  (Zs 4 (Zc XU [Za 3,Za 1,Za 2])))))
  (Zn (S6 (xB (Zi GC (Zi ZS (Zi ZS (Za 3) (Za 2)) (Za 2)) (eC (.int 0)))) (YZ 3 (Za 2) (R9 (Zt 1 [] (Vb (Zi ZS (Za 3) (Za 2))) (.one 0) ZF (eP (FU Hg (Za 0)))))) YB)
  (ZT (Za 3))))))
noncomputable def YR:List PV->Option PV:=YL 5 UR
noncomputable def LS:XS:=(ZT (eP (Zc ZW [Zt 2 [] (OC aB aB [Za 0,Za 1]) (.many [0,1]) ZF (Zi Js (Za 0) (Za 1))])))
noncomputable def VP:List PV->Option PV:=YL 2 LS
noncomputable def Sj:XS:=(ZT (eP (Zc Th [Zt 2 [2,1] (OB aB [Za 0]) (.many [0,1]) ZF (Zi QN (Za 1) (Zi ZS (Zi ZS (Za 3) (Za 0)) (Za 2)))])))
noncomputable def Xd:List PV->Option PV:=YL 3 Sj
noncomputable def OO:XS:=(ZT (eP (Zc ZW [Zt 1 [0,1] (ZZ [Zc Z5 [Za 0]]) (.one 0) ZF (Zc Xd [Za 1,Za 2,Za 0])])))
noncomputable def Vo:List PV->Option PV:=YL 2 OO
noncomputable def Pp:XS:=(ZT (eP (Zc ZW [Zt 1 [1] (V8 (Za 0)) (.one 0) ZF (Zc Vo [Za 0,Za 1])])))
noncomputable def Yy:List PV->Option PV:=YL 2 Pp
noncomputable def MS:XS:=(Zn (Zs 1 (Zc XQ [Za 0]))
  (Zn (Zs 2 (eP (Zc Z5 [Za 1])))
  (Zn (Zs 3 (Zc Uc [Za 1]))
  (Zn (YD [] (ZZ [Za 2]) (.one 4) (Zs 3 (Zc YR [Za 3,Za 2,Za 4])))
  (Zn (Zs 5 (eP (Zc ZW [Zt 1 [3] (ZZ [Za 2]) (.one 0) ZF (Zi ZS (Zi ZS (Za 1) (Za 0)) (Za 0))])))
  (Zn (Zs 6 (eP (Zc ZW [Zt 1 [2] (Vb (Wn Wz (Za 3) VD (Xw (Za 2)))) (.one 0) ZF (Zc ZW [Wn Wz (Za 0) (Xw (Za 1)) VD])])))
  (Zn (Zs 7 (eP (Zc ZW [Zt 1 [2] (Vb (Wn Wz (Za 3) (Xw (Za 2)) VD)) (.one 0) ZF (Zc ZW [Wn Wz (Za 0) VD (Xw (Za 1))])])))
  (Zn (Zs 8 (eP (Zc ZW [Zt 1 [5] (V8 (Zc Yy [Za 1,Za 7])) (.one 0) ZF (Zc VP [Za 0,Za 1])])))
  (Zn (Zs 9 (eP (Zc ZW [Zt 2 [2] (OC aB aB [Zc Yy [Za 6,Za 1],Za 5]) (.many [0,1]) ZF (Zc VP [Za 0,Zi OI (Hh [Za 1]) (Za 2)])])))
  (ZT (eP (Hh [Za 6,Za 8,Za 7,Za 9,Za 5]))))))))))))
noncomputable def Pq:List PV->Option PV:=YL 10 MS
noncomputable def Qb:XS:=(ZT (eP (Zi ZS (Zc Ro [Za 0]) (eC (.int 0)))))
noncomputable def X6:List PV->Option PV:=YL 1 Qb
noncomputable def Pr:XS:=(ZT (Zc X6 [Zc XQ [Za 0]]))
noncomputable def WD:List PV->Option PV:=YL 1 Pr
noncomputable def NZ:XS:=(ZT (eP (Tf (Zc W6 [Za 0,eC (.ty "tuple")]) (Tf (Zi (VB aB) (Zc Z5 [Za 0]) (Za 1)) (Zc R6 [Zt 1 [1] (V8 (Za 0)) (.one 0) ZF (Zc Sw [Za 0,Za 1])])))))
noncomputable def Ud:List PV->Option PV:=YL 2 NZ
noncomputable def JA:XS:=(Zn (S6 (IZ (ND (xB (Zc W6 [Za 0,eC (.ty "tuple")]))) (IZ (xB (Zi (VB aC) (Zc Z5 [Za 0]) (eC (.int 5)))) (ND (xB (Zc Sw [Zi ZS (Za 0) (eC (.int 4)),Za 1]))))) (ZT (eP (eC (.bl aB)))) YB)
  (ZT (eP (Zc R6 [Zt 1 [1] (V8 (Wn Xc (Za 0) VD (Xw (eC (.int 4))))) (.one 0) ZF (Zc Ud [Za 0,Za 1])]))))
noncomputable def Rt:List PV->Option PV:=YL 2 JA
noncomputable def Pu:XS:=Jn
noncomputable def WE:List PV->Option PV:=YL 4 Pu
noncomputable def Pw:XS:=(Zn (S6 (xB (Zi (VB aB) (Zc Z5 [Za 0]) (eC (.int 0)))) (ZT (eP (eC (.int 1)))) YB)
  (Zn (Zs 1 (eP (eC (.int 0))))
  (Zn (YD [] (ZZ [Zc Z5 [Za 0]]) (.one 2) (Zn (Zs 3 (Zt 1 [2] (Vb (Wn Wz (Za 0) (Xw (eC (.int 1))) VD)) (.one 0) ZF (eP (Zi V1 (Wn Xc (Za 0) VD (Xw (Za 1))) (Wn Xc (Za 0) (Xw (Zi Z4 (Za 1) (eC (.int 1)))) VD)))))
  (Zs 1 (eP (Zi Z4 (Za 1) (Zi YX (Zi YX (Zi ZS (Zi ZS (Za 0) (eC (.int 0))) (Za 2)) (Zi XH (eC (.int 1)) (Zi YX (eC (.int 2)) (Zi Wh (Za 2) (eC (.int 2)))))) (Zc WE [Za 3])))))))
  (ZT (eP (Za 1))))))
noncomputable def WG:List PV->Option PV:=YL 4 Pw
noncomputable def Px:XS:=(Zn (S6 (xB (Zi (VB aB) (Zc Z5 [Za 0]) (eC (.int 0)))) (ZT (eP (eC (.int 1)))) YB)
  (Zn (Zs 1 (eP (eC (.int 0))))
  (Zn (YD [] (ZZ [Zc Z5 [Za 0]]) (.one 2) (Zn (Zs 3 (Zt 1 [2] (Vb (Wn Wz (Za 0) (Xw (eC (.int 1))) VD)) (.one 0) ZF (eP (Zi V1 (Wn Xc (Za 0) VD (Xw (Za 1))) (Wn Xc (Za 0) (Xw (Zi Z4 (Za 1) (eC (.int 1)))) VD)))))
  (Zs 1 (eP (Zi Z4 (Za 1) (Zi YX (Zi YX (Zi ZS (Zi ZS (Za 0) (eC (.int 0))) (Za 2)) (Zi XH (eC (.int 1)) (Zi YX (eC (.int 2)) (Zi Wh (Za 2) (eC (.int 2)))))) (Zc WG [Za 3])))))))
  (ZT (eP (Za 1))))))
noncomputable def WH:List PV->Option PV:=YL 4 Px
noncomputable def Py:XS:=(Zn (S6 (xB (Zi (VB aB) (Zc Z5 [Za 0]) (eC (.int 0)))) (ZT (eP (eC (.int 1)))) YB)
  (Zn (Zs 1 (eP (eC (.int 0))))
  (Zn (YD [] (ZZ [Zc Z5 [Za 0]]) (.one 2) (Zn (Zs 3 (Zt 1 [2] (Vb (Wn Wz (Za 0) (Xw (eC (.int 1))) VD)) (.one 0) ZF (eP (Zi V1 (Wn Xc (Za 0) VD (Xw (Za 1))) (Wn Xc (Za 0) (Xw (Zi Z4 (Za 1) (eC (.int 1)))) VD)))))
  (Zs 1 (eP (Zi Z4 (Za 1) (Zi YX (Zi YX (Zi ZS (Zi ZS (Za 0) (eC (.int 0))) (Za 2)) (Zi XH (eC (.int 1)) (Zi YX (eC (.int 2)) (Zi Wh (Za 2) (eC (.int 2)))))) (Zc WH [Za 3])))))))
  (ZT (eP (Za 1))))))
noncomputable def US:List PV->Option PV:=YL 4 Py
noncomputable def Pz:XS:=(Zn (S6 (xB (Zi (VB aB) (Zc Z5 [Za 0]) (eC (.int 0)))) (ZT (eP (eC (.int 1)))) YB)
  (Zn (Zs 1 (eP (eC (.int 0))))
  (Zn (YD [] (ZZ [Zc Z5 [Za 0]]) (.one 2) (Zn (Zs 3 (Zt 1 [2] (Vb (Wn Wz (Za 0) (Xw (eC (.int 1))) VD)) (.one 0) ZF (eP (Zi V1 (Wn Xc (Za 0) VD (Xw (Za 1))) (Wn Xc (Za 0) (Xw (Zi Z4 (Za 1) (eC (.int 1)))) VD)))))
  (Zs 1 (eP (Zi Z4 (Za 1) (Zi YX (Zi YX (Zi ZS (Zi ZS (Za 0) (eC (.int 0))) (Za 2)) (Zi XH (eC (.int 1)) (Zi YX (eC (.int 2)) (Zi Wh (Za 2) (eC (.int 2)))))) (Zc US [Za 3])))))))
  (ZT (eP (Za 1))))))
noncomputable def Xr:List PV->Option PV:=YL 4 Pz
noncomputable def N0:XS:=(Zn (S6 (xB (Zi (VB aB) (Zc Z5 [Za 0]) (eC (.int 0)))) (ZT (eP (eC (.int 1)))) YB)
  (Zn (Zs 1 (eP (eC (.int 0))))
  (Zn (YD [] (ZZ [Zc Z5 [Za 0]]) (.one 2) (Zn (Zs 3 (Zt 1 [2] (V8 (Wn Xc (Za 0) (Xw (eC (.int 1))) VD)) (.one 0) ZF (eP (Zi V1 (Wn Xc (Za 0) VD (Xw (Za 1))) (Wn Xc (Za 0) (Xw (Zi Z4 (Za 1) (eC (.int 1)))) VD)))))
  (Zs 1 (eP (Zi Z4 (Za 1) (Zi YX (Zi YX (Zi ZS (Zi ZS (Za 0) (eC (.int 0))) (Za 2)) (Zi XH (eC (.int 1)) (Zi YX (eC (.int 2)) (Zi Wh (Za 2) (eC (.int 2)))))) (Zc Xr [Za 3])))))))
  (ZT (eP (Za 1))))))
noncomputable def Ue:List PV->Option PV:=YL 4 N0
noncomputable def Xy:XS:=(Zn (Zs 1 (SW []))
  (Zn (YD [1,3] (YQ [eC (.int 1),Zc Z5 [Za 0]]) (.one 2) (Zn (Zs 3 (Zt 1 [0,2] (YQ [eC (.int 1),Zc Z5 [Za 0]]) (.one 0) ZF (eP (Zi XH (eC (.int 0)) (Zi ZS (Zi ZS (Za 1) (Za 2)) (Za 0))))))
  (Zn (YZ 3 (Zi XH (Za 2) (eC (.int 1))) (Zc Th [Zi ZS (Za 0) (Za 2)]))
  (UG 1 (eP (Zc ZW [Za 3]))))))
  (ZT (eP (Zc ZW [Za 1])))))
noncomputable def Xz:List PV->Option PV:=YL 4 Xy
noncomputable def GO:XS:=(Zn (Zs 1 (Zc Pn [Za 0,eC (.int 5)]))
  (Zn (Zs 2 (Zc Pq [Za 1]))
  (Zn (S6 (ND (xB (Zc Rt [Za 2,Zi XH (Zc Z5 [Za 1]) (eC (.int 1))]))) (ZT (eP (eC (.bl aB)))) YB)
  (Zn (Zs 3 (eP (eC (.int 1))))
  (Zn (YD [] (V8 (Zi ZS (Za 2) (eC (.int 4)))) (.one 4) (Zs 3 (eP (Zi QN (Za 3) (Za 4)))))
  (Zn (Zs 5 (Zc WD [Za 1]))
  (ZT (eP (Tf (Zc Yv [Za 5]) (Tf (Zi (VB aB) (Za 3) (Zc Ue [Zc Xz [Za 1]])) (Zi (VB aB) (Za 5) (Za 3))))))))))))
noncomputable def D_law:List PV->Option PV:=YL 6 GO
end PW
namespace VL
open PySem PySem.Spec PyProof.Rows L2
theorem W9{N P:List ah}{h:dA}(a:h.kind = .function:=by rfl)(b:h.isCoroutine=aB:=by rfl)(c:h.isGenerator=aB:=by rfl)(d:N.Nodup:=by decide +kernel)(e:N.take P.length=P:=by rfl)
  (f:∀x∈P,h.names.lookup x=aA .local\/h.names.lookup x=aA .cell:=by decide +kernel) (g:∀y∈h.names,y.2≠.free:=by decide +kernel):Zl N P h:=⟨a,b,c,d,e,f,g⟩
section
variable {X:Cx} {e e1 e2 e3 e4 e5:au} {f f1 f2 f3 f4 f5:XE} {es:List au} {fs:List XE} {x:ah} {p pos pos':di} {k k' n:Nat} {O W:List Nat}
theorem vo(i:Nat)(d:X.N[i]?=aA x:=by rfl)(b:DJ X.env.scope x:=by first | exact ip rfl | exact iM (ip rfl) | exact iM (iM rfl))(c:(x==("__debug__" : ah))=aB:=by decide)
  (a:(x==("__classdict__" : ah))=aB:=by decide):VE X (.Name x pos) (Za i):=Dj (pv i d b c a)
theorem YT(a:VE X e1 f1)(b:aT [e1] X.env=(aB,eval e1 X.env)::aT [] X.env:=by rfl):VA X [e1] [f1]:=Ux a FV b
theorem Us(a:VE X e1 f1)(b:VE X e2 f2)(d:aT [e1,e2] X.env=(aB,eval e1 X.env)::aT [e2] X.env:=by rfl)(c:aT [e2] X.env=(aB,eval e2 X.env)::aT [] X.env:=by rfl):VA X [e1,e2] [f1,f2]:=Ux a (YT b c) d
theorem Sk(a:VE X e1 f1)(b:VE X e2 f2)(c:VE X e3 f3)(e:aT [e1,e2,e3] X.env=(aB,eval e1 X.env)::aT [e2,e3] X.env:=by rfl)(d:aT [e2,e3] X.env=(aB,eval e2 X.env)::aT [e3] X.env:=by rfl)(f:aT [e3] X.env=(aB,eval e3 X.env)::aT [] X.env:=by rfl):VA X [e1,e2,e3] [f1,f2,f3]:=Ux a (Us b c d f) e
theorem C4(a:VE X e1 f1)(b:VE X e2 f2)(c:VE X e3 f3)(d:VE X e4 f4)(g:aT [e1,e2,e3,e4] X.env=(aB,eval e1 X.env)::aT [e2,e3,e4] X.env:=by rfl)(e:aT [e2,e3,e4] X.env=(aB,eval e2 X.env)::aT [e3,e4] X.env:=by rfl)(h:aT [e3,e4] X.env=(aB,eval e3 X.env)::aT [e4] X.env:=by rfl)(f:aT [e4] X.env=(aB,eval e4 X.env)::aT [] X.env:=by rfl):VA X [e1,e2,e3,e4] [f1,f2,f3,f4]:=Ux a (Sk b c d e h f) g
theorem Ru{g:List ah}{D:List PV->Option PV}(C:Xl X.prog X.w X.K X.mg X.base x g (Y6 X.K D n) k)(i:Room k' X.A)(d:VA X (e::es) fs)(h:k<=k':=by decide)(c:Gl X x:=by rfl)(f:fs.length=n:=by rfl)
  (b:(x==("__debug__" : ah))=aB:=by decide) (j:aT (e::es) X.env=(aB,eval e X.env)::aT es X.env:=by rfl) (a:(dj pos (aT es X.env)).any (·.1)=aB:=by rfl) :
  VM X (.Call (.Name x p) (e::es) [] pos) (Zc D fs):=MI C (i.mono h) c d f b j a
theorem Ve{g:List ah}{D:List PV->Option PV}(C:Xl X.prog X.w X.K X.mg X.base x g (Y6 X.K D n) k)(i:Room k' X.A)(d:VA X (e::es) fs)(h:k<=k':=by decide)(c:Gl X x:=by rfl)(f:fs.length=n:=by rfl)
  (b:(x==("__debug__" : ah))=aB:=by decide) (j:aT (e::es) X.env=(aB,eval e X.env)::aT es X.env:=by rfl) (a:(dj pos (aT es X.env)).any (·.1)=aB:=by rfl) :
  VE X (.Call (.Name x p) (e::es) [] pos) (Zc D fs):=VM.ve (MI C (i.mono h) c d f b j a)
theorem vb{id:String}{r:List V->Hp->VK->Prop}{g:List PV->Option PV}(c:Xk X (.builtin id) r)(k:RC X.K r g)(h:X.mg x=none)(f:VA X (e::es) fs)(d:Gl X x:=by rfl)(j:cb x=aA (.builtin id):=by decide +kernel)(i:x≠"__name__":=by decide)(a:(x==("__debug__" : ah))=aB:=by decide)
  (l:aT (e::es) X.env=(aB,eval e X.env)::aT es X.env:=by rfl) (b:(dj pos (aT es X.env)).any (·.1)=aB:=by rfl):VE X (.Call (.Name x p) (e::es) [] pos) (Zc g fs):=Ov c k d h j f i a l b
theorem Sx(g:X.mg "len" = none)(d:VE X e f)(c:Gl X "len":=by rfl)(b:aT [e] X.env=(aB,eval e X.env)::aT [] X.env:=by rfl)(a:(dj pos (aT [] X.env)).any (·.1)=aB:=by rfl):VE X (.Call (.Name "len" p) [e] [] pos) (Zc Z5 [f]):=
 Ov Kt FW c g (by decide +kernel) (YT d b) (by decide) (by decide) b a
theorem YV{a:XE}(i:Nat)(g:X.N.Nodup)(h:VM X e a)(d:X.N[i]?=aA x:=by rfl)(b:Ig X.env.scope x:=by first | exact ip rfl | exact iM rfl)(f:f9 e (aA (.Name x pos')) pos.line X.env=pure aB:=by rfl)(c:X.fn x=aC\/X.env.scope.names.lookup x=aA .local:=by first | exact .inl rfl | exact .inr rfl | assumption) :
  VS X O [i] (.Assign [.Name x pos'] e pos) (Zs i a):=F0 g d b h f c
theorem N1(i:Nat)(d:X.N.Nodup)(c:X.N[i]?=aA x:=by rfl)(a:Ig X.env.scope x:=by first | exact ip rfl | exact iM rfl)(b:X.fn x=aC\/X.env.scope.names.lookup x=aA .local:=by first | exact .inl rfl | exact .inr rfl | assumption):PG X (.Name x pos) (Uu i):=Sq d c a b
theorem Tt(i:Nat){N:List ah}{a:dA}{cl:List (ah×aH)}{C:aH}{s:aL}{H:Hp}{b:List aH}(f:N.Nodup:=by decide +kernel)(e:N[i]?=aA x:=by rfl)(c:Ig (ZA X N a cl C s H b).env.scope x:=by exact ip rfl)(d:(ZA X N a cl C s H b).env.scope.names.lookup x=aA .local:=by rfl):PG (ZA X N a cl C s H b) (.Name x pos) (Uu i):=Sq f e c (.inr d)
end
section
variable {X:Cx} {tg iter k6 e1 e2:au} {fi:XL} {T:Tgt} {ft:XT} {fe f1 f2:XE} {p pos pos':di} {O W:List Nat} {body:List b7} {fb:XS} {scope:dA}
theorem N2(e:VI X tg iter fi)(a:PG X tg (gT X.K T))(g:Kj X O W body fb)(b:iV (model X.prog X.w) X.A X.env X.xe:=by exact fT)(c:X.calm=aC:=by rfl)(d:∀i∈T.slots,i∉O:=by decide)
  (f:∀x,bT iter X.env x=pure x:=by intro _;rfl):VS X O (T.slots++W) (.For tg iter body [] pos) (YD O fi T fb):=F1 b c e a g d f
theorem OP(b:X.mg "range" = none)(d:VE X e1 f1)(c:Gl X "range":=by rfl)(a:aT [e1] X.env=[(aB,eval e1 X.env)]:=by rfl):VI X tg (.Call (.Name "range" p) [e1] [] pos) (ZZ [f1]):=LD c b (YT d (by rw[a];rfl)) a
theorem Dv(e:X.mg "range" = none)(d:VE X e1 f1)(f:VE X e2 f2)(c:Gl X "range":=by rfl)(b:aT [e1,e2] X.env=[(aB,eval e1 X.env),(aB,eval e2 X.env)]:=by rfl)(a:aT [e2] X.env=[(aB,eval e2 X.env)]:=by rfl):VI X tg (.Call (.Name "range" p) [e1,e2] [] pos) (YQ [f1,f2]):=LF c e (Us d f (by rw[b,a]) (by rw[a];rfl)) b a
theorem LU(o:ah)(fr:List ah)(ix:List Nat)(a:VI X (.Name o pos') iter fi)(g:∀{cl C s H ex},VE (ZA X ([o]++fr) scope cl C s H ex) k6 fe)(S:Vi X.N X.env.scope scope [o] fr ix=aC:=by kernel_rfl)
  (e:([o]++fr).Nodup:=by decide +kernel) (b:∀cl C s H ex,Ig (ZA X ([o]++fr) scope cl C s H ex).env.scope o:=by intro _ _ _ _ _;exact ip rfl) (f:∀cl C s H ex,(ZA X ([o]++fr) scope cl C s H ex).env.scope.names.lookup o=aA .local:=by intro _ _ _ _ _;rfl) (c:X.calm=aC:=by rfl) (d:∀x,bT iter X.env x=pure x:=by intro _;rfl) :
  VE X (.ListComp k6 [⟨.Name o pos',iter,[],0⟩] scope pos) (Zt 1 ix fi (.one 0) ZF fe):=UB [o] fr ix c a S (λ_ _ _ _ _=>Sq (i:=0) e rfl (b _ _ _ _ _) (.inr (f _ _ _ _ _))) (λ_ _ _ _ _=>Z2) (λ_ _ _ _ _=>g) (λi a=>by cases a with | head=>exact Nat.zero_lt_one | tail _ h=>cases h) d
end
section
variable {K:aD} {P:bM} {w:bz} {mg:ah->Option aF} {base:bU} {x a b c d e:ah} {st:b7} {N:List ah} {k m:Nat} {O W:List Nat} {f:XS}
abbrev DT(x:ah)(st:b7)(us:List aF)(r:List (ah×aF)):Prop:=∀(kV doc pm:aF)(an:Option aH)(cdv ct:aF),gD (cG x x (YN st) (Yc st) (Zg st) .none kV doc pm an cdv ct) ⟨us,[]⟩=pure r
abbrev Hz(P:bM)(w:bz)(K:aD)(mg:ah->Option aF)(base:bU)(N:List ah)(x:ah)(st:b7)(k:Nat)(O W:List Nat)(f:XS):Prop:=∀{fa:aH}{cdv:aF}{A:bj}{outer:List jQ}{s:aL}{H:Hp}{E:XK},Room k (A.deeper (fI x (Zg st) s.heap.objs.size fa cdv))->Kj (SK Nw P w K mg base N x (Zg st) fa cdv A outer s H E).nox O W (Yc st) f
theorem MT(O:List Nat)(D:Def K mg x st)(S:Zl N [a] (Zg st))(q:Hz P w K mg base N x st k O W f)(h:∀t,DT x st [t] [(a,t)]:=by intro _ _ _ _ _ _ _;rfl)(b:N.length=m:=by rfl)(c:∀i∈O,1<=i:=by decide):Xl P w K mg base x [a] (Y6 K (YL m f) 1) (k+1):=
 Pg m f D S (λ_ _ _ _ _ _ d e=>match d,e with | [t],_=>h t _ _ _ _ _ _) rfl b c λ_ _ _ _ _ _ _ g=>q g
theorem JB(O:List Nat)(D:Def K mg x st)(S:Zl N [a,b] (Zg st))(q:Hz P w K mg base N x st k O W f)(j:∀t u,DT x st [t,u] [(a,t),(b,u)]:=by intro _ _ _ _ _ _ _ _;rfl)(c:N.length=m:=by rfl)(d:∀i∈O,2<=i:=by decide):Xl P w K mg base x [a,b] (Y6 K (YL m f) 2) (k+1):=
 Pg m f D S (λ_ _ _ _ _ _ e g=>match e,g with | [t,u],_=>j t u _ _ _ _ _ _) rfl c d λ_ _ _ _ _ _ _ h=>q h
theorem HA(O:List Nat)(D:Def K mg x st)(S:Zl N [a,b,c] (Zg st))(q:Hz P w K mg base N x st k O W f)(l:∀t u v,DT x st [t,u,v] [(a,t),(b,u),(c,v)]:=by intro _ _ _ _ _ _ _ _ _;rfl)(d:N.length=m:=by rfl)(e:∀i∈O,3<=i:=by decide):Xl P w K mg base x [a,b,c] (Y6 K (YL m f) 3) (k+1):=
 Pg m f D S (λ_ _ _ _ _ _ g h=>match g,h with | [t,u,v],_=>l t u v _ _ _ _ _ _) rfl d e λ_ _ _ _ _ _ _ j=>q j
theorem Bl(O:List Nat)(D:Def K mg x st)(S:Zl N [a,b,c,d] (Zg st))(q:Hz P w K mg base N x st k O W f)(n:∀t u v y,DT x st [t,u,v,y] [(a,t),(b,u),(c,v),(d,y)]:=by intro _ _ _ _ _ _ _ _ _ _;rfl)(e:N.length=m:=by rfl)(g:∀i∈O,4<=i:=by decide):Xl P w K mg base x [a,b,c,d] (Y6 K (YL m f) 4) (k+1):=
 Pg m f D S (λ_ _ _ _ _ _ h j=>match h,j with | [t,u,v,y],_=>n t u v y _ _ _ _ _ _) rfl e g λ_ _ _ _ _ _ _ l=>q l
end
end VL
namespace PW
open PySem L2 VL
noncomputable def Va(i:Nat):b7:=fV.main.body.getD i (.Pass ⟨0,0,0,0⟩)
section
variable (P:bM) (w:bz) (K:aD) (mg:ah->Option aF) (base:bU)
abbrev Rv:Prop:=Xl P w K mg base "_law_cell" ["_law_script","_law_k"] (Y6 K Yf 2) 1
abbrev Rw:Prop:=Xl P w K mg base "_law_part" ["_law_cell_here","_law_turn","_law_many"] (Y6 K Zw 3) 1
abbrev PB:Prop:=Xl P w K mg base "_law_web" ["_law_script","_law_most"] (Y6 K Pn 2) 2
abbrev Tu:Prop:=Xl P w K mg base "ties_at" ["web","house"] (Y6 K VN 2) 1
abbrev Rx:Prop:=Xl P w K mg base "row_of" ["web","house","others"] (Y6 K Rq 3) 2
abbrev Y2:Prop:=Xl P w K mg base "square_without" ["web","base"] (Y6 K Y1 2) 3
abbrev XW:Prop:=Xl P w K mg base "square_of" ["web"] (Y6 K XQ 1) 4
abbrev Ug:Prop:=Xl P w K mg base "unit_row" ["many","at"] (Y6 K WC 2) 1
abbrev Uh:Prop:=Xl P w K mg base "block_of" ["square"] (Y6 K Uc 1) 2
abbrev Xe:Prop:=Xl P w K mg base "rows_to_clear" ["rows","many","place"] (Y6 K YH 3) 1
abbrev PD:Prop:=Xl P w K mg base "less" ["row","by","often"] (Y6 K Ts 3) 1
abbrev Xf:Prop:=Xl P w K mg base "cleared_below" ["block","many","place"] (Y6 K ZG 3) 36
abbrev X7:Prop:=Xl P w K mg base "turned_over" ["block"] (Y6 K Ym 1) 1
abbrev X8:Prop:=Xl P w K mg base "crossed_out" ["block","many","place"] (Y6 K YG 3) 37
abbrev Vp:Prop:=Xl P w K mg base "unfit_row" ["block","many","place"] (Y6 K XU 3) 1
abbrev WI:Prop:=Xl P w K mg base "part_found" ["block","many","place"] (Y6 K YR 3) 38
abbrev Tv:Prop:=Xl P w K mg base "divided" ["line","row"] (Y6 K VP 2) 1
abbrev Xg:Prop:=Xl P w K mg base "row_by_column" ["row","square","column"] (Y6 K Xd 3) 1
abbrev Vq:Prop:=Xl P w K mg base "row_times" ["row","square"] (Y6 K Vo 2) 2
abbrev WK:Prop:=Xl P w K mg base "multiplied" ["one","other"] (Y6 K Yy 2) 3
abbrev PF:Prop:=Xl P w K mg base "parts" ["web"] (Y6 K Pq 1) 39
abbrev Tw:Prop:=Xl P w K mg base "reduced" ["row","by","place","divisor"] (Y6 K Tp 4) 1
abbrev Ry:Prop:=Xl P w K mg base "evened" ["rows"] (Y6 K Ro 1) 2
abbrev X9:Prop:=Xl P w K mg base "determinant" ["square"] (Y6 K X6 1) 3
abbrev WL:Prop:=Xl P w K mg base "tree_count" ["web"] (Y6 K WD 1) 5
abbrev VQ:Prop:=Xl P w K mg base "_law_whole" ["_law_number"] (Y6 K Yv 1) 1
abbrev Sy:Prop:=Xl P w K mg base "_law_row" ["_law_found","_law_houses"] (Y6 K Sw 2) 2
abbrev Ui:Prop:=Xl P w K mg base "_law_square" ["_law_found","_law_size"] (Y6 K Ud 2) 3
abbrev Rz:Prop:=Xl P w K mg base "_law_told" ["_law_found","_law_size"] (Y6 K Rt 2) 4
abbrev WM:Prop:=Xl P w K mg base "_law_weight" ["_law_rows"] (Y6 K WE 1) 1
abbrev WN:Prop:=Xl P w K mg base "_law_weight" ["_law_rows"] (Y6 K WG 1) 2
abbrev WO:Prop:=Xl P w K mg base "_law_weight" ["_law_rows"] (Y6 K WH 1) 3
abbrev WQ:Prop:=Xl P w K mg base "_law_weight" ["_law_rows"] (Y6 K US 1) 4
abbrev WR:Prop:=Xl P w K mg base "_law_weight" ["_law_rows"] (Y6 K Xr 1) 5
abbrev Uj:Prop:=Xl P w K mg base "_law_weight" ["_law_rows"] (Y6 K Ue 1) 6
abbrev XA:Prop:=Xl P w K mg base "_law_web_square" ["_law_web_here"] (Y6 K Xz 1) 1
end
section
variable {P:bM} {w:bz} {K:aD} {mg:ah->Option aF} {base:bU}
abbrev RA:b7:=Va 28
theorem LV:Zl ["_law_script","_law_k"] ["_law_script","_law_k"] (Zg RA):=W9
theorem LW(a:Def K mg "_law_cell" RA)(B:Wt mg):Rv P w K mg base:=
 JB [] a LV λb=>
  (Zd (Wi (KP (vo 1) (Sx B.len (vo 0))) (Zh (Zx (VE.pure (Zk (vo 0) (vo 1))))) Yu)
  (Zh (Zx (VE.pure (YY (Z6 (ZV (ZV (Z6 (vo 1) (vo 1)) (Z6 Zf (vo 1))) Zf) Zf) Zf)))))
abbrev RD:b7:=Va 29
theorem sc_l_part:Zl ["_law_cell_here","_law_turn","_law_many","_law_x","_law_k"] ["_law_cell_here","_law_turn","_law_many"] (Zg RD):=W9
theorem LX(a:Def K mg "_law_part" RD)(B:Wt mg):Rw P w K mg base:=
 HA [] a sc_l_part λb=>
  (Zd (YV 3 sc_l_part.nd (VE.pure (Q3 (vo 0) Zf)))
  (Zd (Wi (VW.vt (FR (V0 b.units (YY (vo 0) Zf) Zf) (Hb (KQ (vo 0) (FP Zf Zf))))) (Zd (N2 (OP B.range (vo 1)) (N1 4 sc_l_part.nd) (Zh (YV 3 sc_l_part.nd (VE.pure (Q3 (vo 3) Zf)))))
  (Zh (Zx (VE.pure (YY (vo 3) (vo 2)))))) Yu)
  (Zd (YV 3 sc_l_part.nd (VE.pure (ZV (YY (vo 3) Zf) (Z6 Zf (vo 1)))))
  (Zd (YV 3 sc_l_part.nd (VE.pure (YY (ZV (Z6 (vo 3) (vo 3)) (Z6 Zf (vo 3))) Zf)))
  (Zh (Zx (VE.pure (YY (Q3 (YY (ZV (Z6 (vo 3) (vo 3)) (Z6 Zf (vo 1))) Zf) Zf) (vo 2)))))))))
abbrev PH:b7:=Va 30
theorem sc_l_tie:Zl ["_law_times_here","_law_one","_law_other","_law_more","_law_many"] ["_law_times_here","_law_one","_law_other","_law_more"] (Zg PH):=W9
theorem JC(b:Def K mg "_law_tie" PH)(B:Wt mg):Xl P w K mg base "_law_tie" (["_law_times_here","_law_one","_law_other","_law_more"]:List ah) (EC K WB 4) 1:=
 Hu (k:=0) 5 Sv b sc_l_tie (λ_ _ _ _ _ _ c d=>match c,d with | [_,_,_,_],_=>rfl) rfl rfl (λf e A a s H E g=>
  (QM (VS.vs0 (YV 4 sc_l_tie.nd (VE.pure (vb (Lq rfl) Hi B.min (Us Zf (ZV (Zk (Zk (vo 0) (vo 1)) (vo 2)) (vo 3)))))))
  (QM (Rk (Vh (vo 4) (Vg (Kz ix_list (pv 0) (vo 1) (λ_ _=>rfl)) (vo 2) Y8)))
  (Jo (Rk (Vh (vo 4) (Vg (Kz ix_list (pv 0) (vo 2) (λ_ _=>rfl)) (vo 1) Y8)))))))
abbrev PJ:b7:=Va 31
theorem sc_l_web:Zl ["_law_script","_law_most","_law_first","_law_houses","_law_times_here","_law_spots","_law_k","_law_cell_here","_law_one","_law_other"] ["_law_script","_law_most"] (Zg PJ):=W9
theorem JD(e:Def K mg "_law_web" PJ)(B:Wt mg)(b:Rv P w K mg base)(a:Rw P w K mg base)(c:Xl P w K mg base "_law_tie" (["_law_times_here","_law_one","_law_other","_law_more"]:List ah) (EC K WB 4) 1):PB P w K mg base:=
 JB [4,5] e sc_l_web λd=>
  (Zd (YV 2 sc_l_web.nd (Ru b d (Us (vo 0) Zf)))
  (Zd (YV 3 sc_l_web.nd (VE.pure (ZV Zf (Ve a d (Sk (vo 2) Zf (vo 1))))))
  (Zd (Y7 (["_law_k"]:List ah) (["_law_houses"]:List ah) [3] (i:=4) sc_l_web.nd rfl rfl rfl (OP B.range (vo 3)) (by kernel_rfl) (λ_ _ _ _ _=>(Tt 0)) (λ_ _ _ _ _=>Z2) (λ_ _ _ _ _=>(Je (K2 (YT Zf)) (vo 1))))
  (Zd (YV 5 sc_l_web.nd (K3 MH))
  (Zd (N2 (OP B.range (vo 3)) (N1 6 sc_l_web.nd) (Zh (LJ (So (GA gi PySem.F.slot_list_insert PySem.F.type_list_insert LA (pv 5) (XI (Ve a d (Sk (Ve b d (Us (vo 0) (ZV Zf (vo 6)))) Zf (ZV (vo 6) Zf))) (XI (vo 6) SJ)))))))
  (Zd (N2 (Dv B.range Zf (vo 3)) (N1 6 sc_l_web.nd) (Zd (YV 7 sc_l_web.nd (Ru b d (Us (vo 0) (vo 6))))
  (Zh (Jq (So (Ny c (d.mono (by decide)) rfl (XI (pv 4) (Sk (Zk (vo 5) (vo 6)) (Zk (vo 5) (Ve a d (Sk (vo 7) Zf (vo 6)))) (ZV Zf (Ve a d (Sk (vo 7) Zf Zf)))))))))))
  (Zd (Wi (KQ (vo 3) Zf) (Zh (N2 (OP B.range (Ve a d (Sk (vo 2) Zf Zf))) (N1 6 sc_l_web.nd) (Zd (YV 7 sc_l_web.nd (Ru b d (Us (vo 0) (ZV Zf (vo 6)))))
  (Zd (YV 8 sc_l_web.nd (Ru a d (Sk (vo 7) Zf (vo 3))))
  (Zd (YV 9 sc_l_web.nd (VE.pure (YY (ZV (ZV (vo 8) Zf) (Ve a d (Sk (vo 7) Zf (Xu (vo 3) Zf)))) (vo 3))))
  (Zh (Jq (So (Ny c (d.mono (by decide)) rfl (XI (pv 4) (Sk (vo 8) (vo 9) (ZV Zf (Ve a d (Sk (vo 7) Zf Zf)))))))))))))) Yu)
  (Zh (Zx (VE.pure (ZN Zr ZY rfl B.tuple (by decide +kernel) (YT (LU "_law_row_here" [] [] (Ys (vo 4)) (ZN Zr ZY rfl B.tuple (by decide +kernel) (YT (vo 0))))))))))))))))
abbrev Tx:b7:=Va 1
theorem N3:Zl ["web","house"] ["web","house"] (Zg Tx):=W9
theorem N4(a:Def K mg "ties_at" Tx)(B:Wt mg):Tu P w K mg base:=
 JB [] a N3 λb=>
  (Zh (Zx (VE.pure (vb (Tb rfl) NH B.sum (YT (Zk (vo 0) (vo 1)))))))
abbrev RE:b7:=Va 5
theorem LY:Zl ["web","house","others"] ["web","house","others"] (Zg RE):=W9
theorem LZ(c:Def K mg "row_of" RE)(B:Wt mg)(a:Tu P w K mg base):Rx P w K mg base:=
 HA [] c LY λb=>
  (Zh (Zx (VE.pure (ZN Zr ZY rfl B.tuple (by decide +kernel) (YT (LU "other" ["house","web"] [1,0] (Ys (vo 2)) (KU (V0 b.units (vo 0) (vo 1)) (Ve a b (Us (vo 2) (vo 1))) (K0 (Zk (Zk (vo 2) (vo 1)) (vo 0))))))))))
abbrev Y3:b7:=Va 4
theorem sc_square_without:Zl ["web","base","others"] ["web","base"] (Zg Y3):=W9
theorem UT(c:Def K mg "square_without" Y3)(B:Wt mg)(a:Rx P w K mg base):Y2 P w K mg base:=
 JB [] c sc_square_without λb=>
  (Zd (YV 2 sc_square_without.nd (VC (["house"]:List ah) (["base"]:List ah) [1] rfl (OP B.range (Sx B.len (vo 0))) (by kernel_rfl) (λ_ _ _ _ _=>(Tt 0)) (λ_ _ _ _ _=>(MK (Jd b.units (vo 0) (vo 1)))) (λ_ _ _ _ _=>(VE.pure (vo 0)))))
  (Zh (Zx (VE.pure (ZN Zr ZY rfl B.tuple (by decide +kernel) (YT (LU "house" ["web","others"] [0,2] (Ys (vo 2)) (Ve a b (Sk (vo 1) (vo 0) (vo 2))))))))))
abbrev Vr:b7:=Va 3
theorem PK:Zl ["web"] ["web"] (Zg Vr):=W9
theorem PL(b:Def K mg "square_of" Vr)(B:Wt mg)(a:Y2 P w K mg base):XW P w K mg base:=
 MT [] b PK λc=>
  (Zh (Zx (Ru a c (Us (vo 0) Zf))))
abbrev Uk:b7:=Va 12
theorem OQ:Zl ["many","at"] ["many","at"] (Zg Uk):=W9
theorem OR(a:Def K mg "unit_row" Uk)(B:Wt mg):Ug P w K mg base:=
 JB [] a OQ λb=>
  (Zh (Zx (VC (["column"]:List ah) (["at"]:List ah) [1] rfl (OP B.range (vo 0)) (by kernel_rfl) (λ_ _ _ _ _=>(Tt 0)) (λ_ _ _ _ _=>Z2) (λ_ _ _ _ _=>(VE.pure (KU (V0 b.units (vo 0) (vo 1)) Zf Zf))))))
abbrev Ul:b7:=Va 11
theorem sc_block_of:Zl ["square","many","upper","lower"] ["square"] (Zg Ul):=W9
theorem OS(c:Def K mg "block_of" Ul)(B:Wt mg)(a:Ug P w K mg base):Uh P w K mg base:=
 MT [] c sc_block_of λb=>
  (Zd (YV 1 sc_block_of.nd (VE.pure (Sx B.len (vo 0))))
  (Zd (Y7 (["at","row"]:List ah) (["many"]:List ah) [1] (i:=2) sc_block_of.nd rfl rfl rfl (Pa aB rfl B.enumerate (YT (vo 0))) (by kernel_rfl) (λ_ _ _ _ _=>(V6 (n:=2) rfl (Yb (Tt 0) (Yb (Tt 1) Wo)))) (λ_ _ _ _ _=>Z2) (λ_ _ _ _ _=>(VE.pure (Tr (Pf (VM.ve (Tg Ws SX rfl B.list (by decide +kernel) (YT (vo 1)))) (Ve a b (Us (vo 2) (vo 0))))))))
  (Zd (Y7 (["at"]:List ah) (["many"]:List ah) [1] (i:=3) sc_block_of.nd rfl rfl rfl (OP B.range (vo 1)) (by kernel_rfl) (λ_ _ _ _ _=>(Tt 0)) (λ_ _ _ _ _=>Z2) (λ_ _ _ _ _=>(VE.pure (Tr (Pf (Ve a b (Us (vo 1) (vo 0))) (VM.ve (Je (K2 (YT Zf)) (vo 1))))))))
  (Zh (Zx (Pf (vo 2) (vo 3)))))))
abbrev Xh:b7:=Va 17
theorem Tz:Zl ["rows","many","place"] ["rows","many","place"] (Zg Xh):=W9
theorem TB(a:Def K mg "rows_to_clear" Xh)(B:Wt mg):Xe P w K mg base:=
 HA [] a Tz λb=>
  (Zh (Zx (VC (["at"]:List ah) (["place","rows"]:List ah) [2,0] rfl (Dv B.range (ZV (vo 2) Zf) (vo 1)) (by kernel_rfl) (λ_ _ _ _ _=>(Tt 0)) (λ_ _ _ _ _=>(MK (Jd b.units (Zk (Zk (vo 2) (vo 0)) (vo 1)) Zf))) (λ_ _ _ _ _=>(VE.pure (vo 0))))))
abbrev N5:b7:=Va 18
theorem HB:Zl ["row","by","often"] ["row","by","often"] (Zg N5):=W9
theorem HC(a:Def K mg "less" N5)(B:Wt mg):PD P w K mg base:=
 HA [] a HB λb=>
  (Zh (Zx (VC (["number","other"]:List ah) (["often"]:List ah) [2] rfl (Pb aC aC rfl B.zip (Us (vo 0) (vo 1))) (by kernel_rfl) (λ_ _ _ _ _=>(V6 (n:=2) rfl (Yb (Tt 0) (Yb (Tt 1) Wo)))) (λ_ _ _ _ _=>Z2) (λ_ _ _ _ _=>(VE.pure (Xu (vo 0) (UP (vo 2) (vo 1))))))))
abbrev Xi:b7:=Va 16
theorem sc_cleared_below:Zl ["block","many","place","rows","below","first","kept","at"] ["block","many","place"] (Zg Xi):=W9
theorem TC(d:Def K mg "cleared_below" Xi)(B:Wt mg)(T:P.given.tree=none)(a:Xe P w K mg base)(b:PD P w K mg base):Xf P w K mg base:=
 HA [3] d sc_cleared_below λc=>
  (Zd (YV 3 sc_cleared_below.nd (Tg Ws SX rfl B.list (by decide +kernel) (YT (vo 0))))
  (Zd (YV 4 sc_cleared_below.nd (Ru a c (Sk (vo 3) (vo 1) (vo 2))))
  (Zd (S7 fT (KQ (Sx B.len (vo 4)) Zf) (Zd (YV 5 sc_cleared_below.nd (VE.pure (Zk (vo 4) Zf)))
  (Zd (Wi (VW.vt (KS (V0 c.units (Zk (Zk (vo 3) (vo 2)) (vo 2)) Zf) (KR (KP (vb Oe K5 B.abs (YT (Zk (Zk (vo 3) (vo 5)) (vo 2)))) (vb Oe K5 B.abs (YT (Zk (Zk (vo 3) (vo 2)) (vo 2)))))))) (Zd (YV 6 sc_cleared_below.nd (VE.pure (Zk (vo 3) (vo 2))))
  (Zd (Wj (Vh (Zk (vo 3) (vo 5)) (Vg (pv 3) (vo 2) Y8)))
  (Zh (Wj (Vh (vo 6) (Vg (pv 3) (vo 5) Y8)))))) Yu)
  (Zd (N2 (Ys (vo 4)) (N1 7 sc_cleared_below.nd) (Zh (Wj (Vh (Tr (Ru b c (Sk (Zk (vo 3) (vo 7)) (Zk (vo 3) (vo 2)) (Jz T (c.mono (by decide)) (Zk (Zk (vo 3) (vo 7)) (vo 2)) (Zk (Zk (vo 3) (vo 2)) (vo 2)))))) (Vg (pv 3) (vo 7) Y8)))))
  (Zh (YV 4 sc_cleared_below.nd (Ru a c (Sk (vo 3) (vo 1) (vo 2)))))))))
  (Zh (Pe (pv 3))))))
abbrev Wa:b7:=Va 19
theorem RF:Zl ["block"] ["block"] (Zg Wa):=W9
theorem RG(a:Def K mg "turned_over" Wa)(B:Wt mg):X7 P w K mg base:=
 MT [] a RF λb=>
  (Zh (Zx (LP "at" (["block"]:List ah) [0] rfl (OP B.range (Sx B.len (vo 0))) (by kernel_rfl) (λ_ _ _ _ _=>(Sq (i:=0) (show((["at","block"]:List ah)).Nodup by decide +kernel) rfl (iM rfl) (.inl (beq_self_eq_true _)))) (λ_ _ _ _ _=>Z2) (λ_ _ _ _ _=>(VE.pure (Tr (VC (["row"]:List ah) (["at"]:List ah) [0] rfl (Ys (vo 1)) (by kernel_rfl) (λ_ _ _ _ _=>(Tt 0)) (λ_ _ _ _ _=>Z2) (λ_ _ _ _ _=>(VE.pure (Zk (vo 0) (vo 1)))))))))))
abbrev Wb:b7:=Va 15
theorem sc_crossed_out:Zl ["block","many","place","crossed"] ["block","many","place"] (Zg Wb):=W9
theorem RH(d:Def K mg "crossed_out" Wb)(B:Wt mg)(a:Xf P w K mg base)(b:X7 P w K mg base):X8 P w K mg base:=
 HA [3] d sc_crossed_out λc=>
  (Zd (YV 3 sc_crossed_out.nd (Ru a c (Sk (vo 0) (vo 1) (vo 2))))
  (Zd (S7 fT (SV (vb (LQ rfl) Hx B.any (YT (Yl (Zk (vo 3) (vo 2)) (ZR (ZV (vo 2) Zf)) (ZR (vo 1)))))) (Zd (YV 3 sc_crossed_out.nd (Ru b c (YT (Ve a c (Sk (Ve b c (YT (vo 3))) (vo 1) (vo 2))))))
  (Zh (YV 3 sc_crossed_out.nd (Ru a c (Sk (vo 3) (vo 1) (vo 2)))))))
  (Zh (Pe (pv 3)))))
abbrev Vs:b7:=Va 14
theorem sc_unfit_row:Zl ["block","many","place","part","at"] ["block","many","place"] (Zg Vs):=W9
theorem PN(a:Def K mg "unfit_row" Vs)(B:Wt mg):Vp P w K mg base:=
 HA [] a sc_unfit_row λb=>
  (Zd (YV 3 sc_unfit_row.nd (VE.pure (Zk (Zk (vo 0) (vo 2)) (vo 2))))
  (Zd (N2 (Dv B.range (ZV (vo 2) Zf) (vo 1)) (N1 4 sc_unfit_row.nd) (Zh (Wi (SV (vb (Lz rfl) FX B.any (YT (LU "number" ["part"] [3] (Ys (Yl (Zk (vo 0) (vo 4)) ZX (ZR (vo 1)))) (Dt b.units (Hy (vo 0) (vo 1)) Zf))))) (Zh (Zx (VE.pure (vo 4)))) Yu)))
  (Zh (Zx (VE.pure FO)))))
abbrev WS:b7:=Va 13
theorem sc_part_found:Zl ["block","many","place","found","unfit"] ["block","many","place"] (Zg WS):=W9
theorem Qc(e:Def K mg "part_found" WS)(B:Wt mg)(a:X8 P w K mg base)(b:Vp P w K mg base)(c:PD P w K mg base):WI P w K mg base:=
 HA [3] e sc_part_found λd=>
  (Zd (YV 3 sc_part_found.nd (Ru a d (Sk (vo 0) (vo 1) (vo 2))))
  (Zd (YV 4 sc_part_found.nd (Ru b d (Sk (vo 3) (vo 1) (vo 2))))
  (Zd (S7 fT (Hf (vo 4)) (Zd (Wj (Vh (Tr (Ru c d (Sk (Zk (vo 3) (vo 2)) (Zk (vo 3) (vo 4)) Zf))) (Vg (pv 3) (vo 2) Y8)))
  (Zd (YV 3 sc_part_found.nd (Ru a d (Sk (vo 3) (vo 1) (vo 2))))
  (Zh (YV 4 sc_part_found.nd (Ru b d (Sk (vo 3) (vo 1) (vo 2))))))))
  (Zd (Wi (KP (Zk (Zk (vo 3) (vo 2)) (vo 2)) Zf) (Zh (Wj (Vh (Tr (VC (["number"]:List ah) ([]:List ah) [] rfl (Ys (Zk (vo 3) (vo 2))) (by kernel_rfl) (λ_ _ _ _ _=>(Tt 0)) (λ_ _ _ _ _=>Z2) (λ_ _ _ _ _=>(VE.pure (K0 (vo 0)))))) (Vg (pv 3) (vo 2) Y8)))) Yu)
  (Zh (Pe (pv 3)))))))
abbrev TF:b7:=Va 20
theorem N6:Zl ["line","row"] ["line","row"] (Zg TF):=W9
theorem N7(a:Def K mg "divided" TF)(B:Wt mg):Tv P w K mg base:=
 JB [] a N6 λb=>
  (Zh (Zx (VE.pure (ZN Zr ZY rfl B.tuple (by decide +kernel) (YT (UB (["number","by"]:List ah) ([]:List ah) [] rfl (Pb aB aB rfl B.zip (Us (vo 0) (vo 1))) (by kernel_rfl) (λ_ _ _ _ _=>(V6 (n:=2) rfl (Yb (Tt 0) (Yb (Tt 1) Wo)))) (λ_ _ _ _ _=>Z2) (λ_ _ _ _ _=>(OK (vo 0) (vo 1)))))))))
abbrev Xj:b7:=Va 8
theorem TH:Zl ["row","square","column"] ["row","square","column"] (Zg Xj):=W9
theorem TJ(a:Def K mg "row_by_column" Xj)(B:Wt mg):Xg P w K mg base:=
 HA [] a TH λb=>
  (Zh (Zx (VE.pure (vb (Tb rfl) NH B.sum (YT (UB (["at","number"]:List ah) (["column","square"]:List ah) [2,1] rfl (Pa aB rfl B.enumerate (YT (vo 0))) (by kernel_rfl) (λ_ _ _ _ _=>(V6 (n:=2) rfl (Yb (Tt 0) (Yb (Tt 1) Wo)))) (λ_ _ _ _ _=>Z2) (λ_ _ _ _ _=>(UP (vo 1) (Zk (Zk (vo 3) (vo 0)) (vo 2))))))))))
abbrev Vt:b7:=Va 7
theorem PQ:Zl ["row","square"] ["row","square"] (Zg Vt):=W9
theorem PR(b:Def K mg "row_times" Vt)(B:Wt mg)(a:Xg P w K mg base):Vq P w K mg base:=
 JB [] b PQ λc=>
  (Zh (Zx (VE.pure (ZN Zr ZY rfl B.tuple (by decide +kernel) (YT (LU "column" ["row","square"] [0,1] (OP B.range (Sx B.len (vo 0))) (Ve a c (Sk (vo 1) (vo 2) (vo 0)))))))))
abbrev WT:b7:=Va 6
theorem Qd:Zl ["one","other"] ["one","other"] (Zg WT):=W9
theorem Qe(b:Def K mg "multiplied" WT)(B:Wt mg)(a:Vq P w K mg base):WK P w K mg base:=
 JB [] b Qd λc=>
  (Zh (Zx (VE.pure (ZN Zr ZY rfl B.tuple (by decide +kernel) (YT (LU "row" ["other"] [1] (V9 (vo 0)) (Ve a c (Us (vo 0) (vo 1)))))))))
abbrev PU:b7:=Va 10
theorem sc_parts:Zl ["web","square","many","block","place","row","left","right","back","forth"] ["web"] (Zg PU):=W9
theorem JE(g:Def K mg "parts" PU)(B:Wt mg)(d:XW P w K mg base)(e:Uh P w K mg base)(c:WI P w K mg base)(b:Tv P w K mg base)(a:WK P w K mg base):PF P w K mg base:=
 MT [] g sc_parts λf=>
  (Zd (YV 1 sc_parts.nd (Ru d f (YT (vo 0))))
  (Zd (YV 2 sc_parts.nd (VE.pure (Sx B.len (vo 1))))
  (Zd (YV 3 sc_parts.nd (Ru e f (YT (vo 1))))
  (Zd (N2 (OP B.range (vo 2)) (N1 4 sc_parts.nd) (Zh (YV 3 sc_parts.nd (Ru c f (Sk (vo 3) (vo 2) (vo 4))))))
  (Zd (YV 5 sc_parts.nd (VE.pure (ZN Zr ZY rfl B.tuple (by decide +kernel) (YT (LU "at" ["block"] [3] (OP B.range (vo 2)) (Zk (Zk (vo 1) (vo 0)) (vo 0)))))))
  (Zd (YV 6 sc_parts.nd (VE.pure (ZN Zr ZY rfl B.tuple (by decide +kernel) (YT (LU "line" ["many"] [2] (Ys (Yl (vo 3) ZX (ZR (vo 2)))) (ZN Zr ZY rfl B.tuple (by decide +kernel) (YT (Yl (vo 0) (ZR (vo 1)) ZX))))))))
  (Zd (YV 7 sc_parts.nd (VE.pure (ZN Zr ZY rfl B.tuple (by decide +kernel) (YT (LU "line" ["many"] [2] (Ys (Yl (vo 3) (ZR (vo 2)) ZX)) (ZN Zr ZY rfl B.tuple (by decide +kernel) (YT (Yl (vo 0) ZX (ZR (vo 1))))))))))
  (Zd (YV 8 sc_parts.nd (VE.pure (ZN Zr ZY rfl B.tuple (by decide +kernel) (YT (LU "line" ["row"] [5] (V9 (Ve a f (Us (vo 1) (vo 7)))) (Ve b f (Us (vo 0) (vo 1))))))))
  (Zd (YV 9 sc_parts.nd (VE.pure (ZN Zr ZY rfl B.tuple (by decide +kernel) (YT (UB (["line","by"]:List ah) (["many"]:List ah) [2] rfl (Pb aB aB rfl B.zip (Us (Ve a f (Us (vo 6) (vo 1))) (vo 5))) (by kernel_rfl) (λ_ _ _ _ _=>(V6 (n:=2) rfl (Yb (Tt 0) (Yb (Tt 1) Wo)))) (λ_ _ _ _ _=>Z2) (λ_ _ _ _ _=>(Ve b f (Us (vo 0) (Xm Hr Hs (K1 (YT (vo 1))) (vo 2))))))))))
  (Zh (Zx (VE.pure (K1 (Ux (vo 6) (C4 (vo 8) (vo 7) (vo 9) (vo 5))))))))))))))))
abbrev TL:b7:=Va 24
theorem N8:Zl ["row","by","place","divisor"] ["row","by","place","divisor"] (Zg TL):=W9
theorem N9(a:Def K mg "reduced" TL)(B:Wt mg):Tw P w K mg base:=
 Bl [] a N8 λb=>
  (Zh (Zx (VE.pure (ZN Zr ZY rfl B.tuple (by decide +kernel) (YT (UB (["number","other"]:List ah) (["divisor","by","place","row"]:List ah) [3,1,2,0] rfl (Pb aB aB rfl B.zip (Us (vo 0) (vo 1))) (by kernel_rfl) (λ_ _ _ _ _=>(V6 (n:=2) rfl (Yb (Tt 0) (Yb (Tt 1) Wo)))) (λ_ _ _ _ _=>Z2) (λ_ _ _ _ _=>(OK (Xu (UP (Zk (vo 3) (vo 4)) (vo 0)) (UP (Zk (vo 5) (vo 4)) (vo 1))) (vo 2)))))))))
abbrev RI:b7:=Va 23
theorem sc_evened:Zl ["rows","left","divisor","place","by"] ["rows"] (Zg RI):=W9
theorem L0(c:Def K mg "evened" RI)(B:Wt mg)(a:Tw P w K mg base):Ry P w K mg base:=
 MT [1] c sc_evened λb=>
  (Zd (YV 1 sc_evened.nd (Tg Ws SX rfl B.list (by decide +kernel) (YT (vo 0))))
  (Zd (YV 2 sc_evened.nd (VE.pure Zf))
  (Zd (N2 (OP B.range (Sx B.len (vo 0))) (N1 3 sc_evened.nd) (Zd (YV 4 sc_evened.nd (VE.pure (Zk (vo 1) (vo 3))))
  (Zd (Y7 (["at","row"]:List ah) (["place","by","divisor"]:List ah) [3,4,2] (i:=1) sc_evened.nd rfl rfl rfl (Pa aC rfl B.enumerate (YT (vo 1))) (by kernel_rfl) (λ_ _ _ _ _=>(V6 (n:=2) rfl (Yb (Tt 0) (Yb (Tt 1) Wo)))) (λ_ _ _ _ _=>Z2) (λ_ _ _ _ _=>(VE.pure (KU (V0 b.units (vo 0) (vo 2)) (vo 1) (Ve a b (C4 (vo 1) (vo 3) (vo 2) (vo 4)))))))
  (Zh (YV 2 sc_evened.nd (VE.pure (Zk (vo 4) (vo 3))))))))
  (Zh (Ju (Ku (XI (vo 2) (XI (pv 1) SJ))))))))
abbrev Wc:b7:=Va 22
theorem RJ:Zl ["square"] ["square"] (Zg Wc):=W9
theorem RK(b:Def K mg "determinant" Wc)(B:Wt mg)(a:Ry P w K mg base):X9 P w K mg base:=
 MT [] b RJ λc=>
  (Zh (Zx (VE.pure (Zk (Ve a c (YT (vo 0))) Zf))))
abbrev WU:b7:=Va 26
theorem Qf:Zl ["web"] ["web"] (Zg WU):=W9
theorem Qg(d:Def K mg "tree_count" WU)(B:Wt mg)(a:X9 P w K mg base)(b:XW P w K mg base):WL P w K mg base:=
 MT [] d Qf λc=>
  (Zh (Zx (Ru a c (YT (Ve b c (YT (vo 0)))))))
abbrev TM:b7:=Va 32
theorem Ma:Zl ["_law_number"] ["_law_number"] (Zg TM):=W9
theorem Mc(a:Def K mg "_law_whole" TM)(B:Wt mg):VQ P w K mg base:=
 MT [] a Ma λb=>
  (Zh (Zx (VE.pure (V7 (vb Xa Uy B.isinstance (Us (vo 0) (Oy rfl B.int (by decide +kernel)))) (Q5 (FT (vb Xa Uy B.isinstance (Us (vo 0) (Oy rfl B.bool (by decide +kernel))))))))))
abbrev PX:b7:=Va 33
theorem JF:Zl ["_law_found","_law_houses"] ["_law_found","_law_houses"] (Zg PX):=W9
theorem JG(c:Def K mg "_law_row" PX)(B:Wt mg)(a:VQ P w K mg base):Sy P w K mg base:=
 JB [] c JF λb=>
  (Zh (Zx (VE.pure (V7 (vb Xa Uy B.isinstance (Us (vo 0) (Oy rfl B.tuple (by decide +kernel)))) (V7 (MN b.units (Sx B.len (vo 0)) (vo 1)) (Q5 (vb (Tc rfl) NI B.all (YT (LU "_law_one" [] [] (V9 (vo 0)) (Ve a b (YT (vo 0))))))))))))
abbrev Um:b7:=Va 36
theorem OT:Zl ["_law_found","_law_size"] ["_law_found","_law_size"] (Zg Um):=W9
theorem OU(c:Def K mg "_law_square" Um)(B:Wt mg)(a:Sy P w K mg base):Ui P w K mg base:=
 JB [] c OT λb=>
  (Zh (Zx (VE.pure (V7 (vb Xa Uy B.isinstance (Us (vo 0) (Oy rfl B.tuple (by decide +kernel)))) (V7 (MN b.units (Sx B.len (vo 0)) (vo 1)) (Q5 (vb (Tc rfl) NI B.all (YT (LU "_law_row_here" ["_law_size"] [1] (V9 (vo 0)) (Ve a b (Us (vo 0) (vo 1))))))))))))
abbrev RL:b7:=Va 38
theorem L3:Zl ["_law_found","_law_size"] ["_law_found","_law_size"] (Zg RL):=W9
theorem L4(d:Def K mg "_law_told" RL)(B:Wt mg)(b:Sy P w K mg base)(a:Ui P w K mg base):Rz P w K mg base:=
 JB [] d L3 λc=>
  (Zd (Wi (VW.vt (KS (NF (SV (vb Xa Uy B.isinstance (Us (vo 0) (Oy rfl B.tuple (by decide +kernel)))))) (KS (Jd c.units (Sx B.len (vo 0)) Zf) (KR (NF (SV (Ve b c (Us (Zk (vo 0) Zf) (vo 1))))))))) (Zh (Zx (VE.pure GB))) Yu)
  (Zh (Zx (VE.pure (vb (Tc rfl) NI B.all (YT (LU "_law_square_here" ["_law_size"] [1] (V9 (Z8 (vo 0) ZX (ZR Zf))) (Ve a c (Us (vo 0) (vo 1))))))))))
abbrev WV:b7:=Va 39
theorem Qh:Zl ["_law_rows","_law_found","_law_j","_law_smaller"] ["_law_rows"] (Zg WV):=W9
theorem Qi(a:Def K mg "_law_weight" WV)(B:Wt mg):WM P w K mg base:=LR a Qh (λ_ _ _ _ _ _ b c=>match b,c with | [_],_=>rfl) rfl
abbrev WW:b7:=Va 39
theorem sc_l_weight_0:Zl ["_law_rows","_law_found","_law_j","_law_smaller"] ["_law_rows"] (Zg WW):=W9
theorem Qj(c:Def K mg "_law_weight" WW)(B:Wt mg)(a:WM P w K mg base):WN P w K mg base:=
 MT [] c sc_l_weight_0 λb=>
  (Zd (Wi (V0 b.units (Sx B.len (vo 0)) Zf) (Zh (Zx (VE.pure Zf))) Yu)
  (Zd (YV 1 sc_l_weight_0.nd (VE.pure Zf))
  (Zd (N2 (OP B.range (Sx B.len (vo 0))) (N1 2 sc_l_weight_0.nd) (Zd (Y7 (["_law_row_here"]:List ah) (["_law_j"]:List ah) [2] (i:=3) sc_l_weight_0.nd rfl rfl rfl (Ys (Yl (vo 0) (ZR Zf) ZX)) (by kernel_rfl) (λ_ _ _ _ _=>(Tt 0)) (λ_ _ _ _ _=>Z2) (λ_ _ _ _ _=>(VE.pure (Xm UN UO (Z8 (vo 0) ZX (ZR (vo 1))) (Z8 (vo 0) (ZR (ZV (vo 1) Zf)) ZX)))))
  (Zh (YV 1 sc_l_weight_0.nd (VE.pure (ZV (vo 1) (Z6 (Z6 (Zk (Zk (vo 0) Zf) (vo 2)) (Xu Zf (Z6 Zf (YY (vo 2) Zf)))) (Ve a b (YT (vo 3))))))))))
  (Zh (Zx (VE.pure (vo 1)))))))
abbrev WX:b7:=Va 39
theorem sc_l_weight_1:Zl ["_law_rows","_law_found","_law_j","_law_smaller"] ["_law_rows"] (Zg WX):=W9
theorem Qk(c:Def K mg "_law_weight" WX)(B:Wt mg)(a:WN P w K mg base):WO P w K mg base:=
 MT [] c sc_l_weight_1 λb=>
  (Zd (Wi (V0 b.units (Sx B.len (vo 0)) Zf) (Zh (Zx (VE.pure Zf))) Yu)
  (Zd (YV 1 sc_l_weight_1.nd (VE.pure Zf))
  (Zd (N2 (OP B.range (Sx B.len (vo 0))) (N1 2 sc_l_weight_1.nd) (Zd (Y7 (["_law_row_here"]:List ah) (["_law_j"]:List ah) [2] (i:=3) sc_l_weight_1.nd rfl rfl rfl (Ys (Yl (vo 0) (ZR Zf) ZX)) (by kernel_rfl) (λ_ _ _ _ _=>(Tt 0)) (λ_ _ _ _ _=>Z2) (λ_ _ _ _ _=>(VE.pure (Xm UN UO (Z8 (vo 0) ZX (ZR (vo 1))) (Z8 (vo 0) (ZR (ZV (vo 1) Zf)) ZX)))))
  (Zh (YV 1 sc_l_weight_1.nd (VE.pure (ZV (vo 1) (Z6 (Z6 (Zk (Zk (vo 0) Zf) (vo 2)) (Xu Zf (Z6 Zf (YY (vo 2) Zf)))) (Ve a b (YT (vo 3))))))))))
  (Zh (Zx (VE.pure (vo 1)))))))
abbrev WY:b7:=Va 39
theorem sc_l_weight_2:Zl ["_law_rows","_law_found","_law_j","_law_smaller"] ["_law_rows"] (Zg WY):=W9
theorem Ql(c:Def K mg "_law_weight" WY)(B:Wt mg)(a:WO P w K mg base):WQ P w K mg base:=
 MT [] c sc_l_weight_2 λb=>
  (Zd (Wi (V0 b.units (Sx B.len (vo 0)) Zf) (Zh (Zx (VE.pure Zf))) Yu)
  (Zd (YV 1 sc_l_weight_2.nd (VE.pure Zf))
  (Zd (N2 (OP B.range (Sx B.len (vo 0))) (N1 2 sc_l_weight_2.nd) (Zd (Y7 (["_law_row_here"]:List ah) (["_law_j"]:List ah) [2] (i:=3) sc_l_weight_2.nd rfl rfl rfl (Ys (Yl (vo 0) (ZR Zf) ZX)) (by kernel_rfl) (λ_ _ _ _ _=>(Tt 0)) (λ_ _ _ _ _=>Z2) (λ_ _ _ _ _=>(VE.pure (Xm UN UO (Z8 (vo 0) ZX (ZR (vo 1))) (Z8 (vo 0) (ZR (ZV (vo 1) Zf)) ZX)))))
  (Zh (YV 1 sc_l_weight_2.nd (VE.pure (ZV (vo 1) (Z6 (Z6 (Zk (Zk (vo 0) Zf) (vo 2)) (Xu Zf (Z6 Zf (YY (vo 2) Zf)))) (Ve a b (YT (vo 3))))))))))
  (Zh (Zx (VE.pure (vo 1)))))))
abbrev WZ:b7:=Va 39
theorem sc_l_weight_3:Zl ["_law_rows","_law_found","_law_j","_law_smaller"] ["_law_rows"] (Zg WZ):=W9
theorem Qm(c:Def K mg "_law_weight" WZ)(B:Wt mg)(a:WQ P w K mg base):WR P w K mg base:=
 MT [] c sc_l_weight_3 λb=>
  (Zd (Wi (V0 b.units (Sx B.len (vo 0)) Zf) (Zh (Zx (VE.pure Zf))) Yu)
  (Zd (YV 1 sc_l_weight_3.nd (VE.pure Zf))
  (Zd (N2 (OP B.range (Sx B.len (vo 0))) (N1 2 sc_l_weight_3.nd) (Zd (Y7 (["_law_row_here"]:List ah) (["_law_j"]:List ah) [2] (i:=3) sc_l_weight_3.nd rfl rfl rfl (Ys (Yl (vo 0) (ZR Zf) ZX)) (by kernel_rfl) (λ_ _ _ _ _=>(Tt 0)) (λ_ _ _ _ _=>Z2) (λ_ _ _ _ _=>(VE.pure (Xm UN UO (Z8 (vo 0) ZX (ZR (vo 1))) (Z8 (vo 0) (ZR (ZV (vo 1) Zf)) ZX)))))
  (Zh (YV 1 sc_l_weight_3.nd (VE.pure (ZV (vo 1) (Z6 (Z6 (Zk (Zk (vo 0) Zf) (vo 2)) (Xu Zf (Z6 Zf (YY (vo 2) Zf)))) (Ve a b (YT (vo 3))))))))))
  (Zh (Zx (VE.pure (vo 1)))))))
abbrev Uo:b7:=Va 39
theorem sc_l_weight:Zl ["_law_rows","_law_found","_law_j","_law_smaller"] ["_law_rows"] (Zg Uo):=W9
theorem OV(c:Def K mg "_law_weight" Uo)(B:Wt mg)(a:WR P w K mg base):Uj P w K mg base:=
 MT [] c sc_l_weight λb=>
  (Zd (Wi (V0 b.units (Sx B.len (vo 0)) Zf) (Zh (Zx (VE.pure Zf))) Yu)
  (Zd (YV 1 sc_l_weight.nd (VE.pure Zf))
  (Zd (N2 (OP B.range (Sx B.len (vo 0))) (N1 2 sc_l_weight.nd) (Zd (Y7 (["_law_row_here"]:List ah) (["_law_j"]:List ah) [2] (i:=3) sc_l_weight.nd rfl rfl rfl (V9 (Z8 (vo 0) (ZR Zf) ZX)) (by kernel_rfl) (λ_ _ _ _ _=>(Tt 0)) (λ_ _ _ _ _=>Z2) (λ_ _ _ _ _=>(VE.pure (Xm UN UO (Z8 (vo 0) ZX (ZR (vo 1))) (Z8 (vo 0) (ZR (ZV (vo 1) Zf)) ZX)))))
  (Zh (YV 1 sc_l_weight.nd (VE.pure (ZV (vo 1) (Z6 (Z6 (Zk (Zk (vo 0) Zf) (vo 2)) (Xu Zf (Z6 Zf (YY (vo 2) Zf)))) (Ve a b (YT (vo 3))))))))))
  (Zh (Zx (VE.pure (vo 1)))))))
abbrev XB:b7:=Va 37
theorem sc_l_web_square:Zl ["_law_web_here","_law_rows","_law_house","_law_row_here"] ["_law_web_here"] (Zg XB):=W9
theorem Sl(a:Def K mg "_law_web_square" XB)(B:Wt mg):XA P w K mg base:=
 MT [1,3] a sc_l_web_square λb=>
  (Zd (YV 1 sc_l_web_square.nd (K3 MH))
  (Zd (N2 (Dv B.range Zf (Sx B.len (vo 0))) (N1 2 sc_l_web_square.nd) (Zd (Y7 (["_law_other"]:List ah) (["_law_web_here","_law_house"]:List ah) [0,2] (i:=3) sc_l_web_square.nd rfl rfl rfl (Dv B.range Zf (Sx B.len (vo 0))) (by kernel_rfl) (λ_ _ _ _ _=>(Tt 0)) (λ_ _ _ _ _=>Z2) (λ_ _ _ _ _=>(VE.pure (Xu Zf (Zk (Zk (vo 1) (vo 2)) (vo 0))))))
  (Zd (Wj (Vh (vb (Tb rfl) NH B.sum (YT (Zk (vo 0) (vo 2)))) (Vg (pv 3) (Xu (vo 2) Zf) Y8)))
  (Zh (LI (So (GA gi PySem.F.slot_list_append PySem.F.type_list_append Lw (pv 1) (XI (VE.pure (ZN Zr ZY rfl B.tuple (by decide +kernel) (YT (vo 3)))) SJ))))))))
  (Zh (Zx (VE.pure (ZN Zr ZY rfl B.tuple (by decide +kernel) (YT (vo 1))))))))
abbrev JH:b7:=Va 40
theorem sc_law:Zl ["_law_script","_law_web_here","_law_found","_law_many","_law_number","_law_count"] ["_law_script"] (Zg JH):=W9
theorem Ee{j:aH}{l:dP}(n:Fun K "law" "law" JH j l)(B:Wt mg)(f:PB P w K mg base)(g:PF P w K mg base)(e:Rz P w K mg base)(b:WL P w K mg base)(c:Uj P w K mg base)(a:XA P w K mg base)(d:VQ P w K mg base):T9 P w K mg base Nw 40 j l (["_law_script"]:List ah) (Y6 K D_law 1):=
 F2 (O:=[]) (k:=39) 6 GO n sc_law rfl rfl (by decide) (λo m A i s H E h=>
  (Zd (YV 1 sc_law.nd (Ru f h (Us (vo 0) Zf)))
  (Zd (YV 2 sc_law.nd (Ru g h (YT (vo 1))))
  (Zd (Wi (NF (SV (Ve e h (Us (vo 2) (Xu (Sx B.len (vo 1)) Zf))))) (Zh (Zx (VE.pure GB))) Yu)
  (Zd (YV 3 sc_law.nd (VE.pure Zf))
  (Zd (N2 (V9 (Zk (vo 2) Zf)) (N1 4 sc_law.nd) (Zh (YV 3 sc_law.nd (VE.pure (UP (vo 3) (vo 4))))))
  (Zd (YV 5 sc_law.nd (Ru b h (YT (vo 1))))
  (Zh (Zx (VE.pure (V7 (Ve d h (YT (vo 5))) (V7 (MN h.units (vo 3) (Ve c h (YT (Ve a h (YT (vo 1)))))) (Q5 (MN h.units (vo 5) (vo 3)))))))))))))))
end
end PW
namespace PW
open L2 VL
theorem Md{W:List (List Int)}{h:Nat}(a:h<W.length):VN [wP W,.int (h:Int)]=aA (.int (Zu W h).sum):=by simp[VN,QJ,YL,ZL,Ss a]
theorem JI(i:Int):Yv [.int i]=aA (.bl aC):=by simp[Yv,To,YL,ZL]
theorem JJ{l:List Int}(c:l.length<=1000):QL [pP l,.int (l.length:Int)]=aA (.bl aC):=by
 have a:Zt 1 [] (V8 (Za 0)) (.one 0) ZF (Zc Yv [Za 0]) [aA (pP l),aA (.int (l.length:Int))]=aA (.lst (bL (l.map λ_=>aC))):=by rw[Z9 l PV.int (λ_=>.bl aC) (Vn (by simp)) (by omega) (λi d=>⟨_,rfl,rfl,by simp[Z1,JI]⟩)];simp
 have b:R6 [.lst (bL (l.map λ_=>aC))]=aA (.bl aC):=by rw[Jj];simp
 simp[QL,QK,YL,ZL,a,b,-cH]
noncomputable def JK(W:List (List Int))(a b:Nat):List (List Int):=(aI (ent W a b).toNat).map λ(t:Nat)=>[(a:Int),(b:Int),(t:Int)]
noncomputable def GP(W:List (List Int))(a:Nat):List (List Int):=(aI (W.length-(a+1))).flatMap λj=>JK W a (a+1+j)
noncomputable def V2(W:List (List Int)):List (List Int):=(aI W.length).flatMap (GP W)
theorem L5{a:Type}(f:Nat->List a)(i:Nat):(aI (i+1)).flatMap f=(aI i).flatMap f++f i:=by rw[fS];simp
noncomputable def tk(e:Cw):List Sn:=[.inl (e.1:Int),.inl (e.2.1:Int)]
noncomputable def TN(W:List (List Int)):Prop:=∀P:Nat->Prop,(∀a b,a<W.length->b<W.length->0<ent W a b->(P a↔P b))->∀i j,i<W.length->j<W.length->(P i↔P j)
theorem OW:∀{l m:List Int},l.Nodup->(∀x∈l,x∈m)->l.length<=m.length
 | [],m,_,_=>bq _
 | x::r,m,nd,h=>by have b:x∈m:=h x (by simp);have a:=bP.mp nd;have:=OW (l:=r) (m:=m.erase x) a.2 λy c=>(List.mem_erase_of_ne (show y≠x from λz=>a.1 (by rw[<-z];exact c))).mpr (h y (by simp[c]));rw[List.length_erase_of_mem b] at this;have d:=List.length_pos_of_mem b;rw[bg];omega
theorem CD{n:Nat}{l:List Int}(b:l.Nodup)(h:∀x∈l,∃k:Nat,k<n/\x=(k:Int))(e:l.length=n){j:Nat}(c:j<n):(j:Int)∈l:=by
 by_cases q:(j:Int)∈l
 ·exact q
 ·have:=OW (bP.mpr ⟨q,b⟩) (λx a=>by
   rcases af.mp a with rfl | a
   ·exact cB.mpr ⟨j,aX.mpr c,rfl⟩
   ·obtain⟨k,d,rfl⟩:=h x a;exact cB.mpr ⟨k,aX.mpr d,rfl⟩)
  rw[bg,aO,bY] at this;omega
noncomputable def rL(M:List (List Int)):List PV:=M.map λr=>.lst (iL r)
theorem Me{M:List (List Int)}{a:Nat}(h:a<M.length):(rL M)[a]?=aA (.lst (iL (Zu M a))):=by unfold rL;rw[aQ,Oo h];rfl
theorem JL{M:List (List Int)}{a b:Nat}{t:Int}:(rL M).set a (.lst ((iL (Zu M a)).set b (.int t)))=rL (Te M a b t):=by unfold rL Te;rw[jM];show _=(gj (λr=>PV.lst (iL r)) M).set a (PV.lst (((Zu M a).set b t).map PV.int));rw[jM]
theorem Ef(l:List Int)(k:Nat)(x:Int):(iL l).take k++PV.int x::(iL l).drop k=iL (l.take k++x::l.drop k):=by simp
theorem Xs{f g:XS}{s s1:ZD}(a:f s=aA (.nx s1)):Zn f g s=g s1:=by simp only[OF,a,aY]
theorem MU{a b:List Int}(c:a.length=b.length)(h:∀i,i<a.length->Xp a i=Xp b i):a=b:=by rw[<-Td a,<-Td b,c];apply bD;intro i d;exact h i (by rw[c];exact aX.mp d)
theorem VR{W:List (List Int)}(ok:Yn W){i:Nat}(a:i<W.length):(Zu W i).sum=((aI W.length).map λj=>ent W i j).sum:=by rw[<-IQ (Zu W i),ok.sq i a];rfl
theorem Mf{W:List (List Int)}(ok:Yn W):((V2 W).length:Int)=((aI W.length).map λa=>((aI (W.length-(a+1))).map λj=>ent W a (a+1+j)).sum).sum:=by
 have b:∀(f:Nat->List (List Int))(n:Nat),(((aI n).flatMap f).length:Int)=((aI n).map λi=>((f i).length:Int)).sum:=by
  intro f n
  induction n with
  | zero=>rfl
  | succ n ih=>rw[L5,bH,YO];omega
 unfold V2;rw[b];apply Xt;intro a c;unfold GP;rw[b];apply Xt;intro j d;have:=ok.lo a (a+1+j) c (by omega);unfold JK;rw[aO,bY];omega
theorem OX{W:List (List Int)}(ok:Yn W):((aI W.length).map λi=>(Zu W i).sum).sum=2*((V2 W).length:Int):=by rw[Mf ok,<-KI (λi j=>ent W i j) W.length (λi j a b=>ok.sym i j a b) (λi a=>ok.dia i a)];apply Xt;intro i a;exact VR ok a
theorem TQ{n m:Nat}{ix:List Nat}{fi:XL}{c:XT}{b:XE}{s:ZD}(g:Nat->Int)(a:fi s=aA (Ti m))(e:m<=1000)(h:∀i:Nat,i<m->∃s1,YU (.one 0) (.int (i:Int)) (Z1 n ix s)=aA s1/\c s1=aA aC/\b s1=aA (.int (g i))) :
  Zt n ix fi (.one 0) c b s=aA (.lst (iL ((aI m).map g))):=by
 rw[Z9 (aI m) (λi=>.int (i:Int)) (λi=>.int (g i)) a (by simp;omega) (λi d=>h i (aX.mp d))];simp
theorem nth_set{l:List Int}{h i:Nat}{v:Int}(a:i<l.length):Xp (l.set h v) i=if i=h then v else Xp l i:=by
 unfold Xp;rw[aM,aM,ao];by_cases e:h=i
 ·subst e;rw[k8 rfl,k8 rfl,k8 a];rfl
 ·rw[k9 e,k9 (aj e)]
theorem Mg(l:List Int)(k:Nat):Xv (iL l) none (aA (k:Int))=iL (l.take k):=by
 unfold Xv;rw[HT.sIx_none,HT.sIx_nat,aO,gH,gx,<-jo];congr 1;by_cases h:k<=l.length
 ·rw[dI h]
 ·rw[gg (by omega),bX (aG _),bX (by omega)]
theorem JM(l:List Int)(k:Nat):Xv (iL l) (aA (k:Int)) none=iL (l.drop k):=by
 unfold Xv;rw[HT.sIx_none,HT.sIx_nat,aO,<-jq];congr 1;by_cases h:k<=l.length
 ·rw[dI h,bX (by simp)]
 ·rw[gg (by omega),fB (aG _),fB (by omega)];simp
theorem HD{l:List Int}{x:Int}(h:x∈l):∃i,i<l.length/\Xp l i=x:=by obtain⟨i,a,e⟩:=List.getElem_of_mem h;refine⟨i,a,?_⟩;unfold Xp;rw[aM,aN a,e];rfl
end PW
namespace PW
noncomputable def sN:Nat->(Nat->Int)->Int
 | 0,_=>0
 | n+1,f=>sN n f+f n
theorem Zj{f g:Nat->Int}:∀{n:Nat},(∀i,i<n->f i=g i)->sN n f=sN n g
 | 0,_=>rfl
 | n+1,h=>by show sN n f+f n=sN n g+g n;rw[Zj λi a=>h i (by omega),h n (by omega)]
theorem W0{f:Nat->Int}{n:Nat}(h:∀i,i<n->f i=0):sN n f=0:=by
 rw[Zj h];clear h
 induction n with
 | zero=>rfl
 | succ n ih=>show sN n _+0=0;rw[ih];rfl
theorem Yk(f g:Nat->Int):∀n,sN n (λi=>f i+g i)=sN n f+sN n g
 | 0=>rfl
 | n+1=>by show sN n _+(f n+g n)=(sN n f+f n)+(sN n g+g n);rw[Yk f g n];omega
theorem ZJ(c:Int)(f:Nat->Int):∀n,sN n (λi=>c*f i)=c*sN n f
 | 0=>by show(0:Int)=c*0;simp
 | n+1=>by show sN n _+c*f n=c*(sN n f+f n);rw[ZJ c f n,j2]
theorem PY(f:Nat->Nat->Int)(m:Nat):∀n,sN n (λi=>sN m (f i))=sN m (λj=>sN n λi=>f i j)
 | 0=>by show(0:Int)=sN m λ_=>0;rw[W0 (λ_ _=>rfl)]
 | n+1=>by show sN n (λi=>sN m (f i))+sN m (f n)=sN m (λj=>(sN n λi=>f i j)+f n j);rw[Yk,PY f m n]
theorem Z3{f:Nat->Int}{k:Nat}:∀{n:Nat},k<n->(∀i,i<n->i≠k->f i=0)->sN n f=f k
 | 0,h,_=>by omega
 | n+1,h,z=>by
  show sN n f+f n=f k;by_cases q:k=n
  ·subst q;rw[W0 λi a=>z i (by omega) (by omega)];omega
  ·rw[Z3 (n:=n) (by omega) λi a=>z i (by omega),z n (by omega) (by omega)];omega
theorem JN{f:Nat->Int}{k:Nat}:∀{n:Nat},k+1<n->(∀i,i<n->i≠k->i≠k+1->f i=0)->sN n f=f k+f (k+1)
 | 0,h,_=>by omega
 | n+1,h,z=>by
  show sN n f+f n=_;by_cases q:k+1=n
  ·subst q;rw[Z3 (k:=k) (by omega) λi a b=>z i (by omega) b (by omega)]
  ·rw[JN (n:=n) (by omega) λi a=>z i (by omega),z n (by omega) (by omega) (by omega)];omega
theorem XX(f:Nat->Int)(n:Nat):((aI n).map f).sum=sN n f:=by
 induction n with
 | zero=>rfl
 | succ n ih=>rw[fS,dZ,j4,ih];simp[sN]
abbrev Mt:=Nat->Nat->Int
noncomputable def Vf(i:Nat)(A:Mt):Mt:=λr c=>A (if r<i then r else r+1) (c+1)
noncomputable def sg:Nat->Int
 | 0=>1
 | n+1=>- sg n
noncomputable def ZH:Nat->Mt->Int
 | 0,_=>1
 | n+1,A=>sN (n+1) λi=>sg i*A i 0*ZH n (Vf i A)
theorem Yg(n:Nat)(A:Mt):ZH (n+1) A=sN (n+1) λi=>sg i*A i 0*ZH n (Vf i A):=rfl
theorem Zv:∀{n:Nat}{A B:Mt},(∀r c,r<n->c<n->A r c=B r c)->ZH n A=ZH n B
 | 0,_,_,_=>rfl
 | n+1,A,B,h=>by rw[Yg,Yg];refine Zj λi a=>?_;rw[h i 0 a (by omega),Zv (n:=n) (A:=Vf i A) (B:=Vf i B) λr c d b=>?_];unfold Vf;exact h _ _ (by split<;>omega) (by omega)
theorem PZ:∀{n:Nat}{A B C:Mt}{k:Nat}{x y:Int},k<n->(∀r c,r<n->c<n->r≠k->A r c=C r c/\B r c=C r c)->(∀c,c<n->C k c=x*A k c+y*B k c)->ZH n C=x*ZH n A+y*ZH n B
 | 0,_,_,_,k,_,_,h,_,_=>by omega
 | n+1,A,B,C,k,x,y,hk,h1,h2=>by
  rw[Yg,Yg,Yg,<-ZJ,<-ZJ,<-Yk];refine Zj λi l=>?_;by_cases q:i=k
  ·subst q;have g:ZH n (Vf i A)=ZH n (Vf i C):=Zv λr c d b=>by unfold Vf;exact(h1 _ _ (by split<;>omega) (by omega) (by split<;>omega)).1
   have m:ZH n (Vf i B)=ZH n (Vf i C):=Zv λr c d b=>by unfold Vf;exact(h1 _ _ (by split<;>omega) (by omega) (by split<;>omega)).2
   rw[g,m,h2 0 (by omega),j2,iR];simp only[bG,cv]
  ·obtain⟨f,j⟩:=h1 i 0 l (by omega) q
   have e:ZH n (Vf i C)=x*ZH n (Vf i A)+y*ZH n (Vf i B):=PZ (k:=if k<i then k else k-1) (by split<;>omega) (λr c d b a=>by
    unfold Vf
    exact h1 _ _ (by split<;>omega) (by omega) (by split at a<;>split<;>omega)) (λc b=>by
    have e:(if(if k<i then k else k-1)<i then(if k<i then k else k-1) else(if k<i then k else k-1)+1)=k:=by split<;>(try split)<;>omega
    unfold Vf;rw[e];exact h2 (c+1) (by omega))
   rw[f,j,e,j2];simp only[bG,cv]
theorem Sz:∀{n:Nat}{A:Mt}{k:Nat},k+1<n->(∀c,c<n->A k c=A (k+1) c)->ZH n A=0
 | 0,_,k,h,_=>by omega
 | n+1,A,k,hk,he=>by
  rw[Yg,JN hk]
  ·have e:ZH n (Vf k A)=ZH n (Vf (k+1) A):=Zv λr c m a=>by
    unfold Vf;by_cases q:r<k
    ·rw[k8 q,k8 (by omega)]
    ·rw[k9 q];by_cases f:r=k
     ·subst f;rw[k8 (by omega)];exact(he (c+1) (by omega)).symm
     ·rw[k9 (by omega)]
   rw[e,he 0 (by omega)];show sg k*_*_ + - sg k*_*_=0;rw[bS,bS];omega
  ·intro i l j g;rw[Sz (n:=n) (A:=Vf i A) (k:=if k+1<i then k else k-1) (by split<;>omega) λc a=>?_,bQ];have b:(if(if k+1<i then k else k-1)<i then(if k+1<i then k else k-1) else(if k+1<i then k else k-1)+1)=k:=by split<;>(try split)<;>omega
   have d:(if(if k+1<i then k else k-1)+1<i then(if k+1<i then k else k-1)+1 else(if k+1<i then k else k-1)+1+1)=k+1:=by split<;>(try split)<;>omega
   unfold Vf;rw[b,d];exact he (c+1) (by omega)
noncomputable def ZU(k:Nat)(v:Nat->Int)(A:Mt):Mt:=λr=>if r=k then v else A r
theorem Zm(k:Nat)(v:Nat->Int)(A:Mt):ZU k v A k=v:=by unfold ZU;rw[k8 rfl]
theorem ZE{k r:Nat}(v:Nat->Int)(A:Mt)(h:r≠k):ZU k v A r=A r:=by unfold ZU;rw[k9 h]
theorem XY{n k:Nat}{A:Mt}{u v:Nat->Int}{x y:Int}(a:k<n):ZH n (ZU k (λc=>x*u c+y*v c) A)=x*ZH n (ZU k u A)+y*ZH n (ZU k v A):=
 PZ a (λr c _ _ h=>by rw[ZE _ _ h,ZE _ _ h,ZE _ _ h];exact⟨rfl,rfl⟩) (λc _=>by rw[Zm,Zm,Zm])
noncomputable def DU(k:Nat)(A:Mt):Mt:=ZU k (A (k+1)) (ZU (k+1) (A k) A)
theorem HE{n k:Nat}{A:Mt}(d:k+1<n):ZH n (DU k A) = - ZH n A:=by
 have two:∀u v:Nat->Int,ZH n (ZU k (λc=>1*u c+1*v c) (ZU (k+1) (λc=>1*u c+1*v c) A))=0:=λu v=>Sz d λc _=>by rw[Zm,ZE _ _ (by omega),Zm]
 have same:∀u:Nat->Int,ZH n (ZU k u (ZU (k+1) u A))=0:=λu=>Sz d λc _=>by rw[Zm,ZE _ _ (by omega),Zm]
 have a:∀u v:Nat->Int,ZU k u (ZU (k+1) v A)=ZU (k+1) v (ZU k u A):=λu v=>by
  funext r;unfold ZU;by_cases q:r=k
  ·rw[k8 q,k9 (by omega),k8 q]
  ·rw[k9 q];by_cases b:r=k+1
   ·rw[k8 b,k8 b]
   ·rw[k9 b,k9 b,k9 q]
 have h:=two (A k) (A (k+1));rw[XY (by omega),a,XY d,a,XY d,<-a,<-a,<-a,<-a,same,same] at h
 have e:ZU k (A k) (ZU (k+1) (A (k+1)) A)=A:=by
  funext r;unfold ZU;by_cases q:r=k
  ·rw[k8 q,q]
  ·rw[k9 q];by_cases b:r=k+1
   ·rw[k8 b,b]
   ·rw[k9 b]
 rw[e] at h;unfold DU;omega
theorem Vu:∀(d:Nat){n i:Nat}{A:Mt},i+1+d<n->(∀c,c<n->A i c=A (i+1+d) c)->ZH n A=0
 | 0,n,i,A,h,e=>Sz h e
 | d+1,n,i,A,h,e=>by
  have a:ZH n (DU (i+1+d) A)=0:=Vu d (n:=n) (i:=i) (by omega) λc b=>by unfold DU;rw[ZE _ _ (by omega),ZE _ _ (by omega),Zm];exact e c b
  rw[HE (by omega)] at a;omega
theorem Wl{n i j:Nat}{A:Mt}(d:i<n)(f:j<n)(a:i≠j)(e:∀c,c<n->A i c=A j c):ZH n A=0:=by
 rcases Nat.lt_or_gt_of_ne a with h | h
 ·exact Vu (j-i-1) (i:=i) (by omega) λc b=>by rw[show i+1+(j-i-1)=j by omega];exact e c b
 ·exact Vu (i-j-1) (i:=j) (by omega) λc b=>by rw[show j+1+(i-j-1)=i by omega];exact(e c b).symm
theorem RM:∀{n:Nat}{A:Mt},(∀c,c<n->A n c=0)->ZH (n+1) A=A n n*ZH n A
 | 0,A,_=>by show 0+1*A 0 0*1=A 0 0*1;omega
 | n+1,A,h=>by
  rw[Yg (n+1)];show sN (n+1) _+sg (n+1)*A (n+1) 0*_=_;rw[h 0 (by omega),bQ,b9,fE,Yg n,<-ZJ];refine Zj λi b=>?_;rw[RM (n:=n) (A:=Vf i A) λc a=>?_]
  ·have e:Vf i A n n=A (n+1) (n+1):=by unfold Vf;rw[k9 (by omega)]
   rw[e];simp only[bG,cv]
  ·unfold Vf;rw[k9 (by omega)];exact h (c+1) (by omega)
theorem RN{n j:Nat}{A:Mt}{a:Nat->Int}{v:Nat->Nat->Int}(b:j<n):∀m,ZH n (ZU j (λc=>sN m λk=>a k*v k c) A)=sN m λk=>a k*ZH n (ZU j (v k) A)
 | 0=>by have:ZH n (ZU j (λc=>0*(0:Int)+0*(0:Int)) A)=0*ZH n (ZU j (λ_=>0) A)+0*ZH n (ZU j (λ_=>0) A):=XY (u:=λ_=>0) (v:=λ_=>0) b;simp only[b9,fE] at this;exact this
 | m+1=>by have:=XY (n:=n) (A:=A) (u:=λc=>sN m λk=>a k*v k c) (v:=v m) (x:=1) (y:=a m) b;simp only[cK] at this;show ZH n (ZU j (λc=>(sN m λk=>a k*v k c)+a m*v m c) A)=_;rw[this,RN b m];rfl
theorem HF{n j:Nat}{A:Mt}{a:Nat->Int}(d:j<n):ZH n (ZU j (λc=>sN n λk=>a k*A k c) A)=a j*ZH n A:=by
 rw[RN d n,Z3 d]
 ·have:ZU j (A j) A=A:=by funext r;unfold ZU;split<;>simp_all
  rw[this]
 ·intro i e b;rw[Wl e d b λc _=>by rw[ZE _ _ b,Zm],bQ]
noncomputable def Kl(n:Nat)(A:Mt)(i j:Nat):Int:=ZH n (ZU j (λc=>if c=i then 1 else 0) A)
theorem MV{n:Nat}{A:Mt}{j:Nat}(d:j<n)(v:Nat->Int):sN n (λi=>v i*Kl n A i j)=ZH n (ZU j v A):=by
 unfold Kl;rw[<-RN d n];refine Zv λr c f b=>?_;unfold ZU;split
 ·show sN n (λk=>v k*if c=k then 1 else 0)=v c;rw[Z3 b]
  ·simp
  ·intro i e a;rw[k9 (λz=>a z.symm),bQ]
 ·rfl
theorem MW{n:Nat}{A:Mt}{k j:Nat}(b:k<n)(a:j<n):sN n (λi=>A k i*Kl n A i j)=if k=j then ZH n A else 0:=by
 rw[MV a];split
 ·rename_i h;subst h;have:ZU k (A k) A=A:=by funext r;unfold ZU;split<;>simp_all
  rw[this]
 ·rename_i h;exact Wl b a h λc _=>by rw[ZE _ _ h,Zm]
theorem OY(k:Nat)(A:Mt):ZU k (A k) A=A:=by funext r;unfold ZU;split<;>simp_all
theorem UU{n k:Nat}{A:Mt}(b:k<n)(h:∀c,c<n->A k c=0):ZH n A=0:=by
 have:=XY (n:=n) (A:=A) (u:=A k) (v:=A k) (x:=0) (y:=0) b;rw[Zv (B:=A) (n:=n) λr c d a=>?_] at this
 ·simpa using this
 ·unfold ZU;split
  ·rename_i q;subst q;rw[h c a];simp
  ·rfl
theorem L6{n k j:Nat}{A:Mt}{u:Nat->Int}(d:k<n)(e:j<n)(a:j≠k)(h:∀c,c<n->u c=A j c):ZH n (ZU k u A)=0:=
 Wl d e (aj a) λc b=>by rw[Zm,ZE _ _ a];exact h c b
theorem Wm{k j:Nat}(h:k≠j)(u v:Nat->Int)(A:Mt):ZU k u (ZU j v A)=ZU j v (ZU k u A):=by
 funext r;unfold ZU;by_cases q:r=k
 ·subst q;simp[h]
 ·simp[q]
theorem RO{n q:Nat}{A B:Mt}{k:Nat->Int}(i:q<n)(f:∀c,c<n->B q c=A q c)(h:∀r c,r<n->c<n->r≠q->B r c=A r c+k r*A q c):ZH n B=ZH n A:=by
 have m:∀t,t<=n->ZH n (λr=>if r<t then B r else A r)=ZH n A:=by
  intro t
  induction t with
  | zero=>intro _;exact Zv λr c _ _=>by simp
  | succ t ih=>
   intro o;rw[<-ih (by omega)];by_cases e:t=q
   ·subst e;refine Zv λr c b a=>?_;by_cases z:r<t
    ·rw[k8 (by omega),k8 z]
    ·by_cases d:r=t
     ·subst d;rw[k8 (by omega),k9 (by omega)];exact f c a
     ·rw[k9 (by omega),k9 z]
   ·have g:ZH n (λr=>if r<t+1 then B r else A r)=ZH n (ZU t (λc=>(1:Int)*A t c+k t*A q c) (λr=>if r<t then B r else A r)):=by
     refine Zv λr c b a=>?_;unfold ZU;by_cases d:r=t
     ·subst d;rw[k8 rfl];rw[k8 (by omega),h r c b a e,cK]
     ·rw[k9 d];show(if r<t+1 then B r else A r) c=(if r<t then B r else A r) c;by_cases z:r<t
      ·rw[k8 (by omega),k8 z]
      ·rw[k9 (by omega),k9 z]
    rw[g,XY (by omega)];have l:ZU t (A t) (λr=>if r<t then B r else A r)=λr=>if r<t then B r else A r:=by have:=OY t (λr=>if r<t then B r else A r);simp only[br,if_false] at this;exact this
    rw[l,L6 (j:=q) (by omega) i (aj e) (λc a=>by
     split
     ·rw[f c a]
     ·rfl)]
    omega
 rw[<-m n (aG n)];exact Zv λr c b _=>by rw[k8 b]
abbrev CF:=Nat×Nat
noncomputable def ind(a b:Nat):Int:=if a=b then 1 else 0
noncomputable def dl(e:CF)(y:Nat):Int:=ind e.1 y-ind e.2 y
open L2 VL
theorem Eg{f g:XS}{s:ZD}{v:PV}(a:f s=aA (.rt v)):Zn f g s=aA (.rt v):=by rw[OF,a];rfl
noncomputable def YC(ns:List Int)(k:Nat):Int:=if k<ns.length then Xp ns k else((k:Int)*k+3*k+1)*5003%1999
section
variable {s:ZD} {f g:XE} {a b:Int} {C:Int->Int->Prop} [∀i j,Decidable (C i j)] {op:Int->Int->Int}
theorem vC(d:f s=aA (.int a))(e:g s=aA (.int b))(c:C a b):Zi (LB C op) f g s=aA (.int (op a b)):=by rw[UI,d,e];simp only[aY,F5,k8 c]
theorem vI(c:f s=aA (.int a))(d:g s=aA (.int b)):Zi (gI op) f g s=aA (.int (op a b)):=by rw[UI,c,d];rfl
theorem vP(b:f s=aA (.int a)):eP f s=aA (.int a):=by rw[S9,b];rfl
theorem HG{v:PV}(a:f s=aA v):ZT f s=aA (.rt v):=by rw[Ji,a];rfl
end
theorem VU{a:List Int}(h:a.length<=63){k:Nat}(c:k<=100):Yf [.cst (iL a),.int (k:Int)]=aA (.int (YC a k)):=by
 unfold YC;by_cases q:k<a.length
 ·simp[Yf,UQ,YL,ZL,q,Ua q]
 ·have c1:CMul (k:Int) (k:Int):=Ea (by omega) (by omega);have c2:CMul 3 (k:Int):=.inl (by omega);have c3:CMul ((k:Int)*k+3*k+1) 5003:=.inr (by omega);have b:S6 (xB (Zi GC (Za 1) (Zc Z5 [Za 0]))) (ZT (eP (Zi ZS (Za 0) (Za 1)))) YB [aA (.cst (iL a)),aA (.int (k:Int))]=aA (.nx [aA (.cst (iL a)),aA (.int (k:Int))]):=by simp[q]
  show YL 2 UQ _=_;unfold UQ;show(Zn _ _ [aA (.cst (iL a)),aA (.int (k:Int))]).bind NP=_;rw[Xs b,k9 q,HG (vP (vC (vC (vI (vI (vC rfl rfl c1) (vC rfl rfl c2)) rfl) rfl c3) rfl (by decide)))];rfl
theorem XZ(c:Int){t m:Nat}(H:t<=100)(w:0<m):∃v:Nat,v<m/\Zw [.int c,.int (t:Int),.int (m:Int)]=aA (.int (v:Int)):=by
 have j:(0:Int)<(m:Int):=by omega
 have a:∀x:Int,∃v:Nat,v<m/\x%(m:Int)=(v:Int):=λx=>by have A:=iC x (show(m:Int)≠0 by omega);have b:=gJ x j;exact⟨(x%(m:Int)).toNat,by omega,by omega⟩
 have B:Zs 3 (eP (Zi Nz (Za 0) (eC (.int 2)))) [aA (.int c),aA (.int (t:Int)),aA (.int (m:Int)),none,none]=aA (.nx [aA (.int c),aA (.int (t:Int)),aA (.int (m:Int)),aA (.int (c/2)),none]):=by simp[Np]
 show ∃v:Nat,v<m/\YL 5 Rn _=_;unfold Rn;show ∃v:Nat,v<m/\(Zn _ _ [aA (.int c),aA (.int (t:Int)),aA (.int (m:Int)),none,none]).bind NP=_;rw[Xs B];by_cases q:c%2=1/\1000000000<c
 ·obtain⟨G,b,x,y,e⟩:=Xx (T:=.one 4) (fb:=Zs 3 (eP (Zi Nz (Za 3) (eC (.int 1000))))) (ls:=Ti t) (s:=[aA (.int c),aA (.int (t:Int)),aA (.int (m:Int)),aA (.int (c/2)),none])
   (λi st=>∃x y,st=[aA (.int c),aA (.int (t:Int)),aA (.int (m:Int)),aA (.int x),y]) ⟨_,_,rfl⟩ (by
    rintro i l st E ⟨x,y,rfl⟩;obtain⟨I,rfl⟩:=UL E;refine⟨_,_,rfl,?_,x/1000,aA (.int (i:Int)),rfl⟩;simp[Np])
  subst e;obtain⟨v,p,o⟩:=a x;refine⟨v,p,?_⟩;have C:ZZ [Za 1] [aA (.int c),aA (.int (t:Int)),aA (.int (m:Int)),aA (.int (c/2)),none]=aA (Ti t):=Yj (by simp) (by omega);have D:YD [] (ZZ [Za 1]) (.one 4) (Zs 3 (eP (Zi Nz (Za 3) (eC (.int 1000))))) [aA (.int c),aA (.int (t:Int)),aA (.int (m:Int)),aA (.int (c/2)),none]=aA (.nx [aA (.int c),aA (.int (t:Int)),aA (.int (m:Int)),aA (.int x),y]):=by show(ZZ [Za 1] [aA (.int c),aA (.int (t:Int)),aA (.int (m:Int)),aA (.int (c/2)),none]).bind _=_;rw[C];exact b
  rw[Eg (v:=.int (v:Int))]
  ·rfl
  ·rw[XN];have:(NC (xB (Zi (VB aB) (Zi Wh (Za 0) (eC (.int 2))) (eC (.int 1)))) (xB (Zi Ki (Za 0) (Zi IY (eC (.int 10)) (eC (.int 9)))))) [aA (.int c),aA (.int (t:Int)),aA (.int (m:Int)),aA (.int (c/2)),none]=aA aC:=by simp[q.1,Lp,q.2]
   rw[this];simp only[aY,if_true];rw[Xs D];simp[w,o]
 ·have:(NC (xB (Zi (VB aB) (Zi Wh (Za 0) (eC (.int 2))) (eC (.int 1)))) (xB (Zi Ki (Za 0) (Zi IY (eC (.int 10)) (eC (.int 9)))))) [aA (.int c),aA (.int (t:Int)),aA (.int (m:Int)),aA (.int (c/2)),none]=aA aB:=by
   by_cases f:c%2=1
   ·have:¬1000000000<c:=λz=>q ⟨f,z⟩;simp[f,Lp,this]
   ·simp[f]
  rw[Xs (s1:=[aA (.int c),aA (.int (t:Int)),aA (.int (m:Int)),aA (.int (c/2)),none]) (by rw[XN,this];rfl)];generalize u:c/2%999979+1009*(t:Int)=x1;have F:0<=x1/\x1<2000000:=by have A:=iC (c/2) (show(999979:Int)≠0 by decide);have b:=gJ (c/2) (show(0:Int)<999979 by decide);omega
  generalize g:(x1*x1+40503*x1)%999983=x2;have J:0<=x2/\x2<2000000:=by have A:=iC (x1*x1+40503*x1) (show(999983:Int)≠0 by decide);have b:=gJ (x1*x1+40503*x1) (show(0:Int)<999983 by decide);omega
  have k:CMul 1009 (t:Int):=.inl (by omega);have h:CMul x1 x1:=.inl (by omega);have n:CMul 40503 x1:=.inl (by omega);have r:CMul x2 x2:=.inl (by omega);have d:CMul 7 (t:Int):=.inl (by omega);obtain⟨v,p,o⟩:=a ((x2*x2+7*(t:Int))%999961/11);refine⟨v,p,?_⟩;rw[Xs (s1:=[aA (.int c),aA (.int (t:Int)),aA (.int (m:Int)),aA (.int x1),none]) (by simp[k,u]),Xs (s1:=[aA (.int c),aA (.int (t:Int)),aA (.int (m:Int)),aA (.int x2),none]) (by simp[h,n,g])];simp[r,d,Np,w,o]
noncomputable def RP(M:List (List Int))(a b:Nat)(t:Int):List (List Int):=Te (Te M a b t) b a t
theorem SA{n:Nat}{M:List (List Int)}{a b:Nat}{t:Int}(ok:MatOk n M)(c:a<n)(d:b<n)(i j:Nat):ent (RP M a b t) i j=if b=i/\a=j then t else if a=i/\b=j then t else ent M i j:=by obtain⟨f,e⟩:=Wu ok.len ok.row c;unfold RP;rw[Oq f e d c,Oq ok.len ok.row c d]
theorem JO{n:Nat}{M:List (List Int)}{a b:Nat}{t:Int}(ok:MatOk n M)(g:a<n)(f:b<n)(e:a≠b)(o:0<=t)(q:t<=9):MatOk n (RP M a b t):=by
 obtain⟨m,l⟩:=Wu ok.len ok.row g;obtain⟨k,h⟩:=Wu m l f;have E:=SA (t:=t) ok g f;refine⟨k,h,λi j c d=>?_,λi j c d=>?_,λi j c d=>?_,λi c=>?_⟩
 ·have:=ok.lo i j c d;rw[E];split<;>(try split)<;>omega
 ·have:=ok.hi i j c d;rw[E];split<;>(try split)<;>omega
 ·have:=ok.sym i j c d;rw[E,E];by_cases p:b=i/\a=j
  ·rw[k8 p];by_cases p2:b=j/\a=i
   ·rw[k8 p2]
   ·rw[k9 p2,k8 ⟨p.2,p.1⟩]
  ·rw[k9 p];by_cases p2:a=i/\b=j
   ·rw[k8 p2,k8 ⟨p2.2,p2.1⟩]
   ·rw[k9 p2,k9 (λz=>p2 ⟨z.2,z.1⟩),k9 (λz=>p ⟨z.2,z.1⟩)];exact this
 ·rw[E,k9 (λz=>e (by omega)),k9 (λz=>e (by omega))];exact ok.dia i c
theorem OZ{n:Nat}{M:List (List Int)}{a b:Nat}{k:Int}(ok:MatOk n M)(d:a<n)(f:b<n):WB [.lst (rL M),.int (a:Int),.int (b:Int),.int k]=aA (.lst (rL (RP M a b (if ent M a b+k<9 then ent M a b+k else 9)))):=by
 have g:(rL M).length=n:=by unfold rL;rw[aO];exact ok.len
 generalize i:(if ent M a b+k<9 then ent M a b+k else 9)=t;have o:U8 (rL M) (a:Int)=aA (.lst (iL (Zu M a))):=Xn (Me (by rw[ok.len];exact d));have s:U8 (iL (Zu M a)) (b:Int)=aA (.int (ent M a b)):=Ua (by rw[ok.row a d];exact f);have h:=Wu (t:=t) (b:=b) ok.len ok.row d;have e:(rL (Te M a b t)).length=n:=by unfold rL;rw[aO];exact h.1
 have p:Zs 4 (eP (Zc Ox [eC (.int 9),Zi Z4 (Zi ZS (Zi ZS (Za 0) (Za 1)) (Za 2)) (Za 3)])) [aA (.lst (rL M)),aA (.int (a:Int)),aA (.int (b:Int)),aA (.int k),none]=aA (.nx [aA (.lst (rL M)),aA (.int (a:Int)),aA (.int (b:Int)),aA (.int k),aA (.int t)]):=by simp[o,s,i]
 have r:WA 0 (Za 1) (Za 2) (Za 4) [aA (.lst (rL M)),aA (.int (a:Int)),aA (.int (b:Int)),aA (.int k),aA (.int t)]=aA (.nx [aA (.lst (rL (Te M a b t))),aA (.int (a:Int)),aA (.int (b:Int)),aA (.int k),aA (.int t)]):=by rw[Rg (l:=.int t) (a:=(a:Int)) (b:=(b:Int)) (j:=a) (c:=b) (m:=rL M) (n:=iL (Zu M a)) rfl rfl rfl rfl (VJ (by rw[g];exact d)) (Me (by rw[ok.len];exact d)) (Yi _) rfl (VJ (by rw[aO,ok.row a d];exact f)),JL];rfl
 have q:WA 0 (Za 2) (Za 1) (Za 4) [aA (.lst (rL (Te M a b t))),aA (.int (a:Int)),aA (.int (b:Int)),aA (.int k),aA (.int t)]=aA (.nx [aA (.lst (rL (RP M a b t))),aA (.int (a:Int)),aA (.int (b:Int)),aA (.int k),aA (.int t)]):=by rw[Rg (l:=.int t) (a:=(b:Int)) (b:=(a:Int)) (j:=b) (c:=a) (m:=rL (Te M a b t)) (n:=iL (Zu (Te M a b t) b)) rfl rfl rfl rfl (VJ (by rw[e];exact f)) (Me (by rw[h.1];exact f)) (Yi _) rfl (VJ (by rw[aO,h.2 b f];exact d)),JL];rfl
 show ED 5 Sv _=_;unfold ED;rw[k8 (by rfl)];unfold Sv;show(Zn _ _ [aA (.lst (rL M)),aA (.int (a:Int)),aA (.int (b:Int)),aA (.int k),none]).bind Du=_;rw[Xs p,Xs r,q];rfl
theorem MX{i:Nat}{D:List PV->Option PV}{fs:List XE}{s:ZD}{l0 l':PV}{ls:List PV}(a:s[i]?=aA (aA l0))(c:Sg fs s=aA ls)(b:ZC ls=aC)(d:D (l0::ls)=aA l'):OJ i D fs s=aA (.nx (s.set i (aA l'))):=by unfold OJ;rw[a];simp only[c,aY,b,if_true,d,dY]
theorem L7{s:ZD}{n:Nat}(h:s[3]?=aA (aA (.int (n:Int))))(a:n<=7):Zt 1 [3] (ZZ [Za 3]) (.one 0) ZF (Zi OE (SW [eC (.int 0)]) (Za 1)) s=aA (.lst (rL (aU n (aU n 0)))):=by
 rw[Z9 (aI n) (λi=>.int (i:Int)) (λ_=>.lst (iL (aU n 0))) (Yj (by simp[h]) (by omega)) (by simp;omega) (λi _=>⟨_,rfl,rfl,?_⟩)]
 ·unfold rL;rw[List.map_const',bY,List.map_replicate]
 ·have e:OE (.lst [.int 0]) (.int (n:Int))=aA (.lst (iL (aU n 0))):=by show(if ZC [PV.int 0]=aC/\(-1000000:Int)<=(n:Int)/\(n:Int)<=1000000/\[PV.int 0].length*((n:Int)).toNat<=10000 then aA (PV.lst (aU ((n:Int)).toNat [PV.int 0]).flatten) else none)=_;rw[k8 ⟨rfl,by omega,by omega,by simp;omega⟩];simp
  simp[Z1,h,e]
noncomputable def Grown(M:List (List Int))(l:List Int)(k:Nat):Prop:=∀j,1<=j->j<k->∃j',j'<j/\0<ent M (Xp l j).toNat (Xp l j').toNat
theorem Grown.mono{M c:List (List Int)}{l:List Int}{k:Nat}(h:Grown M l k)(g:∀i j,0<ent M i j->0<ent c i j):Grown c l k:=λj e d=>by obtain⟨f,a,b⟩:=h j e d;exact⟨f,a,g _ _ b⟩
theorem Grown.conn{M:List (List Int)}{l:List Int}{n:Nat}(h:Grown M l n)(s:M.length=n)(d:NamesOk n l):TN M:=by
 intro P r i j g m;rw[s] at g m;have lt:∀x,x<n->(Xp l x).toNat<M.length:=λx c=>by have:=d.at c;omega
 have all:∀k,k<n->(P (Xp l k).toNat↔P (Xp l 0).toNat):=by
  intro k
  induction k using Nat.strongRecOn with
  | ind k ih=>
   intro p;by_cases q:k=0
   ·subst q;exact Iff.rfl
   ·obtain⟨o,a,b⟩:=h k (by omega) p;exact(r _ _ (lt k p) (lt o (by omega)) b).trans (ih o a (by omega))
 have f:∀i,i<n->∃x,x<n/\(Xp l x).toNat=i:=λi g=>by have:=CD d.nd (λx c=>⟨x.toNat,by have:=d.hi x c;omega,by have:=d.lo x c;omega⟩) d.len g;obtain⟨x,c,e⟩:=HD this;exact⟨x,by rw[<-d.len];exact c,by rw[e];rfl⟩
 obtain⟨x,c,rfl⟩:=f i g;obtain⟨y,t,rfl⟩:=f j m;exact(all x c).trans (all y t).symm
theorem MY{n:Nat}{M:List (List Int)}{a b:Nat}{t:Int}(ok:MatOk n M)(d:a<n)(e:b<n)(c:0<t):(∀i j,0<ent M i j->0<ent (RP M a b t) i j)/\0<ent (RP M a b t) a b:=by
 refine⟨λi j h=>?_,?_⟩
 ·rw[SA ok d e];split
  ·exact c
  ·split
   ·exact c
   ·exact h
 ·rw[SA ok d e];split
  ·exact c
  ·rw[k8 ⟨rfl,rfl⟩];exact c
noncomputable def XC(ns:List Int)(mo n:Nat)(M:List (List Int))(sp:List Int)(x6 x7 x8 x9:Option PV):ZD:=[aA (.cst (iL ns)),aA (.int (mo:Int)),aA (.int (YC ns 0)),aA (.int (n:Int)),aA (.lst (rL M)),aA (.lst (iL sp)),x6,x7,x8,x9]
abbrev DV:XS:=UH 5 (Zc Zw [Zc Yf [Za 0,Zi Z4 (eC (.int 6)) (Za 6)],eC (.int 10),Zi Z4 (Za 6) (eC (.int 1))]) (Za 6)
abbrev DW:XS:=Zn (Zs 7 (Zc Yf [Za 0,Za 6]))
  (OJ 4 WB [Zi ZS (Za 5) (Za 6),Zi ZS (Za 5) (Zc Zw [Za 7,eC (.int 1),Za 6]),Zi Z4 (eC (.int 1)) (Zc Zw [Za 7,eC (.int 2),eC (.int 3)])])
abbrev DX:XS:=(Zn (Zs 7 (Zc Yf [Za 0,Zi Z4 (eC (.int 7)) (Za 6)]))
  (Zn (Zs 8 (Zc Zw [Za 7,eC (.int 4),Za 3]))
  (Zn (Zs 9 (eP (Zi Wh (Zi Z4 (Zi Z4 (Za 8) (eC (.int 1))) (Zc Zw [Za 7,eC (.int 5),Zi XH (Za 3) (eC (.int 1))])) (Za 3))))
  (OJ 4 WB [Za 8,Za 9,Zi Z4 (eC (.int 1)) (Zc Zw [Za 7,eC (.int 6),eC (.int 2)])]))))
theorem Eh{a:List Int}{mo n:Nat}{M:List (List Int)}{sp:List Int}{x7 x8 x9:Option PV}{i:Nat}(b:a.length<=63)(j:i<7)(d:NamesOk i sp) :
  ∃sp',NamesOk (i+1) sp'/\DV (XC a mo n M sp (aA (.int (i:Int))) x7 x8 x9)=aA (.nx (XC a mo n M sp' (aA (.int (i:Int))) x7 x8 x9)):=by
 obtain⟨v,h,c⟩:=XZ (YC a (6+i)) (t:=10) (m:=i+1) (by omega) (by omega);have e:=VU b (k:=6+i) (by omega);refine⟨sp.take v++(i:Int)::sp.drop v,d.ins v,?_⟩;unfold DV;rw[NT (k:=(v:Int)) (l:=.int (i:Int)) (m:=iL sp) ?_ rfl rfl (Yi sp) rfl (by omega) (by omega) (by rw[aO,d.len];omega),fA,Ef]
 ·rfl
 ·have g:((6+i:Nat):Int)=6+(i:Int):=by omega
  have f:((i+1:Nat):Int)=(i:Int)+1:=by omega
  rw[g] at e;rw[f] at c;simp[XC,e];exact c
noncomputable def nL(l:List Nat):List Int:=l.map λ(i:Nat)=>(i:Int)
theorem QO{d:Type}{T:Tgt}{fb:XS}{q g:d->PV}{c:d->Bool}(S:ZD->Prop):∀{ls:List d}{s:ZD},(∀a∈ls,∀s,S s->∃s1,YU T (q a) s=aA s1/\((c a=aC->fb s1=aA (.rt (g a)))/\(c a=aB->∃s2,fb s1=aA (.nx s2)/\S s2)))->S s->
  match ls.find? c with | some a=>Vd T fb (ls.map q) s=aA (.rt (g a)) | none=>∃s',Vd T fb (ls.map q) s=aA (.nx s')/\S s'
 | [],s,_,h0=>⟨s,rfl,h0⟩
 | a::r,s,h,h0=>by
  obtain⟨s1,f,i,k⟩:=h a a9 s h0;rw[List.find?_cons]
  cases ca:c a with
  | true=>
   show Vd T fb (q a::r.map q) s=_;unfold Vd;rw[f];simp only[aY,i ca]
  | false=>
   obtain⟨s2,n,j⟩:=k ca;have l:=QO S (ls:=r) (s:=s2) (λb m=>h b (aW _ m)) j
   have e:Vd T fb ((a::r).map q) s=Vd T fb (r.map q) s2:=by
    show Vd T fb (q a::r.map q) s=_;unfold Vd;rw[f];simp only[aY,n];cases r.map q<;>rfl
   rw[e];exact l
end PW
set_option maxHeartbeats 2000000
namespace PW
open PySem L2 VL VX
section
variable {f g h k l:XE} {s s1:ZD} {a b c d e v r:PV} {i m:Nat} {F G:XS} {x y:XT} {o:Option Out} {p:Bool} {D:List PV->Option PV} {R:Option PV} {ls:List PV}
theorem YM(q:F (ZL m ls)=aA (.rt v)):YL m F ls=aA v:=by show(F (ZL m ls)).bind NP=_;rw[q];rfl
theorem sq(q:F s=aA (.nx s1))(w:G s1=o):Zn F G s=o:=(Xs q).trans w
theorem Zy(q:f s=aA v):Zs i f s=aA (.nx (s.set i (aA v))):=by rw[Ra,q];rfl
theorem ep(q:f s=aA v)(w:ZQ v=aC:=by rfl):eP f s=aA v:=by rw[S9,q,aY,k8 w]
theorem GQ{l:List Int}(q:f s=aA (pP l)):eP f s=aA (pP l):=ep q (Yi _)
theorem c1(q:f s=aA a)(w:D [a]=R):Zc D [f] s=R:=by show((f s).bind λx=>aA [x]).bind D=_;rw[q];exact w
theorem c2(q:f s=aA a)(c:g s=aA b)(w:D [a,b]=R):Zc D [f,g] s=R:=by rw[Y0,ZO,q,ZO,c];exact w
theorem c3(q:f s=aA a)(d:g s=aA b)(e:h s=aA c)(w:D [a,b,c]=R):Zc D [f,g,h] s=R:=by rw[Y0,ZO,q,ZO,d,ZO,e];exact w
theorem c4(q:f s=aA a)(j:g s=aA b)(e:h s=aA c)(i:k s=aA d)(w:D [a,b,c,d]=R):Zc D [f,g,h,k] s=R:=by rw[Y0,ZO,q,ZO,j,ZO,e,ZO,i];exact w
theorem c5(q:f s=aA a)(n:g s=aA b)(j:h s=aA c)(m:k s=aA d)(i:l s=aA e)(w:D [a,b,c,d,e]=R):Zc D [f,g,h,k,l] s=R:=by rw[Y0,ZO,q,ZO,n,ZO,j,ZO,m,ZO,i];exact w
theorem o2{op:PV->PV->Option PV}(q:f s=aA a)(c:g s=aA b)(w:op a b=R):Zi op f g s=R:=by rw[UI,q,c];exact w
theorem xb(q:f s=aA (.bl p)):xB f s=aA p:=by rw[F6,q];rfl
theorem xn(q:x s=aA p):ND x s=aA !p:=by rw[Jg,q];rfl
theorem xo{p2:Bool}(q:x s=aA p)(a:y s=aA p2):IZ x y s=aA (p || p2):=by
 rw[Hl,q];cases p
 ·exact a
 ·rfl
theorem ea{p2:Bool}(q:f s=aA (.bl p))(a:g s=aA (.bl p2)):Tf f g s=aA (.bl (p&&p2)):=by
 rw[Jh,xb q];cases p
 ·rfl
 ·exact a
theorem DY(q:x s=aA aB):S6 x F YB s=aA (.nx s):=by rw[XN,q];rfl
theorem ret(q:f s=aA v):ZT f s=aA (.rt v):=HG q
end
theorem HH{f g:XE}{s:ZD}{l:List Int}{k:Nat}(b:f s=aA (pP l))(a:g s=aA (.int (k:Int)))(h:k<l.length):Wn Xc f VD (Xw g) s=aA (pP (l.take k)):=by rw[Xq,b];simp only[aY,Ph];unfold Xw;rw[a];simp only[aY];unfold Xc;simp only[];rw[k9,Mg];rw[HT.sIx_none,HT.sIx_nat,aO];omega
theorem HI{f g:XE}{s:ZD}{l:List Int}{k:Nat}(b:f s=aA (pP l))(a:g s=aA (.int (k:Int)))(h:k<l.length):Wn Xc f (Xw (Zi Z4 g (eC (.int 1)))) VD s=aA (pP (l.drop (k+1))):=by
 have a:Zi Z4 g (eC (.int 1)) s=aA (.int ((k+1:Nat):Int)):=by rw[UI,a];rfl
 rw[Xq,b];simp only[aY,Ph];unfold Xw;rw[a];simp only[aY];unfold Xc;simp only[];rw[k9,JM];rw[HT.sIx_none,HT.sIx_nat,aO];omega
theorem HJ{a b:List Int}(h:a.length+b.length<=1000):V1 (pP a) (pP b)=aA (pP (a++b)):=by unfold V1;simp only[];rw[k8 (by rw[aO,aO];omega),<-dZ]
noncomputable def YF(F:XS)(s:ZD)(Q:PV->Prop):Prop:=∃v,F s=aA (.rt v)/\Q v
noncomputable def XD(F:XS)(s:ZD)(R:ZD->Prop):Prop:=∃s1,F s=aA (.nx s1)/\R s1
section
variable {F G:XS} {s s1:ZD} {Q:PV->Prop} {R:ZD->Prop} {v:PV} {f g:XE} {x:XT} {p:Bool} {m i k n:Nat} {ls:List PV} {O:List Nat} {fi:XL} {T:Tgt} {fb:XS} {a b:Int}
theorem T5(h:YF F (ZL m ls) Q):∃v,YL m F ls=aA v/\Q v:=by obtain⟨v,e,q⟩:=h;exact⟨v,YM e,q⟩
theorem O0(h:YF F (ZL m ls) λw=>w=v):YL m F ls=aA v:=by obtain⟨_,e,rfl⟩:=T5 h;exact e
theorem Z7(q:F s=aA (.nx s1))(h:YF G s1 Q):YF (Zn F G) s Q:=by obtain⟨v,e,a⟩:=h;exact⟨v,sq q e,a⟩
theorem UW(h:XD F s R)(a:∀s1,R s1->YF G s1 Q):YF (Zn F G) s Q:=by obtain⟨s1,e,r⟩:=h;exact Z7 e (a s1 r)
theorem XG(q:f s=aA v)(h:Q v):YF (ZT f) s Q:=⟨v,ret q,h⟩
theorem Dw(q:x s=aA aC)(h:YF F s Q):YF (Zn (S6 x F YB) G) s Q:=by obtain⟨v,e,a⟩:=h;exact⟨v,Eg (by rw[XN,q];exact e),a⟩
theorem L8(q:F s=aA (.nx s1))(h:R s1):XD F s R:=⟨s1,q,h⟩
theorem V3(q:F s=aA (.nx s1))(h:XD G s1 R):XD (Zn F G) s R:=by obtain⟨s2,e,r⟩:=h;exact⟨s2,sq q e,r⟩
theorem GR{R2:ZD->Prop}(h:XD F s R)(a:∀s1,R s1->XD G s1 R2):XD (Zn F G) s R2:=by obtain⟨s1,e,r⟩:=h;exact V3 e (a s1 r)
theorem HK{R2:ZD->Prop}(h:XD F s R)(a:∀s1,R s1->R2 s1):XD F s R2:=by obtain⟨s1,e,r⟩:=h;exact⟨s1,e,a s1 r⟩
theorem GS(q:x s=aA p)(a:p=aC->XD F s R)(b:p=aB->XD G s R):XD (S6 x F G) s R:=by
 unfold XD;rw[XN,q];cases p
 ·exact b rfl
 ·exact a rfl
theorem Mh(I:Nat->ZD->Prop)(f:fi (Yo O s)=aA ls)(a:I 0 s)(st:∀i l s,ls[i]?=aA l->I i s->∃s1,YU T l s=aA s1/\XD fb s1 (I (i+1))):XD (YD O fi T fb) s (I ls.length):=by
 obtain⟨j,e,q⟩:=Xx I a λi l s d h=>by obtain⟨s1,c,s2,g,b⟩:=st i l s d h;exact⟨s1,s2,c,g,b⟩
 refine⟨j,?_,q⟩;unfold YD;rw[f];exact e
theorem JP(I:Nat->ZD->Prop)(b:f (Yo O s)=aA (.int (n:Int)))(a:I 0 s)(st:∀i s,i<n->I i s->XD fb (s.set k (aA (.int (i:Int)))) (I (i+1)))(e:n<=10000:=by omega):XD (YD O (ZZ [f]) (.one k) fb) s (I n):=by
 have:=Mh (T:=.one k) (fb:=fb) I (Yj b e) a λi l s c h=>by obtain⟨d,rfl⟩:=UL c;exact⟨_,rfl,st i s d h⟩
 rwa [Rf] at this
theorem HL{d:Type}{L:List d}{q g:d->PV}(c:d->Bool)(I:ZD->Prop)(l:fi (Yo O s)=aA (L.map q))(f:I s)(st:∀a∈L,∀s,I s->∃s1,YU T (q a) s=aA s1/\(c a=aC->fb s1=aA (.rt (g a)))/\(c a=aB->XD fb s1 I))(m:∀a,L.find? c=aA a->Q (g a))(j:L.find? c=none->∀s1,I s1->YF G s1 Q):YF (Zn (YD O fi T fb) G) s Q:=by
 have b:=QO (T:=T) (fb:=fb) (g:=g) I st f;have e:∀o,Vd T fb (L.map q) s=o->YD O fi T fb s=o:=λo h=>by unfold YD;rw[l];exact h
 cases z:L.find? c with
 | some a=>rw[z] at b;exact⟨_,Eg (e _ b),m a z⟩
 | none=>
  rw[z] at b;obtain⟨s1,k,i⟩:=b;exact Z7 (e _ k) (j z s1 i)
theorem Bm{o:Option Out}(q:x s=aA aC)(w:F s=o):S6 x F G s=o:=by rw[XN,q];exact w
theorem Dx{b:Type}{L:List b}{q g:b->PV}{H:XS}(c:b->Bool)(I:ZD->Prop)(l:fi (Yo O s)=aA (L.map q))(n:I s)(st:∀a∈L,∀s,I s->∃s1,YU T (q a) s=aA s1/\x s1=aA (c a)/\H s1=aA (.rt (g a))/\I s1)(f:∀a,L.find? c=aA a->Q (g a))(k:L.find? c=none->∀s1,I s1->YF G s1 Q):YF (Zn (YD O fi T (S6 x H YB)) G) s Q:=
 HL (g:=g) c I l n (λa o s i=>by
  obtain⟨s1,e,d,j,m⟩:=st a o s i;exact⟨s1,e,λh=>Bm (by rw[d,h]) j,λh=>L8 (DY (by rw[d,h])) m⟩) f k
theorem Dy{X:List Nat}(I:Nat->ZD->Prop)(a:fi (Yo O s)=aA (iL (nL X)))(c:I 0 s)(st:∀i s (h:i<X.length),I i s->XD fb (s.set k (aA (.int ((X[i]:Nat):Int)))) (I (i+1))):XD (YD O fi (.one k) fb) s (I X.length):=by
 have:=Mh (T:=.one k) (fb:=fb) I a c λi l s b h=>by
  have a:i<X.length:=by have:=(aV.mp b).1;simpa [nL] using this
  have e:l = .int ((X[i]:Nat):Int):=by rw[NQ (by simpa [nL] using a)] at b;rw[<-av b];simp[nL,Xp,a]
  subst e;exact⟨_,rfl,st i s a h⟩
 rwa [show(iL (nL X)).length=X.length by simp[nL]] at this
theorem Bn(q:f s=aA (.int a))(c:g s=aA (.int b))(h:0<b:=by omega):Zi Wh f g s=aA (.int (a%b)):=vC q c h
theorem DZ(q:f s=aA (.int a))(c:g s=aA (.int b)):Zi Z4 f g s=aA (.int (a+b)):=vI q c
theorem C5(q:f s=aA (.int a))(c:g s=aA (.int b)):Zi XH f g s=aA (.int (a-b)):=vI q c
theorem Bp{a b:Nat}(q:f s=aA (.int (a:Int)))(c:g s=aA (.int (b:Int))):Zi GC f g s=aA (.bl (decide (a<b))):=o2 q c (by
 show aA (PV.bl (decide ((a:Int)<(b:Int))))=_;rw[decide_eq_decide.mpr Int.ofNat_lt])
theorem C6{a b:Nat}(q:f s=aA (.int (a:Int)))(c:g s=aA (.int (b:Int))):Zi Ki f g s=aA (.bl (decide (b<a))):=o2 q c (by
 show aA (PV.bl (decide ((a:Int)>(b:Int))))=_;rw[decide_eq_decide.mpr Int.ofNat_lt])
theorem JQ(q:f s=aA (.int a))(c:g s=aA (.int b)):Zi (VB aB) f g s=aA (.bl (decide (a=b))):=o2 q c (by rw[Pj];rfl)
theorem C7{op:PV->Option PV}{S:Option PV}(q:f s=aA v)(w:op v=S):FU op f s=S:=by unfold FU;rw[q];exact w
theorem JR{S:Option PV}(q:x s=aA aC)(w:f s=S):GD x f g s=S:=by rw[MP,q];exact w
theorem JS{S:Option PV}(q:x s=aA aB)(w:g s=S):GD x f g s=S:=by rw[MP,q,aY,k9 (by decide)];exact w
theorem Ei(Q:List Int):W7 (iL Q)=(aI Q.length).map λ(i:Nat)=>.tup [.int (i:Int),.int (Xp Q i)]:=by
 rw[Vm,aO];exact bD λi a=>by rw[VG Q i (aX.mp a)]
theorem O1{W:List (List Int)}:Z5 [wP W]=aA (.int (W.length:Int)):=by show aA (PV.int ((W.map pP).length:Int))=_;rw[aO]
end
end PW
namespace PW
theorem TR{f:Nat->Int}{q:Nat}:∀{m:Nat},q<=m->(∀k,q<=k->k<m->f k=0)->sN m f=sN q f
 | 0,h,_=>by rw[show q=0 by omega]
 | m+1,h,z=>by
  by_cases e:q=m+1
  ·rw[e]
  ·show sN m f+f m=_;rw[TR (m:=m) (by omega) (λk a b=>z k a (by omega)),z m (by omega) (by omega)];omega
theorem MZ{f:Nat->Int}{q i:Nat}:∀{m:Nat},q<=i->i<m->(∀k,q<=k->k<m->k≠i->f k=0)->sN m f=sN q f+f i
 | 0,_,h,_=>by omega
 | m+1,hq,hi,z=>by
  show sN m f+f m=_;by_cases e:i=m
  ·subst e;rw[TR (q:=q) (by omega) λk a b=>z k a (by omega) (by omega)]
  ·rw[MZ (m:=m) hq (by omega) (λk a b=>z k a (by omega)),z m (by omega) (by omega) (λq=>e q.symm)];omega
noncomputable def Ut(m:Nat)(X:Mt):Nat->Mt×Int
 | 0=>(X,1)
 | p+1=>(λi j=>if i=p then(Ut m X p).1 i j else((Ut m X p).1 p p*(Ut m X p).1 i j-(Ut m X p).1 i p*(Ut m X p).1 p j).fdiv (Ut m X p).2,(Ut m X p).1 p p)
structure Ej(m:Nat)(A X:Mt):Prop where
 sym:∀i j,i<m->j<m->A i j=A j i
 inj:∀p,p<=m->∀z:Nat->Int,(∀j,j<p->sN p (λk=>z k*A k j)=0)->∀k,k<p->z k=0
 ext:∀i j,i<m->j<m->X i j=A i j
structure CG(m p:Nat)(X:Mt)(E:Mt)(d:Int)(i:Nat)(a:Nat->Int):Prop where
 off:∀k,k<m->p<=k->k≠i->a k=0
 on:p<=i->a i=d
 val:∀j,j<=m->E i j=sN m (λk=>a k*X k j)
 uni:∀j,j<p->E i j=if i=j then d else 0
structure HM(m:Nat)(A X:Mt)(p:Nat)(E:Mt)(d:Int):Prop where
 de:d=ZH p A
 nz:d≠0
 row:∀i,i<m->∃a,CG m p X E d i a
theorem Up{m:Nat}{A X:Mt}{p:Nat}{E:Mt}{d:Int}(ok:Ej m A X)(Z:p<m)(I:HM m A X p E d) :
  HM m A X (p+1) (λi j=>if i=p then E i j else(E p p*E i j-E i p*E p j).fdiv d) (E p p)/\∀i j,i<m->j<=m->i≠p->∃q,E p p*E i j-E i p*E p j=d*q:=by
 obtain⟨w,t⟩:=I.row p Z;have P:=I.nz
 -- the pivot's row
 have x:∀j,j<m->E p j=sN (p+1) (λk=>w k*A k j):=λj g=>by
  rw[t.val j (by omega),TR (q:=p+1) (by omega) λk v u=>by rw[t.off k u (by omega) (by omega),b9]];exact Zj λk f=>by rw[ok.ext k j (by omega) g]
 have W:E p p=ZH (p+1) A:=by
  have v:=HF (n:=p+1) (j:=p) (A:=A) (a:=w) (by omega);have u:=RM (A:=ZU p (λc=>sN (p+1) λk=>w k*A k c) A) λc Y=>by rw[Zm];rw[<-x c (by omega),t.uni c Y,k9 (by omega)]
  have S:ZH p (ZU p (λc=>sN (p+1) λk=>w k*A k c) A)=ZH p A:=Zv λr c hr Y=>by rw[ZE _ _ (by omega)]
  rw[Zm,S,v,t.on (aG p),<-I.de] at u;have h4:d*ZH (p+1) A=E p p*d:=by rw[u];rw[<-x p Z]
  have h5:d*(ZH (p+1) A)=d*E p p:=by rw[h4,bA]
  exact(Int.eq_of_mul_eq_mul_left P h5).symm
 have pz:E p p≠0:=λz=>by
  have:=ok.inj (p+1) (by omega) w (λj g=>by
   rw[<-x j (by omega)];by_cases q:j=p
   ·rw[q];exact z
   ·rw[t.uni j (by omega),k9 (by omega)]) p (by omega)
  rw[t.on (aG p)] at this;exact P this
 -- the s rows
 have s:∀i,i<m->i≠p->∃b:Nat->Int,(∀k,k<m->p+1<=k->k≠i->b k=0)/\(p+1<=i->b i=E p p)/\(∀l,l<p+1->sN m (λk=>b k*A k l)=if i=l then E p p else 0)/\∀j,j<=m->E p p*E i j-E i p*E p j=d*sN m (λk=>b k*X k j):=by
  intro i D o
  obtain⟨b,G,L,H⟩:∃b:Nat->Int,(∀k,k<m->p+1<=k->k≠i->b k=0)/\(p+1<=i->b i=E p p)/\(∀l,l<p+1->sN m (λk=>b k*A k l)=if i=l then E p p else 0):=by
   have cm:∀j l,j<p+1->l<p+1->sN (p+1) (λk=>Kl (p+1) A k j*A k l)=if l=j then E p p else 0:=λj l g B=>by
    rw[W,<-MW B g];exact Zj λk f=>by rw[ok.sym l k (by omega) (by omega),bA]
   by_cases q:i<p
   ·obtain⟨b,y⟩:∃b:Nat->Int,∀k,b k=if k<p+1 then Kl (p+1) A k i else 0:=⟨_,λ_=>rfl⟩
    refine⟨b,λk f v _=>by rw[y,k9 (by omega)],λh=>by omega,λl B=>?_⟩;rw[TR (q:=p+1) (by omega) λk v u=>by rw[y,k9 (by omega),b9]];rw[Zj λk f=>by rw[y,k8 f],cm i l (by omega) B];by_cases e:i=l
    ·rw[k8 e,k8 e.symm]
    ·rw[k9 e,k9 (λz=>e z.symm)]
   ·obtain⟨b,y⟩:∃b:Nat->Int,∀k,b k=if k<p+1 then-sN (p+1) (λj=>A i j*Kl (p+1) A k j) else if k=i then E p p else 0:=⟨_,λ_=>rfl⟩
    have F:b i=E p p:=by rw[y,k9 (by omega),k8 rfl]
    refine⟨b,λk f v u=>by rw[y,k9 (by omega),k9 u],λh=>F,λl B=>?_⟩;rw[MZ (q:=p+1) (by omega) D λk v u S=>by rw[y,k9 (by omega),k9 S,b9]];rw[F]
    have O:sN (p+1) (λk=>b k*A k l)=sN (p+1) (λk=>(-1)*sN (p+1) (λj=>A i j*(Kl (p+1) A k j*A k l))):=Zj λk f=>by
     rw[y,k8 f,bS,bA _ (A k l),<-ZJ,bS,cK];congr 1;exact Zj λj _=>by rw[bA (A k l),bG]
    rw[O,ZJ,PY];have e2:(sN (p+1) λj=>sN (p+1) λk=>A i j*(Kl (p+1) A k j*A k l))=A i l*E p p:=by rw[Zj λj g=>by rw[ZJ,cm j l g B]];rw[Z3 B λj _ Q=>by rw[k9 (λz=>Q z.symm),bQ],k8 rfl]
    rw[e2,bA (E p p)];omega
  refine⟨b,G,L,H,?_⟩;obtain⟨C,M⟩:=I.row i D
  have hw:∀k,k<m->E p p*C k-E i p*w k-d*b k=0:=by
   have J:∀k,k<m->p+1<=k->E p p*C k-E i p*w k-d*b k=0:=λk f v=>by
    have U:=t.off k f (by omega) (by omega);by_cases q:k=i
    ·subst q;rw[M.on (by omega),U,L v,bA d];omega
    ·rw[M.off k f (by omega) q,U,G k f v q];omega
   intro k f;by_cases q:k<p+1
   ·refine ok.inj (p+1) (by omega) (λk=>E p p*C k-E i p*w k-d*b k) (λl B=>?_) k q;rw[<-TR (m:=m) (by omega) λk v u=>by rw[J k u v,b9]]
    have O:sN m (λk=>(E p p*C k-E i p*w k-d*b k)*A k l)=E p p*sN m (λk=>C k*A k l)+((- E i p)*sN m (λk=>w k*A k l)+(- d)*sN m (λk=>b k*A k l)):=by
     rw[<-ZJ,<-ZJ,<-ZJ,<-Yk,<-Yk];exact Zj λk _=>by rw[Int.sub_mul,Int.sub_mul];simp only[bG,bS];omega
    have T:∀a:Nat->Int,sN m (λk=>a k*X k l)=sN m (λk=>a k*A k l):=λa=>Zj λk f=>by rw[ok.ext k l f (by omega)]
    rw[O,H l B,<-T,<-T,<-M.val l (by omega),<-t.val l (by omega)];by_cases q2:l=p
    ·subst q2;rw[k9 o,bA (E l l),bS];omega
    ·rw[M.uni l (by omega),t.uni l (by omega),k9 (show ¬p=l by omega)];by_cases N:i=l
     ·rw[k8 N,k8 N,bS d,bA d];omega
     ·rw[k9 N,k9 N];omega
   ·exact J k f (by omega)
  intro j g;rw[M.val j g,t.val j g,<-ZJ,<-ZJ,<-ZJ];have:sN m (λk=>E p p*(C k*X k j))=sN m (λk=>d*(b k*X k j))+sN m (λk=>E i p*(w k*X k j)):=by rw[<-Yk];refine Zj λk f=>?_;have:=hw k f;rw[<-bG,<-bG,<-bG,<-iR];congr 1;omega
  omega
 refine⟨⟨W,pz,λi D=>?_⟩,λi j D g o=>?_⟩
 ·by_cases o:i=p
  ·subst o;refine⟨w,λk f v u=>t.off k f (by omega) u,λh=>by omega,λj g=>by rw[k8 rfl];exact t.val j g,λj g=>?_⟩;rw[k8 rfl];by_cases q:i=j
   ·subst q;rw[k8 rfl]
   ·rw[k9 q,t.uni j (by omega),k9 q]
  ·obtain⟨b,G,L,H,R⟩:=s i D o;have hv:∀j,j<=m->(E p p*E i j-E i p*E p j).fdiv d=sN m (λk=>b k*X k j):=λj g=>by rw[R j g,dM _ P]
   refine⟨b,G,L,λj g=>by rw[k9 o];exact hv j g,λj g=>?_⟩;rw[k9 o,hv j (by omega),<-H j g];exact Zj λk f=>by rw[ok.ext k j f (by omega)]
 ·obtain⟨b,G,L,H,R⟩:=s i D o;exact⟨_,R j g⟩
theorem YI{m:Nat}{A X:Mt}(ok:Ej m A X):∀{p:Nat},p<=m->HM m A X p (Ut m X p).1 (Ut m X p).2
 | 0,_=>⟨rfl,(show(1:Int)≠0 by decide),λi a=>⟨λk=>if k=i then 1 else 0,λk _ _ h=>k9 h,λ_=>k8 rfl,λj c=>by rw[Z3 (k:=i) a λk _ b=>by rw[k9 b,b9],k8 rfl,cK];rfl,λj c=>by omega⟩⟩
 | p+1,h=>(Up ok (by omega) (YI ok (p:=p) (by omega))).1
open L2 VL
theorem JT{z:Int}(h:z.natAbs<2^1000):z.natAbs.log2<1000:=by
 by_cases a:z.natAbs=0
 ·rw[a];decide +kernel
 ·exact(Nat.log2_lt a).mpr h
theorem M0{a b:Int}(h:a.natAbs<2^1000)(c:b.natAbs<2^1000):CMulW a b:=⟨by have:=JT h;omega,by have:=JT c;omega⟩
theorem HN{a b:Int}(c:b≠0)(h:b.natAbs<2^1000):T4 a b:=⟨c,by have:=JT h;omega⟩
noncomputable def Mb:Nat->Nat
 | 0=>2^7
 | p+1=>2*Mb p*Mb p
noncomputable def Nb:Nat->Nat
 | 0=>2^208
 | p+1=>2*Mb p*Nb p
theorem CH{p:Nat}(h:p<=6):Mb p<2^1000:=by
 have:p=0\/p=1\/p=2\/p=3\/p=4\/p=5\/p=6:=by omega
 rcases this with rfl | rfl | rfl | rfl | rfl | rfl | rfl<;>decide +kernel
theorem CI{p:Nat}(h:p<=6):Nb p<2^1000:=by
 have:p=0\/p=1\/p=2\/p=3\/p=4\/p=5\/p=6:=by omega
 rcases this with rfl | rfl | rfl | rfl | rfl | rfl | rfl<;>decide +kernel
theorem M1{a b c d:Int}{M N:Nat}(g:a.natAbs<=M)(e:b.natAbs<=N)(f:c.natAbs<=M)(h:d.natAbs<=N):(a*b-c*d).natAbs<=2*M*N:=by
 have k:(a*b).natAbs<=M*N:=by rw[bV];exact bc g e
 have i:(c*d).natAbs<=M*N:=by rw[bV];exact bc f h
 have l:(a*b-c*d).natAbs<=(a*b).natAbs+(c*d).natAbs:=by omega
 have j:2*M*N=M*N+M*N:=by rw[dN];omega
 omega
theorem O2{x d q:Int}(a:d≠0)(e:x=d*q):(x.fdiv d).natAbs<=x.natAbs:=by
 rw[e,dM _ a,bV];have:1<=d.natAbs:=by omega
 calc q.natAbs=1*q.natAbs:=by omega
  _<=d.natAbs*q.natAbs:=cL _ this
theorem HP(p:Nat):Mb p<=Mb (p+1):=by
 have h:∀p,1<=Mb p:=λp=>by
  induction p with
  | zero=>decide
  | succ p ih=>show 1<=2*Mb p*Mb p;exact bc (show 1<=2*Mb p by omega) ih
 show Mb p<=2*Mb p*Mb p
 calc Mb p=1*Mb p:=by omega
  _<=2*Mb p*Mb p:=cL _ (by have:=h p;omega)
theorem HQ(p:Nat):Nb p<=Nb (p+1):=by
 have h:∀p,1<=Mb p:=λp=>by
  induction p with
  | zero=>decide
  | succ p ih=>show 1<=2*Mb p*Mb p;exact bc (show 1<=2*Mb p by omega) ih
 show Nb p<=2*Mb p*Nb p
 calc Nb p=1*Nb p:=by omega
  _<=2*Mb p*Nb p:=cL _ (by have:=h p;omega)
theorem QP{m:Nat}{A X:Mt}(ok:Ej m A X)(g:∀i j,i<m->j<m->(X i j).natAbs<=2^7)(k:∀i,i<m->(X i m).natAbs<=2^208):∀{p:Nat},p<=m->(∀i j,i<m->j<m->((Ut m X p).1 i j).natAbs<=Mb p)/\∀i,i<m->((Ut m X p).1 i m).natAbs<=Nb p
 | 0,_=>⟨g,k⟩
 | p+1,hp=>by
  obtain⟨b,d⟩:=QP ok g k (p:=p) (by omega);have I:=YI ok (p:=p) (by omega);have h:=(Up ok (by omega) I).2;refine⟨λi j a f=>?_,λi a=>?_⟩
  ·show(if i=p then(Ut m X p).1 i j else _).natAbs<=_;split
   ·exact aS (b i j a f) (HP p)
   ·rename_i c;obtain⟨q,e⟩:=h i j a (by omega) c;exact aS (O2 I.nz e) (M1 (b p p (by omega) (by omega)) (b i j a f) (b i p a (by omega)) (b p j (by omega) f))
  ·show(if i=p then(Ut m X p).1 i m else _).natAbs<=_;split
   ·exact aS (d i a) (HQ p)
   ·rename_i c;obtain⟨q,e⟩:=h i m a (by omega) c;exact aS (O2 I.nz e) (M1 (b p p (by omega) (by omega)) (d i a) (b i p a (by omega)) (d p (by omega)))
noncomputable def ZM(w:Nat)(f:Nat->Int):List Int:=(aI w).map f
theorem ZI(w:Nat)(f:Nat->Int):(ZM w f).length=w:=by simp[ZM]
theorem Wd{w:Nat}{f:Nat->Int}{j:Nat}(h:j<w):Xp (ZM w f) j=f j:=R5 h
theorem CJ{l:List Int}:(fN ((fN (aA (PV.lst (iL l))) λx=>(Sg [] s).map (x::·)).bind ZW) λl=>if ZQ l=aC then aA l else none)=aA (pP l):=by show(if ZQ (pP l)=aC then aA (pP l) else none)=_;rw[k8 (by simp)]
theorem W3{n:Nat}{ix:List Nat}{fi:XL}{T:Tgt}{c:XE}{s:ZD}{w:Nat}{q:Nat->PV}(g:Nat->Int)(d:fi s=aA ((aI w).map q))(f:w<=100)(h:∀j,j<w->∃s1,YU T (q j) (Z1 n ix s)=aA s1/\c s1=aA (.int (g j))):Zt n ix fi T ZF c s=aA (.lst (iL (ZM w g))):=by
 rw[Z9 (aI w) q (λj=>.int (g j)) d (by rw[bY];omega) λj e=>by
  obtain⟨s1,a,b⟩:=h j (aX.mp e);exact⟨s1,a,rfl,b⟩]
 simp[ZM]
theorem TU{w:Nat}{f:Nat->Int}{j:Nat}(h:j<w):U8 (iL (ZM w f)) (j:Int)=aA (.int (f j)):=by rw[Ua (by rw[ZI];exact h),Wd h]
theorem Mi{w p:Nat}{f g:Nat->Int}{d:Int}(n:w<=100)(e:p<w)(l:∀j,j<w->(f j).natAbs<2^1000)(k:∀j,j<w->(g j).natAbs<2^1000)(o:d≠0)(h:d.natAbs<2^1000) :
  Tp [pP (ZM w f),pP (ZM w g),.int (p:Int),.int d]=aA (pP (ZM w λj=>(g p*f j-f p*g j).fdiv d)):=by
 refine YM (ret (GQ (c1 (W3 (q:=λj=>.tup [.int (f j),.int (g j)]) (λj=>(g p*f j-f p*g j).fdiv d) ?_ n λj m=>⟨_,rfl,?_⟩) rfl)))
 ·show aA (UA (iL (ZM w f)) (iL (ZM w g)))=_;rw[Ub _ _ (by simp[ZI]),aO,ZI];congr 1;refine bD λi c=>?_;have c:=aX.mp c;rw[VG _ i (by rw[ZI];exact c),VG _ i (by rw[ZI];exact c),Wd c,Wd c]
 ·exact vC (C:=T4) (op:=jL) (vI (vC (C:=CMulW) (op:=(· * ·)) (a:=g p) (b:=f j) (o2 rfl rfl (TU e)) rfl (M0 (k p e) (l j m))) (vC (C:=CMulW) (op:=(· * ·)) (a:=f p) (b:=g j) (o2 rfl rfl (TU e)) rfl (M0 (l p e) (k j m)))) rfl (HN o h)
noncomputable def Yq(m w:Nat)(E:Mt):List (List Int):=(aI m).map λi=>ZM w (E i)
theorem UX(m w:Nat)(E:Mt):(Yq m w E).length=m:=by simp[Yq]
noncomputable def tL(M:List (List Int)):List PV:=M.map pP
theorem Vv(m w:Nat)(E:Mt):tL (Yq m w E)=(aI m).map λi=>pP (ZM w (E i)):=by unfold tL Yq;rw[cH];rfl
theorem We(m w:Nat)(E:Mt):(tL (Yq m w E)).length=m:=by simp[tL,UX]
theorem Uq{m w:Nat}{E:Mt}{i:Nat}(h:i<m):(tL (Yq m w E))[i]?=aA (pP (ZM w (E i))):=by rw[Vv,aQ,ak h];rfl
theorem M3(M:List (List Int)):ZC (tL M)=aC:=Vl M
theorem X0{n:Nat}{ix:List Nat}{fi:XL}{T:Tgt}{c:XE}{s:ZD}{m w:Nat}{q:Nat->PV}(E:Mt)(d:fi s=aA ((aI m).map q))(f:m<=100)(h:∀j,j<m->∃s1,YU T (q j) (Z1 n ix s)=aA s1/\c s1=aA (pP (ZM w (E j)))):Zt n ix fi T ZF c s=aA (.lst (tL (Yq m w E))):=by
 rw[Z9 (aI m) q (λj=>pP (ZM w (E j))) d (by rw[bY];omega) λj e=>by
  obtain⟨s1,a,b⟩:=h j (aX.mp e);exact⟨s1,a,rfl,b⟩,Vv]
theorem L9{m w:Nat}{A X:Mt}(B:m<=6)(z:m<=w)(l:w<=m+1)(ok:Ej m A X)(u:∀i j,i<m->j<m->(X i j).natAbs<=2^7)(o:∀i,i<m->(X i m).natAbs<=2^208){R:PV}(x:R = .lst (tL (Yq m w X))\/R = .tup (tL (Yq m w X))) :
  Ro [R]=aA (.tup [.int (Ut m X m).2,.lst (tL (Yq m w (Ut m X m).1))]):=by
 have k:∀{p:Nat},p<=m->∀i j,i<m->j<m+1->((Ut m X p).1 i j).natAbs<2^1000:=λ{p} b i j a f=>by
  obtain⟨r,y⟩:=QP ok u o b;by_cases q:j<m
  ·exact ay (r i j a q) (CH (by omega))
  ·rw[show j=m by omega];exact ay (y i a) (CI (by omega))
 have t:∀{p:Nat},p<=m->(Ut m X p).2.natAbs<2^1000:=λ{p} b=>by
  cases p with
  | zero=>show(1:Int).natAbs<_;decide +kernel
  | succ p=>exact k (p:=p) (by omega) p p (by omega) (by omega)
 let st:Nat->Option PV->Option PV->ZD:=λp c d=>[aA R,aA (.lst (tL (Yq m w (Ut m X p).1))),aA (.int (Ut m X p).2),c,d]
 have g:Vj [R]=aA (.lst (tL (Yq m w X)))/\Z5 [R]=aA (.int (m:Int)):=by
  rcases x with rfl | rfl
  ·exact⟨by rw[Rc,k8 (M3 _)],by show aA (PV.int ((tL (Yq m w X)).length:Int))=_;rw[We]⟩
  ·exact⟨by rw[OG,k8 (M3 _)],by show aA (PV.int ((tL (Yq m w X)).length:Int))=_;rw[We]⟩
 suffices h:YF OL (ZL 5 [R]) λv=>v = .tup [.int (Ut m X m).2,.lst (tL (Yq m w (Ut m X m).1))] by obtain⟨v,e,rfl⟩:=T5 h;exact e
 refine Z7 (Zy (c1 rfl g.1)) (Z7 (Zy (vP rfl)) (UW (JP (n:=m) (λp s=>∃c d,s=st p c d) (c1 rfl g.2) ⟨none,none,rfl⟩ ?_) ?_))
 ·rintro p s b ⟨c,d,rfl⟩;have I:=YI ok (p:=p) (by omega);have bE:=λi j a f=>k (p:=p) (by omega) i j a f;refine V3 (Zy (GQ (o2 rfl rfl (Xn (Uq b))))) (V3 (Zy (X0 (w:=w) (Ut m X (p+1)).1 (q:=λi=>.tup [.int (i:Int),pP (ZM w ((Ut m X p).1 i))]) ?_ (by omega) λi a=>⟨_,rfl,GQ ?_⟩)) (L8 (Zy (vP (o2 rfl rfl (TU (by omega))))) ⟨_,_,rfl⟩))
  ·show aA (W7 (tL (Yq m w (Ut m X p).1)))=_;rw[Vm,We];congr 1;refine bD λi a=>?_;rw[aM,Uq (aX.mp a)];rfl
  ·by_cases q:i=p
   ·exact JR (xb ((JQ rfl rfl).trans (by rw[decide_eq_true (by omega)]))) (by rw[show(Ut m X (p+1)).1 i=(Ut m X p).1 i from funext λj=>k8 q];rfl)
   ·refine JS (xb ((JQ rfl rfl).trans (by rw[decide_eq_false (by omega)]))) ?_;rw[show(Ut m X (p+1)).1 i=_ from funext λj=>k9 q];exact c4 rfl rfl rfl rfl (Mi (by omega) (by omega) (λj f=>bE i j a (by omega)) (λj f=>bE p j b (by omega)) I.nz (t (by omega)))
 ·rintro s ⟨c,d,rfl⟩;exact⟨_,rfl,rfl⟩
noncomputable def YJ(b i:Nat):Nat:=if i<b then i else i+1
noncomputable def Ek(b h:Nat):Nat:=if h<b then h else h-1
theorem El(b i:Nat):YJ b i≠b:=by unfold YJ;split<;>omega
theorem YS{b i m:Nat}(h:i<m):YJ b i<m+1:=by unfold YJ;split<;>omega
theorem P0(b i:Nat):Ek b (YJ b i)=i:=by unfold Ek YJ;split<;>(try split)<;>omega
theorem HR{b h:Nat}(q:h≠b):YJ b (Ek b h)=h:=by unfold Ek YJ;split<;>(try split)<;>omega
theorem HU{b i j:Nat}(h:YJ b i=YJ b j):i=j:=by rw[<-P0 b i,h,P0]
theorem O3{n b:Nat}(c:n<=7)(a:b<n):(aI n).filter (λh=>!decide (h=b))=(aI (n-1)).map (YJ b):=by
 have:∀n,n<8->∀b,b<8->b<n->(aI n).filter (λh=>!decide (h=b))=(aI (n-1)).map (YJ b):=by decide
 exact this n (by omega) b (by omega) a
theorem Mj{f:Nat->Int}{b:Nat}(a:f b=0):∀{m:Nat},b<m+1->sN (m+1) f=sN m (λi=>f (YJ b i))
 | 0,h=>by
  have:b=0:=by omega
  subst this;show 0+f 0=0;rw[a];rfl
 | m+1,h=>by
  by_cases q:b=m+1
  ·subst q;show sN (m+1) f+f (m+1)=_;rw[a,fE];exact Zj λi c=>by unfold YJ;rw[k8 c]
  ·show sN (m+1) f+f (m+1)=sN m (λi=>f (YJ b i))+f (YJ b m);rw[Mj a (m:=m) (by omega),show YJ b m=m+1 by unfold YJ;rw[k9 (by omega)]]
theorem T6{f:Nat->Int}:∀{n:Nat},(∀i,i<n->0<=f i)->sN n f<=0->∀i,i<n->f i=0
 | 0,_,_,i,h=>by omega
 | n+1,h,s,i,a=>by
  have s:sN n f+f n<=0:=s
  have c:0<=sN n f:=by
   have:∀k,k<=n->0<=sN k f:=by
    intro k
    induction k with
    | zero=>intro _;exact dq 0
    | succ k ih=>intro d;have:=ih (by omega);have:=h k (by omega);show 0<=sN k f+f k;omega
   exact this n (aG n)
  have b:=h n (by omega);by_cases q:i=n
  ·subst q;omega
  ·exact T6 (n:=n) (λi a=>h i (by omega)) (by omega) i (by omega)
theorem Y4{f:Nat->Int}:∀{n:Nat},(∀i,i<n->0<=f i)->0<=sN n f
 | 0,_=>dq 0
 | n+1,h=>by have:=Y4 (n:=n) λi a=>h i (by omega);have:=h n (by omega);show 0<=sN n f+f n;omega
theorem O4(Y:Nat->Int):∀{n:Nat},0<n->∃h,h<n/\∀g,g<n->Y h<=Y g
 | 0,h=>by omega
 | 1,_=>⟨0,by omega,λg a=>by rw[show g=0 by omega];exact dq _⟩
 | n+2,_=>by
  obtain⟨h,c,b⟩:=O4 Y (n:=n+1) (by omega);by_cases q:Y h<=Y (n+1)
  ·exact⟨h,by omega,λg a=>by
    by_cases e:g=n+1
    ·rw[e];exact q
    ·exact b g (by omega)⟩
  ·exact⟨n+1,by omega,λg a=>by
    by_cases e:g=n+1
    ·rw[e];exact dq _
    ·have:=b g (by omega);omega⟩
noncomputable def gN(W:List (List Int))(Y:Nat->Int)(h:Nat):Int:=sN W.length (λg=>ent W h g*(Y g-Y h))
theorem Dz{W:List (List Int)}(ok:Yn W)(o:TN W){Y:Nat->Int}{b:Nat}(u:b<W.length)(j:∀h,h<W.length->h≠b->Y h<Y b->gN W Y h<=0):∀h,h<W.length->Y b<=Y h:=by
 intro h q;refine iz.mp λp=>?_;obtain⟨i,l0,l⟩:=O4 Y (n:=W.length) (by omega);have r:Y i<Y b:=by have:=l h q;omega
 have step:∀a c,a<W.length->c<W.length->0<ent W a c->Y a=Y i->Y c=Y i:=λa c d e k ea=>by
  have s:=j a d (λz=>by rw[z] at ea;omega) (by omega);have t:=T6 (f:=λg=>ent W a g*(Y g-Y a)) (λg m=>dS (ok.lo a g d m) (by have:=l g m;omega)) s c e
  have:Y c-Y a=0:=by
   rcases Int.mul_eq_zero.mp t with z | z
   ·omega
   ·exact z
  omega
 have:=(o (λx=>Y x=Y i) (λa c d e k=>⟨step a c d e k,step c a e d (by rw[ok.sym c a e d];exact k)⟩) i b l0 u).mp rfl;omega
theorem Em{W:List (List Int)}(c:Int)(Y:Nat->Int)(h:Nat):gN W (λx=>c*Y x) h=c*gN W Y h:=by
 unfold gN;rw[<-ZJ];exact Zj λg _=>by show ent W h g*(c*Y g-c*Y h)=_;rw[<-Int.mul_sub,cv]
noncomputable def Zz(W:List (List Int))(b:Nat):Mt:=λi j=>if YJ b j=YJ b i then(Zu W (YJ b i)).sum else-ent W (YJ b i) (YJ b j)
noncomputable def Mk(W:List (List Int))(b:Nat)(c:Nat->Int):Mt:=λi j=>if j<W.length-1 then Zz W b i j else c (YJ b i)
theorem Ml{W:List (List Int)}(ok:Yn W){b:Nat}(v:b<W.length){Y:Nat->Int}(r:Y b=0){k:Nat}(j:k<W.length-1):gN W Y (YJ b k) = - sN (W.length-1) (λi=>Zz W b k i*Y (YJ b i)):=by
 have t:=ok.pos;obtain⟨m,c⟩:∃m,W.length=m+1:=⟨W.length-1,by omega⟩;have d:W.length-1=m:=by omega
 rw[d] at j ⊢;generalize e:YJ b k=h;have a:h<W.length:=by rw[c,<-e];exact YS j
 have l:sN m (λi=>Zz W b k i*Y (YJ b i))=sN (m+1) (λg=>(if g=h then(Zu W h).sum else-ent W h g)*Y g):=by
  rw[Mj (b:=b) (f:=λg=>(if g=h then(Zu W h).sum else-ent W h g)*Y g) (by rw[r,bQ]) (by omega)];exact Zj λi _=>by unfold Zz;rw[e]
 have o:sN (m+1) (λg=>(if g=h then(Zu W h).sum else-ent W h g)*Y g)=(-1)*sN (m+1) (λg=>ent W h g*Y g)+(Zu W h).sum*Y h:=by
  have:sN (m+1) (λg=>if g=h then(Zu W h).sum*Y h else 0)=(Zu W h).sum*Y h:=by rw[Z3 (k:=h) (by omega) λi _ p=>k9 p,k8 rfl]
  rw[<-this,<-ZJ,<-Yk];refine Zj λg u=>?_;by_cases q:g=h
  ·subst q;rw[k8 rfl,k8 rfl,ok.dia g a];omega
  ·rw[k9 q,k9 q,bS,bS,cK];omega
 have n:(Zu W h).sum=sN (m+1) (λg=>ent W h g):=by rw[VR ok a,XX,c]
 have s:gN W Y h=sN (m+1) (λg=>ent W h g*Y g)+(- Y h)*sN (m+1) (λg=>ent W h g):=by
  unfold gN;rw[c,<-ZJ,<-Yk];exact Zj λg _=>by rw[Int.mul_sub,bA (- Y h),fO];omega
 rw[s,l,o,n,bA (sN (m+1) λg=>ent W h g) (Y h),bS];omega
theorem P4{W:List (List Int)}(ok:Yn W)(B:TN W){b:Nat}(y:b<W.length)(c:Nat->Int):Ej (W.length-1) (Zz W b) (Mk W b c):=by
 have G:=ok.pos;obtain⟨m,r⟩:∃m,W.length=m+1:=⟨W.length-1,by omega⟩;have d:W.length-1=m:=by omega
 have g:∀i j,i<m->j<m->Zz W b i j=Zz W b j i:=λi j t f=>by
  unfold Zz;by_cases q:YJ b j=YJ b i
  ·rw[k8 q,k8 q.symm,q]
  ·rw[k9 q,k9 (λz=>q z.symm),ok.sym _ _ (by rw[r];exact YS t) (by rw[r];exact YS f)]
 rw[d];refine⟨g,λp u z E k A=>?_,λi j t f=>by unfold Mk;rw[d,k8 f]⟩;obtain⟨Z,v⟩:∃Z:Nat->Int,∀h,Z h=if h=b then 0 else if Ek b h<p then z (Ek b h) else 0:=⟨_,λ_=>rfl⟩
 have l:Z b=0:=by rw[v,k8 rfl]
 have w:∀i,Z (YJ b i)=if i<p then z i else 0:=λi=>by rw[v,k9 (El b i),P0]
 have o:∀j,j<p->gN W Z (YJ b j)=0:=λj f=>by
  rw[Ml ok y l (by omega),d]
  have e:sN m (λi=>Zz W b j i*Z (YJ b i))=sN p (λk=>z k*Zz W b k j):=by
   rw[TR (q:=p) u λk D C=>by rw[w,k9 (by omega),bQ]];exact Zj λk A=>by rw[w,k8 A,g j k (by omega) (by omega),bA]
  rw[e,E j f];rfl
 have off:∀h,h<W.length->Z h≠0->gN W Z h=0:=λh s ne=>by
  have n:h≠b:=λz=>ne (by rw[z];exact l);have t:Ek b h<p:=by refine Nat.not_le.mp λq=>ne ?_;rw[v,k9 n,k9 (by omega)]
  have:=o _ t;rw[HR n] at this;exact this
 have up:=Dz ok B (Y:=Z) y (λh s _ a=>by rw[off h s (by rw[l] at a;omega)];exact dq _)
 have F:=Dz ok B (Y:=λx=>(-1)*Z x) y (λh s _ a=>by
  simp only[l] at a;rw[Em,off h s (by omega)];decide)
 have D:=up (YJ b k) (by rw[r];exact YS (by omega));have C:=F (YJ b k) (by rw[r];exact YS (by omega));simp only[l,w,k8 A] at D C;omega
theorem Ka{W:List (List Int)}{h m:Nat}{f:Nat->Nat}(ok:Yn W)(a:h<W.length)(d:m<=6)(b:∀i,i<m->f i<W.length) :
  Rq [wP W,.int (h:Int),.lst (iL (nL ((aI m).map f)))]=aA (pP (ZM m λj=>if f j=h then(Zu W h).sum else-ent W h (f j))):=by
 refine YM (ret (GQ (c1 (W3 (q:=λj=>.int ((f j:Nat):Int)) _ (by show aA (iL (nL ((aI m).map f)))=_;simp[nL]) (by omega) λj c=>⟨_,rfl,?_⟩) rfl)));by_cases q:f j=h
 ·rw[k8 q];exact JR (xb ((JQ rfl rfl).trans (by rw[decide_eq_true (by omega)]))) (c2 rfl rfl (Md a))
 ·rw[k9 q];exact JS (xb ((JQ rfl rfl).trans (by rw[decide_eq_false (by omega)]))) (C7 (o2 (o2 rfl rfl (Ss a)) rfl (Ua (by rw[ok.sq h a];exact b j c))) rfl)
theorem UY{W:List (List Int)}{b:Nat}(ok:Yn W)(l:b<W.length) :
  Y1 [wP W,.int (b:Int)]=aA (wP (Yq (W.length-1) (W.length-1) (Zz W b))):=by
 have o:=ok.pos;have k:=ok.few;obtain⟨m,e⟩:∃m,W.length=m+1:=⟨W.length-1,by omega⟩;have a:W.length-1=m:=by omega
 rw[a];have d:∀i,i<m->YJ b i<W.length:=λi c=>by rw[e];exact YS c
 have g:Zt 1 [1] (ZZ [Zc Z5 [Za 0]]) (.one 0) (xB (Zi (VB aC) (Za 0) (Za 1))) (eP (Za 0)) [aA (wP W),aA (.int (b:Int)),none]=aA (.lst (iL (nL ((aI m).map (YJ b))))):=by
  rw[UK (aI W.length) (λ(i:Nat)=>.int (i:Int)) (λ(i:Nat)=>.int (i:Int)) (λh=>!decide (h=b)) (Yj (n:=W.length) (by simp) (by omega)) (by simp;omega) λy p=>⟨[aA (.int (y:Int)),aA (.int (b:Int))],rfl,?_,λ_=>by simp⟩]
  ·rw[O3 k l,a];simp[nL]
  ·by_cases q:y=b
   ·simp[q]
   ·have j:¬(y:Int)=(b:Int):=by omega
    simp[q,j]
 exact YM (sq (Zy g) (ret (ep (c1 (X0 (w:=m) (Zz W b) (q:=λi=>.int ((YJ b i:Nat):Int)) (by show aA (iL (nL ((aI m).map (YJ b))))=_;simp[nL]) (by omega) λi c=>⟨_,rfl,c3 rfl rfl rfl (Ka (f:=YJ b) ok (d i c) (by omega) d)⟩) rfl) (Vl _))))
theorem M4{f:Nat->Int}:∀{n:Nat},(∀i,i<n->0<=f i/\f i<=9)->0<=sN n f/\sN n f<=9*n
 | 0,_=>⟨dq _,by show(0:Int)<=_;omega⟩
 | n+1,h=>by
  obtain⟨a,b⟩:=M4 (n:=n) λi c=>h i (by omega);have:=h n (by omega);refine⟨?_,?_⟩
  ·show 0<=sN n f+f n;omega
  ·show sN n f+f n<=_;omega
theorem Kb{W:List (List Int)}(ok:Yn W){b:Nat}{c:Nat->Int}{i j:Nat}(h:i<W.length-1)(e:j<W.length-1):(Mk W b c i j).natAbs<=2^7:=by
 have k:=ok.pos;have l:=ok.few;have d:YJ b i<W.length:=by have:=YS (b:=b) h;omega
 have g:YJ b j<W.length:=by have:=YS (b:=b) e;omega
 unfold Mk Zz;rw[k8 e];split
 ·rw[VR ok d,XX];obtain⟨a,b⟩:=M4 (f:=λj=>ent W (YJ b i) j) (n:=W.length) λj e=>⟨ok.lo _ j d e,ok.hi _ j d e⟩;omega
 ·have:=ok.lo _ _ d g;have:=ok.hi _ _ d g;omega
theorem En{c:XT}{fb:XS}(g:Nat->ZD->Prop)(step:∀k st,g k st->c st=aA aB\/(c st=aA aC/\∃s2 k',fb st=aA (.nx s2)/\k'<k/\g k' s2)){k:Nat}{s:ZD}(o:g k s) :
  ∃f k',X4 c fb s=aA (.nx f)/\g k' f/\c f=aA aB:=by
 have gen:∀(n k:Nat)(st:ZD),k<n->g k st->∃f k',YE c fb n st=aA (.nx f)/\g k' f/\c f=aA aB:=by
  intro n
  induction n with
  | zero=>intro k st h;omega
  | succ n ih=>
   intro k st q l;rcases step k st l with i | ⟨i,s2,k',e,p,j⟩
   ·exact⟨st,k,by unfold YE;rw[i];rfl,l,i⟩
   ·obtain⟨f,m,a,b,d⟩:=ih k' s2 (by omega) j;refine⟨f,m,?_,b,d⟩;unfold YE;rw[i];simp only[e];exact a
 obtain⟨f,k',a,b,d⟩:=gen (k+1) k s (by omega) o;exact⟨f,k',LH a,b,d⟩
theorem O5{l:List Int}{n:Nat}(h:l.length=n)(a:n<=1000):Sw [pP l,.int (n:Int)]=aA (.bl aC):=by subst h;exact JJ a
theorem Mm{f:Nat->Int}{M:Nat}:∀{n:Nat},(∀i,i<n->(f i).natAbs<=M)->(sN n f).natAbs<=n*M
 | 0,_=>by show(0:Int).natAbs<=_;simp
 | n+1,h=>by have b:=Mm (n:=n) λi c=>h i (by omega);have a:=h n (by omega);show(sN n f+f n).natAbs<=_;rw[iS,gV];omega
end PW
namespace PM
open PW
noncomputable def mul(m:Nat)(A B:Mt):Mt:=λi j=>sN m λk=>A i k*B k j
noncomputable def one:Mt:=λi j=>if i=j then 1 else 0
noncomputable def EqM(m:Nat)(A B:Mt):Prop:=∀i j,i<m->j<m->A i j=B i j
theorem M5(c:Int)(f:Nat->Int)(n:Nat):sN n (λi=>f i*c)=sN n f*c:=by rw[bA,<-ZJ];exact Zj λi _=>bA _ _
theorem assoc(m:Nat)(A B C:Mt)(i j:Nat):mul m (mul m A B) C i j=mul m A (mul m B C) i j:=by show sN m (λk=>sN m (λl=>A i l*B l k)*C k j)=sN m (λl=>A i l*sN m (λk=>B l k*C k j));rw[Zj (g:=λk=>sN m (λl=>A i l*B l k*C k j)) λk _=>(M5 _ _ _).symm];rw[PY (λk l=>A i l*B l k*C k j)];refine Zj λl _=>?_;rw[<-ZJ];exact Zj λk _=>bG _ _ _
theorem mul_one{m:Nat}{A:Mt}{i j:Nat}(a:j<m):mul m A one i j=A i j:=by
 show sN m (λk=>A i k*one k j)=_;rw[Z3 a]
 ·unfold one;rw[k8 rfl,dU]
 ·intro k _ h;unfold one;rw[k9 h,bQ]
theorem one_mul{m:Nat}{A:Mt}{i j:Nat}(a:i<m):mul m one A i j=A i j:=by
 show sN m (λk=>one i k*A k j)=_;rw[Z3 a]
 ·unfold one;rw[k8 rfl,cK]
 ·intro k _ h;unfold one;rw[k9 (λz=>h z.symm),b9]
theorem mul_congr{m:Nat}{A A' B B':Mt}{i j:Nat}(h:∀k,k<m->A i k=A' i k)(b:∀k,k<m->B k j=B' k j):mul m A B i j=mul m A' B' i j:=Zj λk a=>by rw[h k a,b k a]
theorem EqM.mulL{m:Nat}{A A' B:Mt}(h:EqM m A A'):EqM m (mul m A B) (mul m A' B):=λi j a c=>mul_congr (λk b=>h i k a b) λ_ _=>rfl
theorem EqM.mulR{m:Nat}{A B B':Mt}(h:EqM m B B'):EqM m (mul m A B) (mul m A B'):=λi j c b=>mul_congr (λ_ _=>rfl) λk a=>h k j a b
theorem EqM.trans{m:Nat}{A B C:Mt}(h:EqM m A B)(c:EqM m B C):EqM m A C:=λi j a b=>(h i j a b).trans (c i j a b)
noncomputable def tr(A:Mt):Mt:=λi j=>A j i
theorem TV(m:Nat)(A B:Mt)(i j:Nat):tr (mul m A B) i j=mul m (tr B) (tr A) i j:=Zj λk _=>bA _ _
theorem SD{m:Nat}{A A' B B':Mt}(h:EqM m (mul m A A') one)(b:EqM m (mul m B B') one):EqM m (mul m (mul m A B) (mul m B' A')) one:=λi j d f=>by
 rw[assoc];have e:mul m A (mul m B (mul m B' A')) i j=mul m A A' i j:=mul_congr (λ_ _=>rfl) λk a=>by rw[<-assoc,mul_congr (A':=one) (B':=A') (λl c=>b k l a c) (λ_ _=>rfl),one_mul a]
 rw[e];exact h i j d f
structure RT(m p:Nat)(E E':Mt):Prop where
 ex:∃U V:Mt,EqM m (mul m U V) one/\EqM m (mul m V U) one/\(∀i j,i<m->E' i j=mul m U E i j)/\(∀i k,p<=i->i<m->k<p->U i k=0/\V i k=0)
 up:∀i j,i<p->E' i j=E i j
 low:∀i j,m<=i->E' i j=E i j
theorem RT.refl{m p:Nat}{E:Mt}:RT m p E E:=⟨⟨one,one,λi j a b=>mul_one b,λi j a b=>mul_one b,λi j a=>(one_mul a).symm,λi k d c e=>by unfold one;rw[k9 (by omega)];exact⟨rfl,rfl⟩⟩,λ_ _ _=>rfl,λ_ _ _=>rfl⟩
theorem M6{m p:Nat}{U a:Mt}(e:p<=m)(h:∀i k,p<=i->i<m->k<p->U i k=0)(b:∀i k,p<=i->i<m->k<p->a i k=0):∀i k,p<=i->i<m->k<p->mul m U a i k=0:=λi k d c g=>W0 λl f=>by
 by_cases q:l<p
 ·rw[h i l d c q,b9]
 ·rw[b l k (by omega) f g,bQ]
theorem RT.trans{m p:Nat}{E e b:Mt}(c:p<=m)(h:RT m p E e)(d:RT m p e b):RT m p E b:=by obtain⟨U,V,t,v,q,o⟩:=h.ex;obtain⟨A,r,s,w,u,l⟩:=d.ex;refine⟨⟨mul m A U,mul m V r,SD s t,SD v w,λi j a=>?_,λi k g f n=>⟨M6 c (λi k x y z=>(l i k x y z).1) (λi k x y z=>(o i k x y z).1) i k g f n,M6 c (λi k x y z=>(o i k x y z).2) (λi k x y z=>(l i k x y z).2) i k g f n⟩⟩,λi j a=>(d.up i j a).trans (h.up i j a),λi j a=>(d.low i j a).trans (h.low i j a)⟩;rw[u i j a,assoc];exact mul_congr (λ_ _=>rfl) λk B=>q k j B
theorem RT.back{m p:Nat}{E c:Mt}(h:RT m p E c):RT m p c E:=by obtain⟨U,V,o,g,n,l⟩:=h.ex;refine⟨⟨V,U,g,o,λi j a=>?_,λi k e d f=>⟨(l i k e d f).2,(l i k e d f).1⟩⟩,λi j a=>(h.up i j a).symm,λi j a=>(h.low i j a).symm⟩;rw[mul_congr (A':=V) (B':=mul m U E) (λ_ _=>rfl) (λk b=>n k j b),<-assoc,mul_congr (A':=one) (B':=E) (λk b=>g i k a b) (λ_ _=>rfl),one_mul a]
theorem Mo{c:Int}{f:Nat->Int}:∀{n:Nat},(∀i,i<n->c∣f i)->c∣sN n f
 | 0,_=>cI c
 | n+1,h=>Int.dvd_add (Mo λi a=>h i (by omega)) (h n (by omega))
theorem RT.dvd{m p:Nat}{E a:Mt}(h:RT m p E a){c:Int}{j:Nat}(d:∀i,p<=i->i<m->c∣E i j):∀i,p<=i->i<m->c∣a i j:=λi f b=>by
 obtain⟨U,V,n,o,e,g⟩:=h.ex;rw[e i j b];refine Mo λk l=>?_;by_cases q:k<p
 ·rw[(g i k f b q).1,b9];exact cI c
 ·exact g7 (d k (by omega) l)
theorem RT.sub{m p a b:Nat}{q:Int}{E:Mt}(G:p<=a)(v:a<m)(H:p<=b)(o:b<m)(ne:a≠b):RT m p E (λi j=>if i=a then E i j-q*E b j else E i j):=by
 have f:∀(c:Int)(i:Nat)(F:Mt)(j:Nat),i<m->mul m (λi k=>one i k+(if i=a/\k=b then c else 0)) F i j=F i j+(if i=a then c*F b j else 0):=λc i F j e=>by
  show sN m (λk=>(one i k+(if i=a/\k=b then c else 0))*F k j)=_;rw[Zj (g:=λk=>one i k*F k j+(if i=a/\k=b then c else 0)*F k j) λk _=>iR _ _ _,Yk];have n:sN m (λk=>one i k*F k j)=F i j:=one_mul (A:=F) e;rw[n];congr 1;by_cases z:i=a
  ·rw[k8 z,Z3 o]
   ·rw[k8 ⟨z,rfl⟩]
   ·intro k _ y;rw[k9 (λw=>y w.2),b9]
  ·rw[k9 z];exact W0 λk _=>by rw[k9 (λw=>z w.1),b9]
 have l:∀(c d:Int)(i j:Nat),c = - d->(one i j+(if i=a/\j=b then d else 0))+(if i=a then c*(one b j+(if b=a/\j=b then d else 0)) else 0)=one i j:=λc d i j h=>by
  have t:=aj ne;by_cases z:i=a
  ·simp only[z,true_and,if_true,t,false_and,if_false,fE];by_cases w:j=b
   ·subst w;simp[one];omega
   ·have r:¬b=j:=λx=>w x.symm;simp[one,w,r]
  ·simp[z]
 refine⟨⟨λi k=>one i k+(if i=a/\k=b then -q else 0),λi k=>one i k+(if i=a/\k=b then q else 0),λi j e u=>?_,λi j e u=>?_,λi j e=>?_,λi k C B D=>?_⟩,λi j e=>?_,λi j e=>?_⟩
 ·exact(f _ i _ j e).trans (l (-q) q i j (by omega))
 ·exact(f _ i _ j e).trans (l q (-q) i j (by omega))
 ·rw[f _ i _ j e];by_cases z:i=a
  ·rw[k8 z,k8 z,bS];omega
  ·rw[k9 z,k9 z];omega
 ·have n:¬i=k:=by omega
  have s:¬k=b:=by omega
  simp[one,n,s]
 ·show(if i=a then _ else _)=_;rw[k9 (by omega)]
 ·show(if i=a then _ else _)=_;rw[k9 (by omega)]
noncomputable def sw(a b i:Nat):Nat:=if i=a then b else if i=b then a else i
theorem DA(a b i:Nat):sw a b (sw a b i)=i:=by unfold sw;split<;>(try split)<;>(try split)<;>omega
theorem sw_lt{a b i m:Nat}(c:a<m)(e:b<m)(d:i<m):sw a b i<m:=by unfold sw;split<;>(try split)<;>omega
theorem RT.swap{m p a b:Nat}{E:Mt}(o:p<=a)(e:a<m)(q:p<=b)(f:b<m):RT m p E (λi j=>E (sw a b i) j):=by
 have d:∀(F:Mt)(i j:Nat),i<m->mul m (λi k=>one (sw a b i) k) F i j=F (sw a b i) j:=λF i j c=>one_mul (A:=F) (sw_lt e f c);have inv:EqM m (mul m (λi k=>one (sw a b i) k) (λi k=>one (sw a b i) k)) one:=λi j c n=>by rw[d _ i j c,DA]
 refine⟨⟨_,_,inv,inv,λi j c=>(d E i j c).symm,λi k h g l=>?_⟩,λi j c=>?_,λi j c=>?_⟩
 ·have:one (sw a b i) k=0:=by
   unfold one sw;rw[k9];split<;>(try split)<;>omega
  exact⟨this,this⟩
 ·show E (sw a b i) j=_;unfold sw;rw[k9 (by omega),k9 (by omega)]
 ·show E (sw a b i) j=_;unfold sw;rw[k9 (by omega),k9 (by omega)]
theorem RT.neg{m p a:Nat}{E:Mt}(o:p<=a)(d:a<m):RT m p E (λi j=>if i=a then-E i j else E i j):=by
 have c:∀(F:Mt)(i j:Nat),i<m->mul m (λi k=>if i=a then-one i k else one i k) F i j=if i=a then-F i j else F i j:=λF i j b=>by
  have e:sN m (λk=>one i k*F k j)=F i j:=one_mul (A:=F) b;by_cases z:i=a
  ·show sN m (λk=>(if i=a then-one i k else one i k)*F k j)=_;rw[k8 z,<-e,Zj (g:=λk=>(-1)*(one i k*F k j)) λk _=>by rw[k8 z,bS];omega,ZJ];omega
  ·show sN m (λk=>(if i=a then-one i k else one i k)*F k j)=_;rw[k9 z,<-e];exact Zj λk _=>by rw[k9 z]
 have inv:EqM m (mul m (λi k=>if i=a then-one i k else one i k) (λi k=>if i=a then-one i k else one i k)) one:=λi j b n=>by
  rw[c _ i j b];split
  ·omega
  ·rfl
 refine⟨⟨_,_,inv,inv,λi j b=>(c E i j b).symm,λi k h f l=>?_⟩,λi j b=>?_,λi j b=>?_⟩
 ·have:one i k=0:=by unfold one;rw[k9 (by omega)]
  simp only[this];split<;>exact⟨rfl,rfl⟩
 ·show(if i=a then _ else _)=_;rw[k9 (by omega)]
 ·show(if i=a then _ else _)=_;rw[k9 (by omega)]
structure Adm(m:Nat)(A0 E:Mt):Prop where
 ex:∃L' R':Mt,EqM m (mul m (λi k=>E i (m+k)) L') one/\EqM m (mul m L' (λi k=>E i (m+k))) one/\EqM m (mul m (λi k=>E (m+i) k) R') one/\EqM m (mul m R' (λi k=>E (m+i) k)) one
 val:EqM m (mul m (λi k=>E i (m+k)) (mul m A0 (λi k=>E (m+i) k))) E
 nil:∀i j,i<m->j<m->E (m+i) (m+j)=0
theorem Adm.rt{m p:Nat}{f E c:Mt}(h:Adm m f E)(r:RT m p E c):Adm m f c:=by obtain⟨U,V,t,v,g,x⟩:=r.ex;obtain⟨n,o,q,w,u,s⟩:=h.ex;have e:EqM m (λi k=>c i (m+k)) (mul m U (λi k=>E i (m+k))):=λi j b a=>g i (m+j) b;have d:EqM m (λi k=>c (m+i) k) (λi k=>E (m+i) k):=λi j b a=>r.low _ _ (by omega);refine⟨⟨mul m n V,o,(e.mulL).trans (SD t q),(e.mulR).trans (SD w v),(d.mulL).trans u,(d.mulR).trans s⟩,λi j b a=>?_,λi j b a=>by rw[r.low _ _ (by omega)];exact h.nil i j b a⟩;rw[g i j b,e.mulL i j b a,assoc];refine mul_congr (λ_ _=>rfl) λk l=>?_;rw[EqM.mulR (A:=λi k=>E i (m+k)) (EqM.mulR (A:=f) d) k j l a];exact h.val k j l a
theorem Adm.tr{m:Nat}{c E:Mt}(h:Adm m c E):Adm m (tr c) (tr E):=by
 obtain⟨f,g,l,r,p,n⟩:=h.ex
 have d:EqM m (PM.tr one) one:=λi j _ _=>by
  unfold PM.tr one;by_cases q:i=j
  ·rw[k8 q,k8 q.symm]
  ·rw[k9 q,k9 (λz=>q z.symm)]
 refine⟨⟨PM.tr g,PM.tr f,λi j b a=>?_,λi j b a=>?_,λi j b a=>?_,λi j b a=>?_⟩,λi j b a=>?_,λi j b a=>h.nil j i a b⟩
 ·exact((TV m g (λi k=>E (m+i) k) i j).symm.trans (n j i a b)).trans (d i j b a)
 ·exact((TV m (λi k=>E (m+i) k) g i j).symm.trans (p j i a b)).trans (d i j b a)
 ·exact((TV m f (λi k=>E i (m+k)) i j).symm.trans (r j i a b)).trans (d i j b a)
 ·exact((TV m (λi k=>E i (m+k)) f i j).symm.trans (l j i a b)).trans (d i j b a)
 ·have e:=h.val j i a b;show mul m (λi k=>E (m+k) i) (mul m (PM.tr c) (λi k=>E k (m+i))) i j=E j i;rw[<-e,<-assoc];have q:=TV m (λi k=>E i (m+k)) (mul m c (λi k=>E (m+i) k)) i j;have o:mul m (PM.tr (mul m c (λi k=>E (m+i) k))) (PM.tr (λi k=>E i (m+k))) i j=mul m (mul m (λi k=>E (m+k) i) (PM.tr c)) (λi k=>E k (m+i)) i j:=mul_congr (λk _=>TV m c (λi k=>E (m+i) k) i k) λ_ _=>rfl;exact(q.trans o).symm
theorem Adm.div{m:Nat}{f b E:Mt}{D:Int}(h:Adm m f E)(t:EqM m (mul m b f) (λi j=>D*one i j)){c:Int}{j:Nat}(p:j<m)(r:∀i,i<m->c∣E i j):c∣D:=by
 obtain⟨d,a,v,u,w,s⟩:=h.ex
 have e:mul m (mul m a (mul m b d)) E j j=D:=by
  have s1:mul m (mul m a (mul m b d)) E j j=mul m a (mul m (mul m b d) E) j j:=assoc ..;rw[s1]
  have s2:∀k,k<m->mul m (mul m b d) E k j=D*E (m+k) j:=λk o=>by
   rw[assoc];rw[mul_congr (A':=b) (B':=mul m f (λi k=>E (m+i) k)) (λ_ _=>rfl) (λl n=>?_)]
   ·rw[<-assoc,mul_congr (A':=λi j=>D*one i j) (B':=λi k=>E (m+i) k) (λl n=>t k l o n) (λ_ _=>rfl)];show sN m (λl=>D*one k l*E (m+l) j)=_;rw[Zj (g:=λl=>D*(one k l*E (m+l) j)) λl _=>bG _ _ _,ZJ];congr 1;exact one_mul (A:=λi k=>E (m+i) k) o
   ·rw[mul_congr (A':=d) (B':=mul m (λi k=>E i (m+k)) (mul m f (λi k=>E (m+i) k))) (λ_ _=>rfl) (λi q=>(h.val i j q p).symm),<-assoc,mul_congr (A':=one) (B':=mul m f (λi k=>E (m+i) k)) (λi q=>u l i n q) (λ_ _=>rfl),one_mul n]
  rw[mul_congr (A':=a) (B':=λk j=>D*E (m+k) j) (λ_ _=>rfl) s2];show sN m (λk=>a j k*(D*E (m+k) j))=D;rw[Zj (g:=λk=>D*(a j k*E (m+k) j)) λk _=>by rw[<-bG,bA (a j k),bG],ZJ];have:sN m (λk=>a j k*E (m+k) j)=1:=by have:=s j j p p;unfold one at this;rw[k8 rfl] at this;exact this
  rw[this,dU]
 rw[<-e];exact Mo λk o=>g7 (r k o)
noncomputable def skp(i c:Nat):Nat:=if c<i then c else c+1
theorem JU(f:Nat->Int):∀n,sN (n+1) f=f 0+sN n λj=>f (j+1)
 | 0=>by show 0+f 0=f 0+0;omega
 | n+1=>by show sN (n+1) f+f (n+1)=f 0+(sN n (λj=>f (j+1))+f (n+1));rw[JU f n];omega
theorem JV(r s:Nat):skp (r+1) (s+1)=skp r s+1:=by unfold skp;split<;>split<;>omega
theorem O6:∀{n:Nat}{A:Mt}{i:Nat},i<n+1->ZH (n+1) (ZU 0 (λc=>if c=i then 1 else 0) A)=sg i*ZH n (λr c=>A (r+1) (skp i c))
 | n,A,0,_=>by
  rw[Yg,Z3 (k:=0) (by omega)]
  ·rw[Zm,k8 rfl];show 1*1*ZH n _=1*ZH n _;rw[cK,cK];rw[cK];exact Zv λr c _ _=>by show ZU 0 _ A (if r<0 then r else r+1) (c+1)=A (r+1) (skp 0 c);rw[k9 (by omega),ZE _ _ (by omega)];rfl
  ·intro r b f;rw[UU (k:=0) (by omega) λc a=>?_,bQ];show ZU 0 _ A (if 0<r then 0 else 0+1) (c+1)=0;rw[k8 (by omega),Zm,k9 (by omega)]
 | 0,A,i+1,h=>by omega
 | n+1,A,i+1,h=>by
  rw[Yg,JU];have z:sg 0*ZU 0 (λc=>if c=i+1 then 1 else 0) A 0 0*ZH (n+1) (Vf 0 (ZU 0 (λc=>if c=i+1 then 1 else 0) A))=0:=by rw[Zm,k9 (by omega),bQ,b9]
  rw[z,Int.zero_add,Yg,<-ZJ];refine Zj λr b=>?_
  have e:ZH (n+1) (Vf (r+1) (ZU 0 (λc=>if c=i+1 then 1 else 0) A))=ZH (n+1) (ZU 0 (λc=>if c=i then 1 else 0) (Vf (r+1) A)):=Zv λs c g a=>by
   by_cases q:s=0
   ·subst q;show ZU 0 _ A (if 0<r+1 then 0 else 0+1) (c+1)=_;rw[k8 (by omega),Zm,Zm];by_cases w:c=i
    ·rw[k8 w,k8 (by omega)]
    ·rw[k9 w,k9 (by omega)]
   ·rw[ZE _ _ q];show ZU 0 _ A (if s<r+1 then s else s+1) (c+1)=A (if s<r+1 then s else s+1) (c+1);rw[ZE];split<;>omega
  rw[e,O6 (n:=n) (i:=i) (by omega),ZE _ _ (by omega)];have d:ZH n (λs c=>Vf (r+1) A (s+1) (skp i c))=ZH n (Vf r (λr c=>A (r+1) (skp (i+1) c))):=Zv λs c _ _=>by show A (skp (r+1) (s+1)) (skp i c+1)=A (skp r s+1) (skp (i+1) (c+1));rw[JV,JV]
  rw[d];show-sg r*A (r+1) 0*(sg i*_) = - sg i*(sg r*A (r+1) 0*_);rw[bS,bS,bS,cv]
theorem det_row{n:Nat}{A:Mt}:ZH (n+1) A=sN (n+1) λi=>sg i*A 0 i*ZH n (λr c=>A (r+1) (skp i c)):=by have h:=MV (n:=n+1) (A:=A) (j:=0) (by omega) (A 0);rw[OY] at h;rw[<-h];refine Zj λi a=>?_;unfold Kl;rw[O6 a,<-bG,bA (A 0 i)]
theorem P5:∀{n:Nat}{A:Mt},ZH n (tr A)=ZH n A
 | 0,_=>rfl
 | n+1,A=>by rw[Yg,det_row];refine Zj λi a=>?_;have e:ZH n (Vf i (tr A))=ZH n (tr λr c=>A (r+1) (skp i c)):=rfl;rw[e,P5];rfl
theorem C8:∀(m:Nat)(ρ:Nat->Nat)(j:Nat),(∀a,a<j->ρ a<m)->m<j->∃a b,a<b/\b<j/\ρ a=ρ b
 | 0,ρ,j,h,hj=>by have:=h 0 hj;omega
 | m+1,ρ,0,h,hj=>by omega
 | m+1,ρ,j+1,h,hj=>by
  by_cases q:∃a,a<j/\ρ a=ρ j
  ·obtain⟨a,d,e⟩:=q;exact⟨a,j,d,by omega,e⟩
  ·have ne:∀a,a<j->ρ a≠ρ j:=λa f z=>q ⟨a,f,z⟩
   obtain⟨a,b,d,e,c⟩:=C8 m (λa=>if ρ a=m then ρ j else ρ a) j (λa f=>by
    have d:=h a (by omega);have e:=h j (by omega);have c:=ne a f;show(if ρ a=m then ρ j else ρ a)<m;split<;>omega) (by omega)
   refine⟨a,b,d,by omega,?_⟩;have g:=ne a (by omega);have i:=ne b (by omega);have c:(if ρ a=m then ρ j else ρ a)=if ρ b=m then ρ j else ρ b:=c
   split at c<;>split at c<;>omega
theorem QQ{m k j:Nat}{E:Mt}{d h:Nat->Nat}(e:∀a,a<j->k<=d a/\d a<m)(n:m-k<j):ZH j (λa b=>E (d a) (h b))=0:=by
 obtain⟨a,b,o,f,g⟩:=C8 (m-k) (λa=>d a-k) j (λa l=>by have:=e a l;show d a-k<m-k;omega) n;have p:=e a (by omega);have q:=e b f;have g:d a-k=d b-k:=g;exact Wl (i:=a) (j:=b) (by omega) f (by omega) λc _=>by rw[show d a=d b by omega]
noncomputable def Mn(m k T:Nat)(E:Mt):Prop:=∀(j:Nat)(ρ σ:Nat->Nat),(∀a,a<j->k<=ρ a/\ρ a<m)->(∀a,a<j->k<=σ a/\σ a<m)->(ZH j (λa b=>E (ρ a) (σ b))).natAbs<=T
theorem Mn.tr{m k T:Nat}{E:Mt}(h:Mn m k T E):Mn m k T (PM.tr E):=λj d c g f=>by have e:ZH j (λa b=>PM.tr E (d a) (c b))=ZH j (PM.tr λa b=>E (c a) (d b)):=rfl;rw[e,P5];exact h j c d f g
theorem Mn.up{m k T a:Nat}{E:Mt}(h:Mn m k T E)(l:T<=a):Mn m k a E:=λj d c e b=>aS (h j d c e b) l
theorem Mn.ab{m k T:Nat}{E:Mt}(h:Mn m k T E){i j:Nat}(c:k<=i)(a:i<m)(d:k<=j)(b:j<m):(E i j).natAbs<=T:=by
 have:=h 1 (λ_=>i) (λ_=>j) (λ_ _=>⟨c,a⟩) (λ_ _=>⟨d,b⟩);have e:ZH 1 (λ_ _=>E i j)=E i j:=by show 0+1*E i j*1=_;omega
 rwa [e] at this
theorem Mn.rows{m k T:Nat}{E:Mt}(h:Mn m k T E)(f:Nat->Nat)(g:∀i,k<=i->i<m->k<=f i/\f i<m):Mn m k T (λi j=>E (f i) j):=λj l e c d=>h j (λa=>f (l a)) e (λa b=>g _ (c a b).1 (c a b).2) d
theorem Mp:∀i,(sg i).natAbs=1
 | 0=>rfl
 | i+1=>by show(- sg i).natAbs=1;rw[fF];exact Mp i
theorem Mn.turn{m k T:Nat}{E g:Mt}{q:Nat->Int}(h7:m<=7)(hk:k<m)(h:Mn m k T E)(nz:E k k≠0)(e:∀i j,k<=i->i<m->g i j=E i j-q i*E k j)(r:∀i,k<=i->i<m->(g i k).natAbs<=(E k k).natAbs):Mn m k (8*T) g:=λj w f t G=>by
 by_cases A:m-k<j
 ·rw[QQ t A];exact bq _
 obtain⟨R,O⟩:∃R:Nat->Nat,∀a,R a=if a=0 then k else w (a-1):=⟨_,λ_=>rfl⟩
 obtain⟨S,P⟩:∃S:Nat->Nat,∀a,S a=if a=0 then k else f (a-1):=⟨_,λ_=>rfl⟩
 have p:R 0=k:=by rw[O,k8 rfl]
 have x:S 0=k:=by rw[P,k8 rfl]
 have C:∀a,R (a+1)=w a:=λa=>by rw[O,k9 (by omega),gL]
 have v:∀a,S (a+1)=f a:=λa=>by rw[P,k9 (by omega),gL]
 have l:∀a,a<j+1->k<=R a/\R a<m:=λa n=>by
  cases a with
  | zero=>rw[p];omega
  | succ a=>rw[C];exact t a (by omega)
 have Z:∀a,a<j+1->k<=S a/\S a<m:=λa n=>by
  cases a with
  | zero=>rw[x];omega
  | succ a=>rw[v];exact G a (by omega)
 obtain⟨X,F⟩:∃X:Mt,X=λa b=>if a=0 then E k (S b) else g (R a) (S b):=⟨_,rfl⟩
 have B:∀b,X 0 b=E k (S b):=λb=>by rw[F];exact k8 rfl
 have u:∀a b,a≠0->X a b=g (R a) (S b):=λa b h=>by rw[F];exact k9 h
 have Y:ZH (j+1) X=ZH (j+1) (λa b=>E (R a) (S b)):=RO (q:=0) (k:=λa=>- q (R a)) (by omega) (λc y=>by rw[B,p]) λa c n y N=>by rw[u a c N,p,e _ _ (l a n).1 (l a n).2,bS];omega
 have o:=h (j+1) R S l Z;rw[<-Y,Yg,JU] at o;have W:X 0 0=E k k:=by rw[B,x]
 have U:ZH j (Vf 0 X)=ZH j (λa b=>g (w a) (f b)):=Zv λa b _ _=>by
  show X (skp 0 a) (b+1)=_;have z:skp 0 a=a+1:=by unfold skp;rw[k9 (by omega)]
  rw[z,u _ _ (by omega),C,v]
 have Yh:(sN j λi=>sg (i+1)*X (i+1) 0*ZH j (Vf (i+1) X)).natAbs<=j*((E k k).natAbs*T):=Mm λi M=>by
  rw[bV,bV,Mp,gV];refine bc ?_ ?_
  ·rw[u _ _ (by omega),C,x];exact r _ (t i M).1 (t i M).2
  ·have H:skp (i+1) 0=0:=by unfold skp;rw[k8 (by omega)]
   have Q:ZH j (Vf (i+1) X)=ZH j (λa b=>E (R (skp (i+1) a)) (f b)):=RO (q:=0) (k:=λa=>- q (R (skp (i+1) a))) (by omega) (λc y=>by
    show X (skp (i+1) 0) (c+1)=E (R (skp (i+1) 0)) (f c)
    rw[H,B,p,v]) λa c n y N=>by
    have z:skp (i+1) a≠0:=by unfold skp;split<;>omega
    have D:skp (i+1) a<j+1:=by unfold skp;split<;>omega
    show X (skp (i+1) a) (c+1)=E (R (skp (i+1) a)) (f c) + - q (R (skp (i+1) a))*E (R (skp (i+1) 0)) (f c);rw[u _ _ z,H,p,v,e _ _ (l _ D).1 (l _ D).2,bS];omega
   rw[Q];refine h j (λa=>R (skp (i+1) a)) f (λa n=>l _ ?_) G;unfold skp;split<;>omega
 rw[U,W] at o;generalize ZH j (λa b=>g (w a) (f b))=d at o ⊢;generalize (sN j λi=>sg (i+1)*X (i+1) 0*ZH j (Vf (i+1) X))=s at o Yh;have L:1<=(E k k).natAbs:=by omega
 have J:(E k k*d).natAbs<=T+j*((E k k).natAbs*T):=by
  have I:(sg 0*E k k*d)=E k k*d:=by show 1*E k k*d=_;rw[cK]
  rw[I] at o;omega
 rw[bV] at J;refine Nat.le_of_mul_le_mul_left (aS J ?_) L;have I:T<=(E k k).natAbs*T:=fG _ L;have h3:j*((E k k).natAbs*T)<=7*((E k k).natAbs*T):=cL _ (by omega);rw[dh (E k k).natAbs 8 T];omega
noncomputable def fct:Nat->Nat
 | 0=>1
 | n+1=>(n+1)*fct n
theorem M7{B:Nat}:∀{j:Nat}{A:Mt},(∀a b,a<j->b<j->(A a b).natAbs<=B)->(ZH j A).natAbs<=fct j*B^j
 | 0,_,_=>aG _
 | j+1,A,h=>by
  rw[Yg]
  have:=Mm (n:=j+1) (f:=λi=>sg i*A i 0*ZH j (Vf i A)) (M:=B*(fct j*B^j)) λi c=>by
   rw[bV,bV,Mp,gV];refine bc (h i 0 c (by omega)) (M7 λa b d e=>h _ _ ?_ (by omega));split<;>omega
  refine aS this ?_;show(j+1)*(B*(fct j*B^j))<=(j+1)*fct j*B^(j+1);rw[dJ,dN,dh B,cU B];exact aG _
theorem O7{B:Nat}(a:1<=B):∀{n j:Nat},j<=n->fct j*B^j<=fct n*B^n
 | 0,j,h=>by rw[show j=0 by omega];exact aG _
 | n+1,j,h=>by
  by_cases q:j=n+1
  ·rw[q];exact aG _
  ·refine aS (O7 a (n:=n) (by omega)) ?_;refine bc (fG _ (by omega)) (iT a (by omega))
theorem Mn.ent{m k n B:Nat}{E:Mt}(l:1<=B)(p:m-k<=n)(h:∀i j,k<=i->i<m->k<=j->j<m->(E i j).natAbs<=B):Mn m k (fct n*B^n) E:=λj q o d f=>by
 by_cases c:m-k<j
 ·rw[QQ d c];exact bq _
 ·exact aS (M7 λa b g e=>h _ _ (d a g).1 (d a g).2 (f b e).1 (f b e).2) (O7 l (by omega))
theorem Mn.same{m k T:Nat}{E n:Mt}{q:Nat->Int}(h:Mn m k T E)(u:q k=0)(e:∀i j,k<=i->i<m->n i j=E i j-q i*E k j)(z:∀i,k<i->i<m->n i k=0)(y:∀j,k<j->j<m->E k j=0):Mn m k T n:=λj d f g r=>by
 by_cases t:∃a,a<j/\d a=k
 ·obtain⟨a,l,s⟩:=t
  rw[RO (q:=a) (A:=λa b=>E (d a) (f b)) (k:=λb=>- q (d b)) l (λc p=>by show n (d a) (f c)=E (d a) (f c);rw[e _ _ (g a l).1 (g a l).2,s,u];simp) λb c o p _=>by
   show n (d b) (f c)=E (d b) (f c) + - q (d b)*E (d a) (f c);rw[e _ _ (g b o).1 (g b o).2,s,bS];omega]
  exact h j d f g r
 ·have lo:∀a,a<j->k<d a:=λa l=>dF (g a l).1 λw=>t ⟨a,l,w.symm⟩;by_cases p:∃b,b<j/\f b=k
  ·obtain⟨b,o,v⟩:=p
   have x:ZH j (λa b=>n (d a) (f b))=0:=by
    rw[<-P5];exact UU (k:=b) o λc p=>by show n (d c) (f b)=0;rw[v];exact z _ (lo c p) (g c p).2
   rw[x];exact bq _
  ·rw[Zv (B:=λa b=>E (d a) (f b)) λa b l o=>by
    have:k<f b:=dF (r b o).1 λw=>p ⟨b,o,w.symm⟩;show n (d a) (f b)=E (d a) (f b);rw[e _ _ (g a l).1 (g a l).2,y _ this (r b o).2];simp]
   exact h j d f g r
theorem Mn.less{m k u T:Nat}{E g:Mt}(I:k<u)(x:u<m)(h:Mn m k T E)(H:∀j,g k j=E k j-1*E u j)(A:∀i j,i≠k->g i j=E i j)(z:∀i,k<i->i<m->E i k=0)(J:∀j,k<j->j<m->E k j=0):Mn m k T g:=λj e d p q=>by
 by_cases G:∃a,a<j/\e a=k
 ·obtain⟨a,t,D⟩:=G;by_cases F:∃b,b<j/\b≠a/\e b=k
  ·obtain⟨b,f,n,C⟩:=F;have s:ZH j (λa b=>g (e a) (d b))=0:=Wl f t n λc _=>by show g (e b) (d c)=g (e a) (d c);rw[D,C]
   rw[s];exact bq _
  ·have only:∀b,b<j->b≠a->e b≠k:=λb f n w=>F ⟨b,f,n,w⟩;obtain⟨R,v⟩:∃R:Nat->Nat,∀b,R b=if b=a then u else e b:=⟨_,λ_=>rfl⟩
   have r:ZH j (λa b=>g (e a) (d b))=1*ZH j (λa b=>E (e a) (d b))+(-1)*ZH j (λa b=>E (R a) (d b)):=PZ (k:=a) t (λb c f l n=>by
    refine⟨?_,?_⟩
    ·show E (e b) (d c)=g (e b) (d c);rw[A _ _ (only b f n)]
    ·show E (R b) (d c)=g (e b) (d c)
     rw[v,k9 n,A _ _ (only b f n)]) λc l=>by
    show g (e a) (d c)=1*E (e a) (d c)+(-1)*E (R a) (d c);rw[D,v,k8 rfl,H];omega
   by_cases l:∃b,b<j/\d b=k
   ·obtain⟨b,f,C⟩:=l
    have s:ZH j (λa b=>E (R a) (d b))=0:=by
     rw[<-P5]
     exact UU (k:=b) f λc l=>by
      show E (R c) (d b)=0;rw[C,v];by_cases w:c=a
      ·rw[k8 w];exact z u I x
      ·rw[k9 w];exact z _ (dF (p c l).1 λy=>only c l w y.symm) (p c l).2
    rw[r,s,cK,bQ,fE];exact h j e d p q
   ·have s:ZH j (λa b=>E (e a) (d b))=0:=UU (k:=a) t λc o=>by show E (e a) (d c)=0;rw[D];exact J _ (dF (q c o).1 λw=>l ⟨c,o,w.symm⟩) (q c o).2
    rw[r,s]
    have:=h j R d (λb f=>by
     rw[v];split
     ·omega
     ·exact p b f) q
    omega
 ·rw[Zv (B:=λa b=>E (e a) (d b)) λa b t f=>A _ _ λw=>G ⟨a,t,w⟩];exact h j e d p q
theorem JW{x p:Int}(d:0<=x)(c:0<p):(x.fdiv p).natAbs=x.natAbs/p.natAbs/\(x-x.fdiv p*p).natAbs=x.natAbs%p.natAbs/\0<=(x-x.fdiv p*p)*p:=by
 obtain⟨a,rfl⟩:=gk d;obtain⟨b,rfl⟩:=gk (fY c);have e:(a:Int).fdiv (b:Int)=((a/b:Nat):Int):=by rw[gC _ (fY c)];exact(Int.natCast_ediv a b).symm
 have r:(a:Int)-((a/b:Nat):Int)*(b:Int)=((a%b:Nat):Int):=by
  have:=j5 a b;have h:(b:Int)*((a/b:Nat):Int)+((a%b:Nat):Int)=(a:Int):=by exact_mod_cast this
  rw[bA] at h;omega
 rw[e,r];exact⟨rfl,rfl,dS (jA _) (jA _)⟩
theorem HW{x p:Int}(h:0<=x*p)(c:p≠0):(x.fdiv p).natAbs=x.natAbs/p.natAbs/\(x-x.fdiv p*p).natAbs=x.natAbs%p.natAbs/\0<=(x-x.fdiv p*p)*p:=by
 rcases gM c with d | a
 ·have f:x<=0:=by refine iz.mp λz=>?_;have:=Int.mul_neg_of_pos_of_neg z d;omega
  have:=JW (x:=-x) (p:=-p) (by omega) (by omega);rw[Int.neg_fdiv_neg,fF,fF] at this;refine⟨this.1,?_,?_⟩
  ·rw[<-this.2.1,<-fF];congr 1;rw[fO];omega
  ·have b:=this.2.2;have e:(-x-x.fdiv p * -p) * -p=(x-x.fdiv p*p)*p:=by rw[fO,<-bS,fO];congr 1;omega
   rw[e] at b;exact b
 ·refine JW (iz.mp λz=>?_) a;have:=gS z a;omega
theorem fd_any{x p:Int}(g:p≠0):(x-x.fdiv p*p).natAbs<p.natAbs/\0<=(x-x.fdiv p*p)*p/\(x.fdiv p).natAbs<=x.natAbs+1:=by
 have e:x-x.fdiv p*p=x.fmod p:=by have:=Int.mul_fdiv_add_fmod x p;rw[bA] at this;omega
 have r:(x.fmod p).natAbs<p.natAbs/\0<=x.fmod p*p:=by
  rcases gM g with j | a
  ·have c:=gy (-x) (b:=-p) (by omega);have f:=jB (-x) (b:=-p) (by omega);rw[Int.neg_fmod_neg] at c f;refine⟨by omega,?_⟩;have:=dS c (show 0<=-p by omega);rw[Int.neg_mul_neg] at this;exact this
  ·have c:=gy x (b:=p) a;have f:=jB x (b:=p) a;exact⟨by omega,dS c (by omega)⟩
 rw[e];refine⟨r.1,r.2,?_⟩;have i:x.fdiv p*p=x-x.fmod p:=by omega
 have k:(x.fdiv p).natAbs*p.natAbs<=x.natAbs+(x.fmod p).natAbs:=by rw[<-bV,i];exact gW _ _
 refine gG.mp λz=>?_;have d:1<=p.natAbs:=by omega
 have h:(x.natAbs+2)*p.natAbs<=(x.fdiv p).natAbs*p.natAbs:=cL _ z;rw[iS] at h;have l:x.natAbs*1<=x.natAbs*p.natAbs:=bJ _ d;omega
noncomputable def Bo(m k j N:Nat)(E:Mt):Prop:=∀i,k<=i->i<m->(E i j).natAbs<=N
structure Fst(m k:Nat)(E:Mt)(f:Nat):Prop where
 lo:k<f
 hi:f<m
 ne:E f k≠0
 ze:∀i,k<i->i<f->E i k=0
noncomputable def red(m k:Nat)(E:Mt):Mt:=λi j=>if k<i/\i<m then E i j-(E i k).fdiv (E k k)*E k j else E i j
theorem red_k{m k j:Nat}{E:Mt}:red m k E k j=E k j:=by unfold red;rw[k9 (by omega)]
theorem UZ{m k i j:Nat}{E:Mt}(h:k<i)(a:i<m):red m k E i j=E i j-(E i k).fdiv (E k k)*E k j:=by unfold red;rw[k8 ⟨h,a⟩]
theorem RT.many{m k:Nat}{E:Mt}(q:Nat->Int)(g:k<m):RT m k E (λi j=>if k<i/\i<m then E i j-q i*E k j else E i j):=by
 have f:∀t,t<=m->RT m k E (λi j=>if k<i/\i<t then E i j-q i*E k j else E i j):=by
  intro t
  induction t with
  | zero=>intro _;rw[show(λi j=>if k<i/\i<0 then E i j-q i*E k j else E i j)=E from funext λi=>funext λj=>k9 (by omega)];exact RT.refl
  | succ t ih=>
   intro h;have c:=ih (by omega);by_cases z:k<t
   ·refine c.trans (by omega) ?_;have d:=RT.sub (m:=m) (p:=k) (a:=t) (b:=k) (q:=q t) (E:=λi j=>if k<i/\i<t then E i j-q i*E k j else E i j) (by omega) (by omega) (aG _) g (by omega)
    have e:(λi j=>if k<i/\i<t+1 then E i j-q i*E k j else E i j)=(λi j=>if i=t then(if k<i/\i<t then E i j-q i*E k j else E i j)-q t*(if k<k/\k<t then E k j-q k*E k j else E k j) else if k<i/\i<t then E i j-q i*E k j else E i j):=by
     funext i j;rw[k9 (show ¬(k<k/\k<t) by omega)];by_cases w:i=t
     ·subst w;rw[k8 ⟨z,by omega⟩,k8 rfl,k9 (by omega)]
     ·rw[k9 w];by_cases y:k<i/\i<t
      ·rw[k8 y,k8 ⟨y.1,by omega⟩]
      ·rw[k9 y,k9 (by omega)]
    rw[e];exact d
   ·have e:(λi j=>if k<i/\i<t+1 then E i j-q i*E k j else E i j)=(λi j=>if k<i/\i<t then E i j-q i*E k j else E i j):=by funext i j;rw[k9 (by omega),k9 (by omega)]
    rw[e];exact c
 exact f m (aG _)
theorem rt_red{m k:Nat}{E:Mt}(a:k<m):RT m k E (red m k E):=RT.many (λi=>(E i k).fdiv (E k k)) a
open Classical in
noncomputable def pre(k f:Nat)(E:Mt):Mt:=if E k k=0\/(E f k).natAbs<(E k k).natAbs then λi j=>E (sw k f i) j else E
theorem rt_pre{m k f:Nat}{E:Mt}(b:k<m)(h:k<f)(a:f<m):RT m k E (pre k f E):=by
 unfold pre;split
 ·exact RT.swap (aG _) b (by omega) a
 ·exact RT.refl
theorem Mq(a b:Nat):sw a b a=b:=by unfold sw;rw[k8 rfl]
theorem Eo{a b:Nat}(h:a≠b):sw a b b=a:=by unfold sw;rw[k9 (λz=>h z.symm),k8 rfl]
theorem sw_c{a b i:Nat}(h:i≠a)(c:i≠b):sw a b i=i:=by unfold sw;rw[k9 h,k9 c]
structure Hyp(m k:Nat)(E:Mt)(j N M P:Nat):Prop where
 bo:Bo m k j N E
 one:1<=P
 piv:E k k≠0->(E k k).natAbs<=P
 nil:E k k=0->∀i,k<i->i<m->(E i k).natAbs<=P
 col:(∀i,k<=i->i<m->(E i k).natAbs<=M)\/(m=k+2/\E k j=0/\E k k≠0/\(E k k).natAbs<=M)
structure Aft(m k:Nat)(E0 E:Mt):Prop where
 nz:E k k≠0
 sg:∀i,k<i->i<m->(E i k).natAbs<(E k k).natAbs/\0<=E i k*E k k
 dv:E0 k k≠0->(∀i,k<i->i<m->E0 k k∣E0 i k)->E=red m k E0
 pv:∀P,(E0 k k≠0->(E0 k k).natAbs<=P)->(E0 k k=0->∀i,k<i->i<m->(E0 i k).natAbs<=P)->(E k k).natAbs<=P
 po:∀j N M P,Hyp m k E0 j N M P->∃N',Bo m k j N' E/\N'<=2*(N*(M+2)*P^3)/\∀f,Fst m k E f->N'*(E k k).natAbs*((E k k).natAbs*(E f k).natAbs)<=N*(M+2)*P^3
 mn:∀T P,m<=7->Mn m k T E0->1<=P->(E0 k k≠0->(E0 k k).natAbs<=P)->(E0 k k=0->∀i,k<i->i<m->(E0 i k).natAbs<=P)->∃T',Mn m k T' E/\T'<=64*(T*P^6)/\∀f,Fst m k E f->T'*((E k k).natAbs*(E f k).natAbs)^3<=8*(T*P^6)
theorem Mr{x y q:Int}{N Q:Nat}(e:x.natAbs<=N)(a:y.natAbs<=N)(c:q.natAbs<=Q):(x-q*y).natAbs<=N*(1+Q):=by have b:=gW x (q*y);rw[bV] at b;have d:q.natAbs*y.natAbs<=Q*N:=bc c a;rw[Nat.mul_add,j3,cU N Q];omega
theorem Mn.red{m k T:Nat}{E:Mt}(c:m<=7)(e:k<m)(h:Mn m k T E)(b:E k k≠0):Mn m k (8*T) (PM.red m k E):=
 h.turn (q:=λi=>if k<i/\i<m then(E i k).fdiv (E k k) else 0) c e b (λi j d a=>by
  show PM.red m k E i j=E i j-(if k<i/\i<m then(E i k).fdiv (E k k) else 0)*E k j;by_cases q:k<i
  ·rw[UZ q a,k8 ⟨q,a⟩]
  ·rw[k9 (λw=>q w.1),show i=k by omega,red_k];omega) λi d a=>by
  by_cases q:k<i
  ·rw[UZ q a];have:=(fd_any (x:=E i k) b).1;omega
  ·rw[show i=k by omega,red_k];exact aG _
theorem Mn.pre{m k f T:Nat}{E:Mt}(e:k<m)(c:k<f)(a:f<m)(h:Mn m k T E):Mn m k T (PM.pre k f E):=by
 unfold PM.pre;split
 ·exact h.rows (sw k f) λi d b=>by unfold sw;split<;>(try split)<;>omega
 ·exact h
theorem DB(p v:Nat):(p*v)^3=p^3*v^3:=Nat.mul_pow p v 3
theorem Aft.first{m k f:Nat}{E:Mt}(n:k<m)(F:Fst m k E f):Aft m k E (red m k (pre k f E)):=by
 have O:=F.lo
 have b:pre k f E k k≠0:=by
  unfold pre;split
  ·show E (sw k f k) k≠0;rw[Mq];exact F.ne
  ·rename_i h;exact λz=>h (.inl z)
 have pv:∀P,(E k k≠0->(E k k).natAbs<=P)->(E k k=0->∀i,k<i->i<m->(E i k).natAbs<=P)->(pre k f E k k).natAbs<=P:=λP piv nil=>by
   unfold pre;split
   ·rename_i h;show(E (sw k f k) k).natAbs<=P;rw[Mq];rcases h with z | z
    ·exact nil z f F.lo F.hi
    ·have:=piv (by omega);omega
   ·rename_i h;exact piv λz=>h (.inl z)
 refine⟨by rw[red_k];exact b,λi c a=>?_,λv D=>?_,λP piv nil=>by rw[red_k];exact pv P piv nil,λj N M P H=>?_,λT P A B p piv nil=>?_⟩
 ·rw[red_k,UZ c a];have:=fd_any (x:=pre k f E i k) b;exact⟨this.1,this.2.1⟩
 ·have:pre k f E=E:=by
   unfold pre;rw[k9];rintro(z | z)
   ·exact v z
   ·have:=bh.mpr (D f F.lo F.hi);have:=dc (by have:=F.ne;omega) this;omega
  rw[this]
 ·have pP:=pv P H.piv H.nil
  have Q:Bo m k j (N*(M+2)) (red m k (pre k f E)):=λi c a=>by
   have l:N<=N*(M+2):=bC N (by omega);by_cases e:i=k
   ·subst e;rw[red_k];refine aS ?_ l;unfold pre;split
    ·show(E (sw i f i) j).natAbs<=N;rw[Mq];exact H.bo f (by omega) F.hi
    ·exact H.bo i c a
   ·rw[UZ (by omega) a]
    have r:(pre k f E i j).natAbs<=N:=by
     unfold pre;split
     ·show(E (sw k f i) j).natAbs<=N;unfold sw;split
      ·exact H.bo f (by omega) F.hi
      ·split
       ·exact H.bo k (by omega) n
       ·exact H.bo i c a
     ·exact H.bo i c a
    have d:(pre k f E k j).natAbs<=N:=by
     unfold pre;split
     ·show(E (sw k f k) j).natAbs<=N;rw[Mq];exact H.bo f (by omega) F.hi
     ·exact H.bo k (by omega) n
    rcases H.col with w | ⟨U,v,W,R⟩
    ·have q:=(fd_any (x:=pre k f E i k) b).2.2
     have t:(pre k f E i k).natAbs<=M:=by
      unfold pre;split
      ·show(E (sw k f i) k).natAbs<=M;exact w _ (by unfold sw;split<;>(try split)<;>omega) (sw_lt n F.hi a)
      ·exact w i c a
     have:=Mr r d (aS q (iU t 1));rw[show M+2=1+(M+1) by omega];exact this
    ·have C:i=f:=by have:=F.hi;omega
     subst C;by_cases s:E k k=0\/(E i k).natAbs<(E k k).natAbs
     ·have q:=(fd_any (x:=pre k i E i k) b).2.2;have t:(pre k i E i k).natAbs<=M:=by unfold pre;rw[k8 s];show(E (sw k i i) k).natAbs<=M;rw[Eo (by omega)];exact R
      have:=Mr r d (aS q (iU t 1));rw[show M+2=1+(M+1) by omega];exact this
     ·have I:pre k i E k j=0:=by unfold pre;rw[k9 s];exact v
      rw[I,bQ,jN];exact aS r l
  have p:=H.one;have c3:1<=P^3:=dt _ _ p;refine⟨_,Q,aS (bC _ c3) (fG _ (by omega)),λg G=>?_⟩;have o:(red m k (pre k f E) k k).natAbs<=P:=by rw[red_k];exact pP
  have u:(red m k (pre k f E) g k).natAbs<=P:=by rw[UZ G.lo G.hi];have:=(fd_any (x:=pre k f E g k) b).1;omega
  rw[dN,show P^3=P*(P*P) by rw[dJ,dJ,Nat.pow_one];rw[dN]];exact bJ _ (bc o (bc o u))
 ·have pP:=pv P piv nil;have L:1<=P^6:=dt _ _ p;have S:T<=T*P^6:=bC _ L;refine⟨8*T,(B.pre n F.lo F.hi).red A n b,by omega,λg G=>?_⟩;have o:(red m k (pre k f E) k k).natAbs<=P:=by rw[red_k];exact pP
  have u:(red m k (pre k f E) g k).natAbs<=P:=by rw[UZ G.lo G.hi];have:=(fd_any (x:=pre k f E g k) b).1;omega
  have y:=fW (bc o u) 3;have J:(P*P)^3=P^6:=by rw[DB,<-eV]
  rw[J] at y;rw[dN];exact bJ _ (bJ _ y)
theorem Aft.next{m k f:Nat}{E0 E:Mt}(L:k<m)(A:Aft m k E0 E)(F:Fst m k E f):Aft m k E0 (red m k (pre k f E))/\(red m k (pre k f E) k k).natAbs<(E k k).natAbs:=by
 have hkf:=F.lo;have D:=A.sg f F.lo F.hi;have ep:pre k f E=λi j=>E (sw k f i) j:=by unfold pre;rw[k8 (.inr D.1)]
 rw[ep];have pk:∀j,(λi j=>E (sw k f i) j:Mt) k j=E f j:=λj=>by show E (sw k f k) j=_;rw[Mq]
 obtain⟨a,J⟩:∃a,a=(E k k).natAbs:=⟨_,rfl⟩;obtain⟨b,t⟩:∃b,b=(E f k).natAbs:=⟨_,rfl⟩;have l:0<b:=by have:=F.ne;omega
 have hab:b<a:=by omega
 -- the entries of the column ahead of the turn
 have C:∀i,k<i->i<m->(E (sw k f i) k).natAbs<=a/\0<=E (sw k f i) k*E f k:=λi n d=>by
  by_cases e:i=f
  ·subst e;rw[Eo (by omega)];exact⟨by omega,by rw[bA];exact D.2⟩
  ·rw[sw_c (by omega) e];have:=A.sg i n d;refine⟨by omega,?_⟩;have h3:=dS this.2 D.2;have e1:E i k*E k k*(E f k*E k k)=E i k*E f k*(E k k*E k k):=by rw[bG,bG];congr 1;rw[<-bG,bA (E k k) (E f k),bG]
   rw[e1] at h3;have nz:=A.nz
   have sq:0<E k k*E k k:=by
    rcases gM nz with h | h
    ·exact Int.mul_pos_of_neg_of_neg h h
    ·exact Int.mul_pos h h
   refine iz.mp λz=>?_;have:=gS z sq;omega
 have ent:∀i,k<i->i<m->∀j,red m k (λi j=>E (sw k f i) j) i j=E (sw k f i) j-(E (sw k f i) k).fdiv (E f k)*E f j:=λi n d j=>by rw[UZ n d,Mq]
 have piv:∀j,red m k (λi j=>E (sw k f i) j) k j=E f j:=λj=>by rw[red_k];exact pk j
 have q:∀i,k<i->i<m->(red m k (λi j=>E (sw k f i) j) i k).natAbs=(E (sw k f i) k).natAbs%b/\0<=red m k (λi j=>E (sw k f i) j) i k*E f k/\((E (sw k f i) k).fdiv (E f k)).natAbs<=a/b:=λi n d=>by rw[ent i n d];have v:=C i n d;have:=HW v.2 F.ne;rw[<-t] at this;exact⟨this.2.1,this.2.2,by rw[this.1];exact Nat.div_le_div_right v.1⟩
 have two:∀g,Fst m k (red m k (λi j=>E (sw k f i) j)) g->2*(red m k (λi j=>E (sw k f i) j) g k).natAbs<=a:=λg p=>by
   have y:=(q f F.lo F.hi).1;rw[Eo (by omega),<-J] at y;have Y:=j5 a b;have d1:1<=a/b:=(Nat.one_le_div_iff l).mpr (by omega);have d2:b*1<=b*(a/b):=bJ _ d1;have ml:=jC a l;by_cases e:g=f
   ·subst e;rw[y];omega
   ·have X:f<g:=by
     refine dF (gG.mp λz=>?_) (λz=>e z.symm);refine p.ne ?_;have w:=(q g p.lo p.hi).1;rw[sw_c (by have:=p.lo;omega) e,F.ze g p.lo z] at w;have:(red m k (λi j=>E (sw k f i) j) g k).natAbs=0:=by rw[w];simp
     omega
    have z0:=p.ze f F.lo X;rw[z0] at y;have r0:a%b=0:=by rw[<-y];rfl
    have r1:=(q g p.lo p.hi).1;have r2:=jC (E (sw k f g) k).natAbs l
    have d3:2<=a/b:=by
     refine gG.mp λz=>?_;have:a/b=1:=by omega
     rw[this] at Y;omega
    have d4:b*2<=b*(a/b):=bJ _ d3;omega
 refine⟨⟨by rw[piv];exact F.ne,λi n d=>?_,λO R=>?_,λP n d=>by rw[piv];have:=A.pv P n d;omega,λj N M P H=>?_,λT P Q hT W n d=>?_⟩,by rw[piv];omega⟩
 ·have r:=q i n d;rw[piv,r.1];exact⟨by rw[<-t];exact jC _ l,r.2.1⟩
 ·exfalso;have e:=A.dv O R;have:=F.ne;rw[e,UZ F.lo F.hi] at this;obtain⟨c,Z⟩:=R f F.lo F.hi;rw[Z,dM _ O,bA c] at this;exact this (by omega)
 ·obtain⟨o,x,S,B⟩:=A.po j N M P H;have s:=B f F;rw[<-J,<-t] at s;generalize N*(M+2)*P^3=G at s S B ⊢
  have nb:Bo m k j (o*(1+a/b)) (red m k (λi j=>E (sw k f i) j)):=λi n d=>by
   by_cases e:i=k
   ·subst e;rw[piv];exact aS (x f (by omega) F.hi) (bC _ (a0 Nat.one_pos (dQ 1 _)))
   ·rw[ent i (by omega) d];refine Mr (x _ ?_ (sw_lt L F.hi d)) (x f (by omega) F.hi) (q i (by omega) d).2.2;unfold sw;split<;>(try split)<;>omega
  have U:o*(1+a/b)*b<=2*(o*a):=by rw[dN,iS,gV,dh];refine bJ _ ?_;have:=Nat.div_mul_le_self a b;omega
  have n2:o*a<=G:=by refine aS ?_ s;exact bC _ (Nat.mul_pos (by omega) l)
  refine⟨_,nb,?_,λg p=>?_⟩
  ·have:o*(1+a/b)<=o*(1+a/b)*b:=bC _ l;omega
  ·rw[piv,<-t];have two:=two g p;generalize (red m k (λi j=>E (sw k f i) j) g k).natAbs=v at two ⊢;have s1:o*(1+a/b)*b*(b*v)<=2*(o*a)*(b*v):=cL _ U;have s2:2*(o*a)*(b*v)=o*a*(b*(2*v)):=by rw[cU 2,dN,dh 2 b v]
   have s3:o*a*(b*(2*v))<=o*a*(b*a):=bJ _ (bJ _ two);rw[cU b a] at s3;omega
 ·obtain⟨u,x,S,B⟩:=A.mn T P Q hT W n d;have s:=B f F;rw[<-J,<-t] at s;have I:1<=(a*b)^3:=dt _ _ (Nat.mul_pos (by omega) l);have t1:u<=u*(a*b)^3:=bC _ I;have m1:=x.rows (sw k f) λi n d=>by have:=F.hi;unfold sw;split<;>(try split)<;>omega
  refine⟨8*u,m1.red Q L (by show E (sw k f k) k≠0;rw[Mq];exact F.ne),by omega,λg p=>?_⟩;have two:=two g p;rw[piv,<-t];generalize (red m k (λi j=>E (sw k f i) j) g k).natAbs=v at two ⊢
  have s1:(2*(b*v))^3<=(a*b)^3:=fW (by
   rw[dh,cU a b];exact bJ _ two) 3
  rw[DB 2] at s1;have s2:8*u*(b*v)^3=u*(2^3*(b*v)^3):=by rw[cU 8,dN]
  rw[s2];exact aS (bJ _ s1) s
structure CL(m k:Nat)(E0 E:Mt):Prop where
 rt:RT m k E0 E
 z:∀i,k<i->i<m->E i k=0
 same:E0 k k≠0->(∀i,k<i->i<m->E0 k k∣E0 i k)->∀i j,i<m->E i j=red m k E0 i j
 bd:∀j N M P,Hyp m k E0 j N M P->Bo m k j (2*(N*(M+2)*P^3)) E
 mn:∀T P,m<=7->Mn m k T E0->1<=P->(E0 k k≠0->(E0 k k).natAbs<=P)->(E0 k k=0->∀i,k<i->i<m->(E0 i k).natAbs<=P)->Mn m k (64*(T*P^6)) E
theorem CL.aft{m k:Nat}{E0 E:Mt}(r:RT m k E0 E)(A:Aft m k E0 E)(z:∀i,k<i->i<m->E i k=0):CL m k E0 E:=
 ⟨r,z,λh l i j _=>by rw[A.dv h l],λj N M P H=>by
  obtain⟨n,c,d,_⟩:=A.po j N M P H
  exact λi b a=>aS (c i b a) d,λT P e g f b a=>by
  obtain⟨o,c,d,_⟩:=A.mn T P e g f b a;exact c.up d⟩
theorem CL.refl{m k:Nat}{E:Mt}(z:∀i,k<i->i<m->E i k=0):CL m k E E:=
 ⟨RT.refl,z,λh _ i j l=>by
  unfold red;split
  ·rename_i q;rw[z i q.1 q.2,Int.zero_fdiv,b9,jN]
  ·rfl,λj N M P H i d c=>by
  refine aS (H.bo i d c) ?_;have c3:1<=P^3:=dt _ _ H.one;have:N<=N*(M+2):=bC N (by omega);have:N*(M+2)<=N*(M+2)*P^3:=bC _ c3
  omega,λT P f b a _ _=>b.up (by
  have e:1<=P^6:=dt _ _ a;have g:T<=T*P^6:=bC _ e;omega)⟩
structure Bs(m:Nat)(A0:Mt)(D:Int):Prop where
 sym:EqM m (tr A0) A0
 z:∃Z0,EqM m (mul m Z0 A0) (λi j=>D*one i j)
 nz:D≠0
 m7:m<=7
theorem Adm.trs{m:Nat}{b E:Mt}(f:EqM m (PM.tr b) b)(h:Adm m b E):Adm m b (PM.tr E):=by have a:=h.tr;exact⟨a.ex,λi j e c=>(mul_congr (λ_ _=>rfl) λk d=>(f.mulL k j d c).symm).trans (a.val i j e c),a.nil⟩
structure Cr(m k:Nat)(A0 E:Mt):Prop where
 adm:Adm m A0 E
 d1:∀i j,i<k->j<m->j≠i->E i j=0/\E j i=0
 d2:∀i,i<k->1<=E i i
 d3:∀i a b,i<k->i<=a->i<=b->a<m->b<m->E i i∣E a b
theorem Cr.rt{m k:Nat}{n E l:Mt}(c:Cr m k n E)(r:RT m k E l):Cr m k n l:=by
 refine⟨c.adm.rt r,λi j d h o=>⟨by rw[r.up i j d];exact(c.d1 i j d h o).1,?_⟩,λi d=>by rw[r.up i i d];exact c.d2 i d,λi a b d t p e f=>?_⟩
 ·by_cases q:j<k
  ·rw[r.up j i q];exact(c.d1 i j d h o).2
  ·exact fZ.mp (r.dvd (c:=0) (λx s g=>fZ.mpr (c.d1 i x d g (by omega)).2) j (by omega) h)
 ·rw[r.up i i d];by_cases q:a<k
  ·rw[r.up a b q];exact c.d3 i a b d t p e f
  ·exact r.dvd (λx s g=>c.d3 i x b d (by omega) p g f) a (by omega) e
theorem Cr.tr{m k:Nat}{e E:Mt}{D:Int}(b:Bs m e D)(c:Cr m k e E):Cr m k e (PM.tr E):=
 ⟨c.adm.trs b.sym,λi j d l h=>⟨(c.d1 i j d l h).2,(c.d1 i j d l h).1⟩,c.d2,λi a b d o n f g=>c.d3 i b a d n o g f⟩
theorem Cr.col{m k:Nat}{d E:Mt}{D:Int}(b:Bs m d D)(c:Cr m k d E){j:Nat}{x:Int}(l:k<=j)(a:j<m)(h:∀i,k<=i->i<m->x∣E i j):x∣D:=by
 obtain⟨g,e⟩:=b.z;refine c.adm.div e a λi f=>?_;by_cases q:i<k
 ·rw[(c.d1 i j q a (by omega)).1];exact cI x
 ·exact h i (by omega) f
theorem Cr.piv{m k:Nat}{a E:Mt}{D:Int}(b:Bs m a D)(c:Cr m k a E)(e:k<m)(z:∀i,k<i->i<m->E i k=0):E k k≠0/\E k k∣D:=by
 have:E k k∣D:=c.col b (aG k) e λi f d=>by
  by_cases q:i=k
  ·rw[q];exact fH _
  ·rw[z i (by omega) d];exact cI _
 exact⟨λh=>b.nz (fZ.mp (h▸this)),this⟩
theorem CK{a b:Int}(h:a∣b)(f:b≠0)(n:¬b∣a):2*a.natAbs<=b.natAbs:=by
 obtain⟨c,d⟩:=h;have e:b.natAbs=a.natAbs*c.natAbs:=by rw[d,bV]
 have g:c.natAbs≠0:=λz=>f (by rw[d,Int.natAbs_eq_zero.mp z,bQ])
 have c1:c.natAbs≠1:=λz=>n (by
  refine bh.mp ?_;rw[e,z,j3];exact Nat.dvd_refl _)
 have:a.natAbs*2<=a.natAbs*c.natAbs:=bJ _ (by omega);omega
structure RZ(m k e β γ:Nat)(A0 E:Mt):Prop where
 cr:Cr m k A0 E
 nz:E k k≠0
 pb:(E k k).natAbs<=2^e
 rz:∀j,k<j->j<m->E k j=0
 mb:Mn m k (2^β) E
 lb:∀i j,i<m->j<m->(E i (m+j)).natAbs<=2^γ
 rb:∀i j,i<m->j<m->(E (m+i) j).natAbs<=2^γ
theorem RZ.ab{m k e a l:Nat}{d E:Mt}(h:RZ m k e a l d E):∀i j,k<=i->i<m->k<=j->j<m->(E i j).natAbs<=2^a:=λi j f b g c=>h.mb.ab f b g c
theorem pw2{a b:Nat}(h:a<=b):2^a<=2^b:=iT (by omega) h
theorem bits3(g u e:Nat):2*(2^g*(2^u+2)*(2^e)^3)<=2^(g+u+3*e+3):=by
 have c:2^u+2<=2^(u+2):=by have:=ba (n:=u);rw[dJ,dJ];omega
 have a:(2^e)^3=2^(3*e):=by rw[<-Nat.pow_mul,cU]
 rw[a];have d:2^g*(2^u+2)*2^(3*e)<=2^g*2^(u+2)*2^(3*e):=cL _ (bJ _ c);rw[<-eV,<-eV] at d;have b:2^(g+u+3*e+3)=2*2^(g+(u+2)+3*e):=by rw[show g+u+3*e+3=(g+(u+2)+3*e)+1 by omega,dJ];omega
 rw[b];omega
theorem CL.beside{m k e u a:Nat}{E b:Mt}(c:CL m k E b)(l:1<=2^e)(pv:E k k≠0->(E k k).natAbs<=2^e)(h:E k k=0->∀i,k<i->i<m->(E i k).natAbs<=2^e)(o:∀i,k<=i->i<m->(E i k).natAbs<=2^u)
  (d:∀i j,i<m->j<m->(E i (m+j)).natAbs<=2^a):∀i j,i<m->j<m->(b i (m+j)).natAbs<=2^(a+u+3*e+3):=λi j g f=>by
 by_cases q:i<k
 ·rw[c.rt.up i _ q];exact aS (d i j g f) (pw2 (by omega))
 ·exact aS (c.bd (m+j) (2^a) (2^u) (2^e) ⟨λx p n=>d x j n f,l,pv,h,.inl o⟩ i (by omega) g) (bits3 _ _ _)
theorem HS{m k e p s:Nat}{o:Nat->Nat}{r E a:Mt}{D:Int}(b:Bs m r D)(x:k<m)(h:RZ m k e (o e) p r E)(c:CL m k E a)(J:o e+3*e+3<=s)(I:∀f,e=f+1->Mn m k (2^(o f)) a) :
  (RZ m k e (o e) (p+s) r a/\RZ m k e (o e) (p+s) r (tr a)/\∀i,k<i->i<m->E k k∣E i k)\/
   (∃f,e=f+1/\RZ m k f (o f) (p+s) r (tr a)/\¬ ∀i,k<i->i<m->E k k∣E i k):=by
 have v:=h.cr.rt c.rt
 have A:∀i j,i<m->j<m->(a i (m+j)).natAbs<=2^(p+s):=λi j l g=>
  aS (c.beside (e:=e) (u:=o e) ba (λ_=>h.pb) (λz=>absurd z h.nz) (λi n d=>h.ab i k n d (aG _) x) h.lb i j l g) (pw2 (by omega))
 have B:∀i j,i<m->j<m->(a (m+i) j).natAbs<=2^(p+s):=λi j l g=>by rw[c.rt.low _ _ (by omega)];exact aS (h.rb i j l g) (pw2 (by omega))
 by_cases all:∀i,k<i->i<m->E k k∣E i k
 ·refine .inl ?_;have G:=c.same h.nz all;have t:∀j,a k j=E k j:=λj=>by rw[G k j x,red_k]
  have H:Mn m k (2^(o e)) a:=h.mb.same (q:=λi=>if k<i/\i<m then(E i k).fdiv (E k k) else 0) (by show(if k<k/\k<m then _ else _:Int)=0;rw[k9 (by omega)]) (λi j n d=>by
   rw[G i j d];show red m k E i j=E i j-(if k<i/\i<m then(E i k).fdiv (E k k) else 0)*E k j;by_cases q:k<i
   ·rw[UZ q d,k8 ⟨q,d⟩]
   ·rw[k9 (λw=>q w.1),show i=k by omega,red_k];omega) c.z h.rz
  exact⟨⟨v,by rw[t];exact h.nz,by rw[t];exact h.pb,λj n d=>by rw[t];exact h.rz j n d,H,A,B⟩,
   ⟨v.tr b,by show a k k≠0;rw[t];exact h.nz,by show(a k k).natAbs<=_;rw[t];exact h.pb,λj n d=>c.z j n d,H.tr,λi j l g=>B j i g l,λi j l g=>A j i g l⟩,all⟩
 ·refine .inr ?_;have pv:=v.piv b x c.z
  have F:∀i,k<=i->i<m->a k k∣E i k:=c.rt.back.dvd λi n d=>by
   by_cases q:i=k
   ·rw[q];exact fH _
   ·rw[c.z i (by omega) d];exact cI _
  have M:2*(a k k).natAbs<=(E k k).natAbs:=CK (F k (aG _) x) h.nz λz=>all λi n d=>Int.dvd_trans z (F i (by omega) d);have C:=h.pb;have L:1<=(a k k).natAbs:=by have:=pv.1;omega
  obtain⟨f,rfl⟩:∃f,e=f+1:=by
   cases e with
   | zero=>exfalso;rw[Nat.pow_zero] at C;omega
   | succ f=>exact⟨f,rfl⟩
  have y:(a k k).natAbs<=2^f:=by rw[dJ] at C;omega
  exact⟨f,rfl,⟨v.tr b,pv.1,y,λj n d=>c.z j n d,(I f rfl).tr,λi j l g=>B j i g l,λi j l g=>A j i g l⟩,all⟩
structure Bv(m k e0:Nat)(s β:Nat->Nat)(A0:Mt):Prop where
 hs:∀e,e<=e0->β e+3*e+3<=s e
 cl:∀e γ E E',e<e0->RZ m k (e+1) (β (e+1)) γ A0 E->CL m k E E'->Mn m k (2^(β e)) E'
theorem HV{m k e l j:Nat}{s g:Nat->Nat}{a E f:Mt}{D:Int}(b:Bs m a D)(B:Bv m k l s g a)(o:k<m)(p:e<=l)(h:RZ m k e (g e) j a E)(c:CL m k E f) :
  (RZ m k e (g e) (j+s e) a f/\RZ m k e (g e) (j+s e) a (tr f)/\∀i,k<i->i<m->E k k∣E i k)\/
   (∃d,e=d+1/\RZ m k d (g d) (j+s e) a (tr f)/\¬ ∀i,k<i->i<m->E k k∣E i k):=
 HS b o h c (B.hs e p) λd n=>by subst n;exact B.cl d j E f (by omega) h c
noncomputable def f1(s:Nat->Nat):Nat->Nat
 | 0=>0
 | e+1=>f1 s e+s e+s (e+1)
noncomputable def f2(s:Nat->Nat):Nat->Nat
 | 0=>0
 | e+1=>f2 s e+s e+s (e+1)+(2*s e+1)
theorem f1_mono(s:Nat->Nat){a b:Nat}(h:a<=b):f1 s a<=f1 s b:=by
 induction b with
 | zero=>rw[show a=0 by omega];exact aG _
 | succ b ih=>
  by_cases q:a=b+1
  ·rw[q];exact aG _
  ·have:=ih (by omega);show f1 s a<=f1 s b+s b+s (b+1);omega
theorem f2_step(s:Nat->Nat){a b:Nat}(h:a<b):f2 s a+f1 s b+2*s a+1<=f2 s b+f1 s a:=by
 induction b with
 | zero=>omega
 | succ b ih=>
  show f2 s a+(f1 s b+s b+s (b+1))+2*s a+1<=f2 s b+s b+s (b+1)+(2*s b+1)+f1 s a;by_cases q:a=b
  ·subst q;omega
  ·have:=ih (by omega);omega
theorem f2_ge(s:Nat->Nat)(a:Nat):f1 s a<=f2 s a:=by
 induction a with
 | zero=>exact aG _
 | succ a ih=>
  show f1 s a+s a+s (a+1)<=f2 s a+s a+s (a+1)+(2*s a+1);omega
theorem f2_le(s:Nat->Nat){a b:Nat}(h:a<=b):f2 s a+f1 s b<=f2 s b+f1 s a:=by
 by_cases q:a=b
 ·subst q;omega
 ·have:=f2_step s (show a<b by omega);omega
theorem turnV{m k e u l:Nat}{s j:Nat->Nat}{f E F o:Mt}{D:Int}(b:Bs m f D)(B:Bv m k u s j f)(r:k<m)(w:e<=u)(h:RZ m k e (j e) l f (tr E))(c:CL m k (tr E) F)(t:CL m k (tr F) o) :
  (∃e' γ',e'<=e/\γ'+f1 s e'<=l+f1 s e+2*s e'/\RZ m k e' (j e') γ' f o/\RZ m k e' (j e') γ' f (tr o)/\((¬ ∀i,k<i->i<m->E k k∣E k i)->e'<e))\/
   (∃e' γ',e'<e/\γ'+f1 s e'<=l+f1 s e/\RZ m k e' (j e') γ' f (tr o)):=by
 rcases HV b B r w h c with⟨p,x,n⟩ | ⟨g,rfl,p,v⟩
 ·rcases HV b B r w x t with⟨d,q,_⟩ | ⟨a,rfl,d,v⟩
  ·exact .inl ⟨e,_,aG _,by omega,d,q,λz=>absurd n z⟩
  ·exfalso;refine v λi y A=>?_;have:tr F i k=0:=p.rz i y A;rw[this];exact cI _
 ·rcases HV b B r (by omega) p t with⟨d,q,_⟩ | ⟨a,rfl,d,_⟩
  ·refine .inl ⟨g,_,by omega,?_,d,q,λ_=>by omega⟩;show _<=l+(f1 s g+s g+s (g+1))+2*s g;omega
  ·refine .inr ⟨a,_,by omega,?_,d⟩;show _<=l+(f1 s a+s a+s (a+1)+s (a+1)+s (a+1+1));omega
end PM
namespace PW
open L2 VL
structure SInv(m:Nat)(A E:Mt)(d:Int)(p:Nat):Prop where
 dp:0<d
 off:∀i j,p<=i->i<m->p<=j->j<m->i≠j->E i j<=0
 row:∀i,p<=i->i<m->0<=sN m λj=>if j<p then 0 else E i j
 dia:∀i,p<=i->i<m->E i i<=d*A i i
theorem SInv.piv{m p:Nat}{A E:Mt}{d:Int}(S:SInv m A E d p)(a:p<m):0<=E p p:=by
 have h:=S.row p (aG p) a;have e:=Z3 (n:=m) (f:=λj=>if j=p then E p p else 0) a λi _ ne=>k9 ne
 have l:=Y4 (n:=m) (f:=λj=>(if j=p then E p p else 0)+(-1)*(if j<p then 0 else E p j)) λj b=>by
  by_cases q:j=p
  ·subst q;rw[k8 rfl,k9 (by omega)];omega
  ·rw[k9 q];split
   ·omega
   ·have:=S.off p j (aG p) a (by omega) b (λz=>q z.symm);omega
 rw[Yk,ZJ,e,k8 rfl] at l;omega
theorem SInv.step{m p:Nat}{A X E:Mt}{d:Int}(ok:Ej m A X)(f:p<m)(I:HM m A X p E d)(S:SInv m A E d p):SInv m A (λi j=>if i=p then E i j else(E p p*E i j-E i p*E p j).fdiv d) (E p p) (p+1):=by
 obtain⟨r,s⟩:=Up ok f I;have h:0<E p p:=by have:=S.piv f;have:=r.nz;omega
 have n:=S.dp;have l:∀i j,p+1<=i->i<m->j<m->d*(if i=p then E i j else(E p p*E i j-E i p*E p j).fdiv d)=E p p*E i j-E i p*E p j:=λi j c b k=>by obtain⟨q,e⟩:=s i j b (by omega) (by omega);rw[k9 (by omega),e,dM _ (by omega)]
 have o:∀i j,p+1<=i->i<m->p+1<=j->j<m->0<=E i p*E p j:=λi j c b k g=>
  Int.mul_nonneg_of_nonpos_of_nonpos (S.off i p (by omega) b (aG p) f (by omega)) (S.off p j (aG p) f (by omega) g (by omega))
 refine⟨h,λi j c b k g ne=>?_,λi c b=>?_,λi c b=>?_⟩
 ·refine dz (a:=d) ?_ n;rw[l i j c b g,bQ];have:=Int.mul_nonpos_of_nonneg_of_nonpos (fY h) (S.off i j (by omega) b (by omega) g ne);have:=o i j c b k g;omega
 ·refine dz (a:=d) ?_ n;rw[bQ,<-ZJ]
  have e:(sN m λj=>d*(if j<p+1 then 0 else if i=p then E i j else(E p p*E i j-E i p*E p j).fdiv d))=sN m λj=>E p p*(if j<p then 0 else E i j)+(- E i p)*(if j<p then 0 else E p j):=Zj λj u=>by
   by_cases q:j<p
   ·rw[k8 (by omega),k8 q,k8 q];simp
   ·rw[k9 q,k9 q];by_cases t:j=p
    ·subst t;rw[k8 (by omega),bS,bA (E i j)];omega
    ·rw[k9 (by omega),l i j c b u,bS];omega
  rw[e,Yk,ZJ,ZJ];have:=dS (fY h) (S.row i (by omega) b);have:=dS (a:=- E i p) (by have:=S.off i p (by omega) b (aG p) f (by omega);omega) (S.row p (aG p) f);omega
 ·refine dz (a:=d) ?_ n;rw[l i i c b b];have:=o i i c b c b;have:=Int.mul_le_mul_of_nonneg_left (S.dia i (by omega) b) (fY h);rw[cv] at this;omega
noncomputable def O8(A:Mt):Nat->Int
 | 0=>1
 | p+1=>O8 A p*A p p
theorem Ms{m:Nat}{A X:Mt}(ok:Ej m A X)(o:∀i j,i<m->j<m->i≠j->A i j<=0)(r:∀i,i<m->0<=sN m (A i))(a:∀i,i<m->0<=A i i):∀{p:Nat},p<=m->SInv m A (Ut m X p).1 (Ut m X p).2 p/\(Ut m X p).2<=O8 A p
 | 0,_=>⟨⟨by show(0:Int)<1;decide,λi j _ b _ c ne=>by show X i j<=0;rw[ok.ext i j b c];exact o i j b c ne,λi _ b=>by
   rw[Zj (g:=A i) λj c=>by rw[k9 (by omega)];exact ok.ext i j b c];exact r i b,λi _ b=>by show X i i<=1*A i i;rw[ok.ext i i b b];omega⟩,dq _⟩
 | p+1,h=>by obtain⟨S,l⟩:=Ms ok o r a (p:=p) (by omega);refine⟨S.step ok (by omega) (YI ok (by omega)),?_⟩;have d:=S.dia p (aG p) (by omega);exact Int.le_trans d (Int.mul_le_mul_of_nonneg_right l (a p (by omega)))
end PW
namespace PM
open PW
theorem GU(g e:Nat):64*(2^g*(2^e)^6)=2^(g+6*e+6):=by rw[<-Nat.pow_mul,<-eV,eV 2 _ 6,cU 64,cU e 6]
noncomputable def ad:Nat->Nat
 | 0=>0
 | n+1=>ad n+(6*(n+1)+6)
theorem HX{a b:Nat}(h:a<=b):ad a<=ad b:=by
 induction b with
 | zero=>rw[show a=0 by omega];exact aG _
 | succ b ih=>
  by_cases q:a=b+1
  ·rw[q];exact aG _
  ·have:=ih (by omega);show ad a<=ad b+_;omega
noncomputable def be(t e0 e:Nat):Nat:=t+(ad e0-ad e)
noncomputable def sB(β:Nat->Nat)(e:Nat):Nat:=β e+3*e+3
theorem Bv.gen{m k d t:Nat}{f:Mt}{D:Int}(b:Bs m f D):Bv m k d (sB (be t d)) (be t d) f:=
 ⟨λe _=>aG _,λe l E j n h c=>by
  refine(c.mn _ (2^(e+1)) b.m7 h.mb ba (λ_=>h.pb) λz=>absurd z h.nz).up ?_;rw[GU];refine pw2 ?_;unfold be;have i:ad (e+1)=ad e+(6*(e+1)+6):=rfl;have g:=HX (a:=e+1) (b:=d) (by omega);omega⟩
noncomputable def bE(t e:Nat):Nat:=if 20<=e then t else 210
theorem Bv.end{m k t:Nat}{g:Mt}{D:Int}(b:Bs m g D)(A:k<m)(y:D.natAbs<=2^20)(F:m<=k+2):Bv m k 20 (sB (bE t)) (bE t) g:=by
 refine⟨λe _=>aG _,λe J E o M h c=>?_⟩;have l:∀{x:Int},x∣D->x.natAbs<=2^20:=λ{x} d=>aS (dc (by have:=b.nz;omega) (bh.mpr d)) y;have v:=h.cr.rt c.rt
 have ent:∀i j,k<=i->i<m->k<=j->j<m->(o i j).natAbs<=2^103:=λi j r f H a=>by
  by_cases p:j=k
  ·subst p;by_cases q:i=j
   ·rw[q];exact aS (l (v.piv b A c.z).2) (pw2 (by omega))
   ·rw[c.z i (by omega) f];exact bq _
  ·have u:m=k+2:=by omega
   have L:j=k+1:=by omega
   have w:∀i,k<=i->i<m->(E i j).natAbs<=2^20:=λi G I=>by
    by_cases q:i=k
    ·rw[q,h.rz j (by omega) a];exact bq _
    ·have s:i=j:=by omega
     rw[s];refine l (h.cr.col b (by omega) a λx B C=>?_);by_cases q:x=k
     ·rw[q,h.rz j (by omega) a];exact cI _
     ·rw[show x=j by omega];exact fH _
   exact aS (c.bd j (2^20) (2^(e+1)) (2^(e+1)) ⟨w,ba,λ_=>h.pb,λz=>absurd z h.nz,.inr ⟨u,h.rz j (by omega) a,h.nz,h.pb⟩⟩ i r f) (aS (bits3 _ _ _) (pw2 (by omega)))
 refine(Mn.ent (n:=2) ba (by omega) ent).up ?_;unfold bE;rw[k9 (by omega)];decide
theorem f2_top{s:Nat->Nat}{S:Nat}:∀{n:Nat},(∀e,e<=n->s e<=S)->f2 s n<=n*(4*S+1)
 | 0,_=>bq _
 | n+1,h=>by have b:=f2_top (n:=n) λe d=>h e (by omega);have a:=h n (by omega);have c:=h (n+1) (aG _);show f2 s n+s n+s (n+1)+(2*s n+1)<=_;rw[iS];omega
theorem f2_end(t:Nat):f2 (sB (bE t)) 20<=t+23000:=by
 have b:=f2_top (s:=sB (bE t)) (S:=273) (n:=19) λe d=>by unfold sB bE;rw[k9 (by omega)];omega
 show f2 (sB (bE t)) 19+sB (bE t) 19+sB (bE t) 20+(2*sB (bE t) 19+1)<=_;have a:sB (bE t) 19=270:=rfl;have c:sB (bE t) 20=t+3*20+3:=rfl;omega
structure Pl(m k a γ:Nat)(A0 E:Mt):Prop where
 cr:Cr m k A0 E
 mb:Mn m k (2^a) E
 lb:∀i j,i<m->j<m->(E i (m+j)).natAbs<=2^γ
 rb:∀i j,i<m->j<m->(E (m+i) j).natAbs<=2^γ
theorem Pl.ab{m k a f:Nat}{d E:Mt}(h:Pl m k a f d E):∀i j,k<=i->i<m->k<=j->j<m->(E i j).natAbs<=2^a:=λi j e b g c=>h.mb.ab e b g c
theorem Pl.first{m k a y s f:Nat}{v:Nat->Nat}{q E d:Mt}{D:Int}(b:Bs m q D)(g:k<m)(h:Pl m k a y q E)(c:CL m k E d)(z:(d k k).natAbs<=2^f)(t:7*a+6<=v f)(A:4*a+3<=s):RZ m k f (v f) (y+s) q (tr d):=by
 have w:=h.cr.rt c.rt;have col:∀i,k<=i->i<m->(E i k).natAbs<=2^a:=λi n l=>h.ab i k n l (aG _) g;refine⟨w.tr b,(w.piv b g c.z).1,z,λj n l=>c.z j n l,?_,λi j r o=>?_,λi j r o=>?_⟩
 ·refine((c.mn _ (2^a) b.m7 h.mb ba (λ_=>col k (aG _) g) λ_ x t p=>col x (by omega) p).up ?_).tr;rw[GU];exact pw2 (by omega)
 ·show(d (m+j) i).natAbs<=_;rw[c.rt.low _ _ (by omega)];exact aS (h.rb j i o r) (pw2 (by omega))
 ·show(d j (m+i)).natAbs<=_;exact aS (c.beside (e:=a) (u:=a) ba (λ_=>col k (aG _) g) (λ_ x t p=>col x (by omega) p) col h.lb j i o r) (pw2 (by omega))
theorem Pl.small{m k a r X:Nat}{g E f:Mt}{D:Int}(b:Bs m g D)(j:k<m)(h:Pl m k a r g E)(c:CL m k E f)(l:∀i,k<=i->i<m->(E i k).natAbs<=X):(f k k).natAbs<=X/\(f k k).natAbs<=D.natAbs:=by
 have p:=h.cr.rt c.rt;have pv:=p.piv b j c.z;refine⟨?_,dc (by have:=b.nz;omega) (bh.mpr pv.2)⟩
 have o:∀i,k<=i->i<m->f k k∣E i k:=c.rt.back.dvd λi e d=>by
  by_cases q:i=k
  ·rw[q];exact fH _
  ·rw[c.z i (by omega) d];exact cI _
 obtain⟨i,e,d,s⟩:∃i,k<=i/\i<m/\E i k≠0:=by refine cC λn=>pv.1 ?_;refine fZ.mp (c.rt.dvd (c:=0) (λi e d=>?_) k (aG _) j);refine fZ.mpr (cC λz=>n ⟨i,e,d,z⟩)
 have:=dc (by omega) (bh.mpr (o i e d));have:=l i e d;omega
theorem RZ.unfit{m k e t d u:Nat}{o E:Mt}{D:Int}(b:Bs m o D)(y:k<m)(h:RZ m k e t d o E)(s:RZ m k e t d o (tr E))(v:k<u)(c:u<m):RZ m k e t (d+1) o (tr (λi j=>if i=k then E i j-1*E u j else E i j)):=by
 have r:=RT.sub (m:=m) (p:=k) (a:=k) (b:=u) (q:=1) (E:=E) (aG _) y (by omega) c (by omega);have x:E u k=0:=s.rz u v c;have p2:2^d+2^d=2^(d+1):=by rw[dJ];omega
 have kk:(if k=k then E k k-1*E u k else E k k)=E k k:=by rw[k8 rfl,x];omega
 refine⟨(h.cr.rt r).tr b,?_,?_,λj l g=>?_,?_,λi j f n=>?_,λi j f n=>?_⟩
 ·show(if k=k then E k k-1*E u k else E k k)≠0;rw[kk];exact h.nz
 ·show(if k=k then E k k-1*E u k else E k k).natAbs<=_;rw[kk];exact h.pb
 ·show(if j=k then E j k-1*E u k else E j k)=0;rw[k9 (by omega)];exact s.rz j l g
 ·exact(h.mb.less v c (λj=>k8 rfl) (λi j w=>k9 w) (λi l g=>s.rz i l g) h.rz).tr
 ·show(if m+j=k then E (m+j) i-1*E u i else E (m+j) i).natAbs<=_;rw[k9 (by omega)];exact aS (h.rb j i n f) (pw2 (by omega))
 ·show(if j=k then E j (m+i)-1*E u (m+i) else E j (m+i)).natAbs<=_;split
  ·have l:=h.lb j i n f;have g:=h.lb u i c f;have:=gW (E j (m+i)) (1*E u (m+i));omega
  ·exact aS (h.lb j i n f) (pw2 (by omega))
theorem Mn.next{m k T:Nat}{E n:Mt}(h:Mn m k T E)(e:∀i j,k<i->k<j->n i j=E i j):Mn m (k+1) T n:=λj l g f d=>by rw[Zv (B:=λa b=>E (l a) (g b)) λa b c o=>e _ _ (f a c).1 (d b o).1];exact h j l g (λa c=>⟨by have:=(f a c).1;omega,(f a c).2⟩) (λa c=>⟨by have:=(d a c).1;omega,(d a c).2⟩)
theorem RZ.next{m k e v y:Nat}{x E:Mt}(H:k<m)(h:RZ m k e v y x E)(A:RZ m k e v y x (tr E))(D:∀i j,k<i->i<m->j<m->E k k∣E i j):Pl m (k+1) v y x (λi j=>if i=k/\E k k<0 then-E i j else E i j):=by
 have l:∀i j,k<=i->i<m->k<=j->j<m->E k k∣E i j:=λi j F B I C=>by
  by_cases q:i=k
  ·rw[q];by_cases G:j=k
   ·rw[G];exact fH _
   ·rw[h.rz j (by omega) C];exact cI _
  ·exact D i j (by omega) B C
 by_cases s:E k k<0
 ·have r:=RT.neg (m:=m) (p:=k) (a:=k) (E:=E) (aG _) H
  have e:(λi j=>if i=k/\E k k<0 then-E i j else E i j)=(λi j=>if i=k then-E i j else E i j):=by
   funext i j;by_cases q:i=k
   ·rw[k8 ⟨q,s⟩,k8 q]
   ·rw[k9 (λz=>q z.1),k9 q]
  rw[e];have c:=h.cr.rt r;refine⟨⟨c.adm,λi j n g u=>?_,λi n=>?_,λi a b n t o d f=>?_⟩,h.mb.next λi j F B=>k9 (by omega),λi j n g=>?_,λi j n g=>?_⟩
  ·by_cases q:i=k
   ·subst q;refine⟨?_,?_⟩
    ·show(if i=i then _ else _)=_;rw[k8 rfl];by_cases w:j<i
     ·have:=(h.cr.d1 j i w (by omega) (by omega)).2;rw[this];rfl
     ·rw[h.rz j (by omega) g];rfl
    ·show(if j=i then _ else _)=_;rw[k9 u];by_cases w:j<i
     ·exact(h.cr.d1 j i w (by omega) (by omega)).1
     ·exact A.rz j (by omega) g
   ·exact c.d1 i j (by omega) g u
  ·by_cases q:i=k
   ·subst q;show 1<=(if i=i then _ else _);rw[k8 rfl];omega
   ·exact c.d2 i (by omega)
  ·by_cases q:i=k
   ·subst q;show(if i=i then-E i i else E i i)∣(if a=i then-E a b else E a b);rw[k8 rfl,Int.neg_dvd];split
    ·exact Int.dvd_neg.mpr (l a b t d o f)
    ·exact l a b t d o f
   ·exact c.d3 i a b (by omega) t o d f
  ·show(if i=k then-E i (m+j) else E i (m+j)).natAbs<=_;split
   ·rw[fF];exact h.lb i j n g
   ·exact h.lb i j n g
  ·show(if m+i=k then _ else _:Int).natAbs<=_;rw[k9 (by omega)];exact h.rb i j n g
 ·have e:(λi j=>if i=k/\E k k<0 then-E i j else E i j)=E:=by funext i j;rw[k9 (λz=>s z.2)]
  rw[e];refine⟨⟨h.cr.adm,λi j n g u=>?_,λi n=>?_,λi a b n t o d f=>?_⟩,h.mb.next λi j _ _=>rfl,h.lb,h.rb⟩
  ·by_cases q:i=k
   ·subst q;by_cases w:j<i
    ·have:=h.cr.d1 j i w (by omega) (by omega);exact⟨this.2,this.1⟩
    ·exact⟨h.rz j (by omega) g,A.rz j (by omega) g⟩
   ·exact h.cr.d1 i j (by omega) g u
  ·by_cases q:i=k
   ·subst q;have:=h.nz;omega
   ·exact h.cr.d2 i (by omega)
  ·by_cases q:i=k
   ·subst q;exact l a b t d o f
   ·exact h.cr.d3 i a b (by omega) t o d f
end PM
namespace PW
open PySem L2 VL VX
theorem M8{F:XS}{x:XT}{s:ZD}{k:Nat}(J:Nat->ZD->Prop)(f:J k s)(st:∀k s,J k s->x s=aA aB\/(x s=aA aC/\XD F s λs2=>∃k',k'<k/\J k' s2)):XD (X4 x F) s λd=>∃k,J k d/\x d=aA aB:=by
 obtain⟨d,k',a,b,c⟩:=En (c:=x) (fb:=F) J (λk s h=>by
  rcases st k s h with z | ⟨z,s2,e,k',i,g⟩
  ·exact .inl z
  ·exact .inr ⟨z,s2,k',e,i,g⟩) f
 exact⟨d,a,k',b,c⟩
noncomputable def cR(w:Nat)(f:Nat->Int):PV:=.cst (iL (ZM w f))
noncomputable def bL(w:Nat)(E:Mt):List PV:=(aI w).map λi=>cR w (E i)
section
variable {w m k i j a:Nat} {E E':Mt} {f g h:XE} {s:ZD}
theorem Ur:(bL w E).length=w:=by simp[bL]
theorem Mu(a:i<w):(bL w E)[i]?=aA (cR w (E i)):=by unfold bL;rw[aQ,ak a];rfl
theorem W4(f:Nat->Int):ZQ (cR w f)=aC:=Yi _
theorem P6:ZC (bL w E)=aC:=by rw[YW,aq];intro x a;obtain⟨i,_,rfl⟩:=cB.mp a;exact W4 _
theorem Ep{v:Nat->Int}(c:a<w):(bL w E).set a (cR w v)=bL w (ZU a v E):=by
 apply cV;intro i;rw[ao,Ur];by_cases b:i<w
 ·rw[Mu (E:=ZU a v E) b];by_cases q:a=i
  ·subst q;rw[k8 rfl,k8 b,Zm]
  ·rw[k9 q,Mu b,ZE _ _ (λz=>q z.symm)]
 ·rw[bN (l:=bL w (ZU a v E)) (by rw[Ur];omega),k9 (by omega)];exact bN (by rw[Ur];omega)
theorem Qn(a:i<w)(q:f s=aA (.lst (bL w E)))(b:g s=aA (.int (i:Int))):Zi ZS f g s=aA (cR w (E i)):=o2 q b (Xn (Mu a))
theorem DC{v:Nat->Int}(b:j<w)(q:f s=aA (cR w v))(a:g s=aA (.int (j:Int))):Zi ZS f g s=aA (.int (v j)):=o2 q a (TU b)
theorem U0(b:i<w)(d:j<w)(q:f s=aA (.lst (bL w E)))(c:g s=aA (.int (i:Int)))(a:h s=aA (.int (j:Int))):Zi ZS (Zi ZS f g) h s=aA (.int (E i j)):=DC d (Qn b q c) a
theorem O9{v:Nat->Int}{c:Nat}(b:a<w)(q:f s=aA (.int (a:Int)))(e:g s=aA (cR w v))(d:Jb s c=aA (bL w E)):YZ c f g s=aA (.nx (s.set c (aA (.lst (bL w (ZU a v E)))))):=by rw[QI e q d P6 (W4 _) (VJ (by rw[Ur];exact b)),Ep b]
theorem TX{v:Nat->Int}(q:f s=aA (.lst (iL (ZM w v)))):R9 f s=aA (cR w v):=by unfold R9;rw[q];show(X2 (iL (ZM w v))).map _=_;rw[Xb];rfl
theorem JX{u v:Nat->Int}:UA (iL (ZM w u)) (iL (ZM w v))=(aI w).map λj=>.tup [.int (u j),.int (v j)]:=by rw[Ub _ _ (by simp[ZI]),aO,ZI];refine bD λi a=>?_;have a:=aX.mp a;rw[VG _ i (by rw[ZI];exact a),VG _ i (by rw[ZI];exact a),Wd a,Wd a]
theorem JY{x:Int}{G:Nat}(h:x.natAbs<2^G)(a:0<G):x.natAbs.log2<G:=by
 by_cases z:x.natAbs=0
 ·rw[z];have:Nat.log2 0=0:=by decide
  omega
 ·exact(Nat.log2_lt z).mpr h
theorem JZ{x y:Int}{G:Nat}(h:x.natAbs<2^G)(b:y.natAbs<2^G)(a:0<G)(c:G<=67000000):CMulW x y:=⟨by have:=JY h a;omega,by have:=JY b a;omega⟩
theorem M9{u v:Nat->Int}{q:Int}(b:w<=100)(a:∀j,j<w->CMulW q (v j)):Ts [cR w u,cR w v,.int q]=aA (.lst (iL (ZM w λj=>u j-q*v j))):=by refine YM (ret (W3 (q:=λj=>.tup [.int (u j),.int (v j)]) (λj=>u j-q*v j) ?_ b λj c=>⟨_,rfl,vP (vI rfl (vC (C:=CMulW) (op:=(· * ·)) rfl rfl (a j c)))⟩));show aA (UA (iL (ZM w u)) (iL (ZM w v)))=_;rw[JX]
noncomputable def bw(m k:Nat)(E:Mt):List Nat:=((aI (m-(k+1))).map λi=>k+1+i).filter λi=>decide (E i k≠0)
theorem mem_bw{x:Nat}:x∈bw m k E↔k<x/\x<m/\E x k≠0:=by
 unfold bw;rw[fP,cB];constructor
 ·rintro⟨⟨i,a,rfl⟩,h⟩;have:=aX.mp a;exact⟨by omega,by omega,of_decide_eq_true h⟩
 ·rintro⟨d,c,b⟩;exact⟨⟨x-(k+1),aX.mpr (by omega),by omega⟩,decide_eq_true b⟩
theorem GV:(bw m k E).Pairwise (· < ·):=by unfold bw;refine List.Pairwise.filter _ (List.pairwise_map.mpr ?_);exact List.Pairwise.imp (λh=>by omega) List.pairwise_lt_range
theorem J0{x:Nat}{r:List Nat}(e:bw m k E=x::r):PM.Fst m k E x:=by
 have a:=mem_bw.mp (show x∈bw m k E by rw[e];exact a9);refine⟨a.1,a.2.1,a.2.2,λi c d=>cC λz=>?_⟩;have b:i∈bw m k E:=mem_bw.mpr ⟨c,by omega,z⟩;have up:=GV (m:=m) (k:=k) (E:=E);rw[e] at b up;rcases af.mp b with q | q
 ·omega
 ·have:=List.rel_of_pairwise_cons up q;omega
theorem Vw(d:m<=w)(c:w<=100)(f:k<m):YH [.lst (bL w E),.int (m:Int),.int (k:Int)]=aA (.lst (iL (nL (bw m k E)))):=by
 have e:iL (nL (bw m k E))=(bw m k E).map λ(i:Nat)=>PV.int (i:Int):=by simp[nL]
 rw[e];refine YM (ret (UK ((aI (m-(k+1))).map λi=>k+1+i) (λ(i:Nat)=>PV.int (i:Int)) (λ(i:Nat)=>PV.int (i:Int)) (λi=>decide (E i k≠0)) ?_ (by simp;omega) λi b=>?_))
 ·rw[VH (i:=(k:Int)+1) (j:=(m:Int)) (DZ rfl rfl) rfl (by omega) (by omega)];unfold Wx;rw[cH,show((m:Int)-((k:Int)+1)).toNat=m-(k+1) by omega];congr 1
 ·obtain⟨x,a,rfl⟩:=cB.mp b;have:=aX.mp a;refine⟨_,rfl,xb (o2 (U0 (by omega) (by omega) rfl rfl rfl) rfl ?_),λ_=>vP rfl⟩;rw[Pj];simp
end
abbrev EE(w m k:Nat)(E0 E:Mt)(x5 x6 x7:Option PV):ZD:=[aA (.lst (bL w E0)),aA (.int (m:Int)),aA (.int (k:Int)),aA (.lst (bL w E)),aA (.lst (iL (nL (bw m k E)))),x5,x6,x7]
theorem J1(x:Int):NJ [.int x]=aA (.int (x.natAbs:Int)):=by
 show aA (PV.int (if x<0 then -x else x))=_;congr 2;split<;>omega
theorem HY{k f:Nat}{E:Mt}(h:k≠f):ZU f (E k) (ZU k (E f) E)=λi j=>E (PM.sw k f i) j:=by
 funext i;unfold ZU PM.sw;by_cases q:i=f
 ·rw[k8 q,k9 (by omega),k8 q]
 ·rw[k9 q];by_cases a:i=k
  ·rw[k8 a,k8 a]
  ·rw[k9 a,k9 a,k9 q]
noncomputable def Qo(X:List Nat)(k:Nat)(E:Mt):Mt:=λi j=>if i∈X then E i j-(E i k).fdiv (E k k)*E k j else E i j
theorem HZ{w m k:Nat}{E0 E a:Mt}{f d x7:Option PV}{G:Nat}(A:w<=100)(I:m<=w)(F:k<m)(J:0<G)(H:G<=60000000)(o:∀i j,k<=i->i<m->j<w->(a i j).natAbs<2^G)(u:a k k≠0) :
  XD (YD [3] (Vb (Za 4)) (.one 7) (YZ 3 (Za 7) (R9 (Zc Ts [Zi ZS (Za 3) (Za 7),Zi ZS (Za 3) (Za 2),Zi Jy (Zi ZS (Zi ZS (Za 3) (Za 7)) (Za 2)) (Zi ZS (Zi ZS (Za 3) (Za 2)) (Za 2))]))))
   [aA (.lst (bL w E0)),aA (.int (m:Int)),aA (.int (k:Int)),aA (.lst (bL w a)),aA (.lst (iL (nL (bw m k E)))),f,d,x7]
   λs=>∃x7,s=[aA (.lst (bL w E0)),aA (.int (m:Int)),aA (.int (k:Int)),aA (.lst (bL w (Qo (bw m k E) k a))),aA (.lst (iL (nL (bw m k E)))),f,d,x7]:=by
 refine HK (Dy (X:=bw m k E) (λt s=>∃x7,s=[aA (.lst (bL w E0)),aA (.int (m:Int)),aA (.int (k:Int)),aA (.lst (bL w (Qo ((bw m k E).take t) k a))),aA (.lst (iL (nL (bw m k E)))),f,d,x7]) rfl ⟨x7,?_⟩ ?_) ?_
 ·rw[iP,show Qo [] k a=a from funext λi=>funext λj=>k9 (c9)]
 ·rintro t s g ⟨x7,rfl⟩;have p:=mem_bw.mp (dR (l:=bw m k E) g);obtain⟨x,r⟩:∃x,x=(bw m k E)[t]:=⟨_,rfl⟩;rw[<-r] at p ⊢
  have xn:x∉(bw m k E).take t:=λz=>by
   obtain⟨i,L,e⟩:=List.mem_take_iff_getElem.mp z;have h:i<t:=by omega
   have:=(List.pairwise_iff_getElem.mp (GV (m:=m) (k:=k) (E:=E))) i t (by omega) g h;omega
  have D:k∉(bw m k E).take t:=λz=>by have:=(mem_bw.mp (iQ z)).1;omega
  have n:Qo ((bw m k E).take t) k a x=a x:=funext λj=>k9 xn;have c:Qo ((bw m k E).take t) k a k=a k:=funext λj=>k9 D;refine L8 (O9 (v:=λj=>a x j-(a x k).fdiv (a k k)*a k j) (by omega) rfl (TX (c3 (Qn (by omega) rfl rfl) (Qn (by omega) rfl rfl) (vC (C:=λ_ j=>j≠0) (op:=jL) (U0 (by omega) (by omega) rfl rfl rfl) (U0 (by omega) (by omega) rfl rfl rfl) ?_) ?_)) rfl) ⟨aA (.int (x:Int)),?_⟩
  ·rw[c];exact u
  ·rw[n,c];refine M9 A λj B=>?_;have q:=(PM.fd_any (x:=a x k) u).2.2;have b:=o x k (by omega) p.2.1 (by omega);refine JZ (G:=G+1) ?_ (a0 (o k j (aG _) F B) (PM.pw2 (by omega))) (by omega) (by omega);rw[dJ];omega
  ·show [aA (PV.lst (bL w E0)),aA (.int (m:Int)),aA (.int (k:Int)),aA (.lst (bL w (ZU x (λj=>a x j-(a x k).fdiv (a k k)*a k j) (Qo ((bw m k E).take t) k a)))),aA (.lst (iL (nL (bw m k E)))),f,d,aA (.int (x:Int))]=_;congr 4;congr 2;congr 1;funext i;unfold ZU;have tk:∀y,y∈(bw m k E).take (t+1)↔y∈(bw m k E).take t\/y=x:=λy=>by rw[List.take_succ_eq_append_getElem g,bb,aw,<-r]
   by_cases q:i=x
   ·rw[k8 q,q];funext j;unfold Qo;rw[k8 ((tk x).mpr (.inr rfl))]
   ·rw[k9 q];funext j;unfold Qo;by_cases b:i∈(bw m k E).take t
    ·rw[k8 b,k8 ((tk i).mpr (.inl b))]
    ·rw[k9 b,k9 (λz=>by rcases(tk i).mp z with z | z;exact b z;exact q z)]
 ·rintro s ⟨x7,rfl⟩;rw[jW];exact⟨x7,rfl⟩
theorem H9{w m k f:Nat}{E:Mt}(F:PM.Fst m k E f)(d:k<m):Qo (bw m k E) k (PM.pre k f E)=PM.red m k (PM.pre k f E):=by
 funext i j;unfold Qo PM.red;by_cases q:i∈bw m k E
 ·have:=mem_bw.mp q;rw[k8 q,k8 ⟨this.1,this.2.1⟩]
 ·rw[k9 q];by_cases c:k<i/\i<m
  ·rw[k8 c];have z:E i k=0:=cC λz=>q (mem_bw.mpr ⟨c.1,c.2,z⟩)
   have e:PM.pre k f E i k=0:=by
    unfold PM.pre;split
    ·show E (PM.sw k f i) k=0;rw[PM.sw_c (a:=k) (b:=f) (by omega) (λy=>F.ne (by rw[<-y];exact z))];exact z
    ·exact z
   rw[e,Int.zero_fdiv,b9,jN]
  ·rw[k9 c]
theorem QR{w m k G:Nat}{E0:Mt}(C:w<=100)(D:m<=w)(l:k<m)(X:0<G)(T:G<=60000000)(Y:∀j,j<w->∃N M P,PM.Hyp m k E0 j N M P/\2*(N*(M+2)*P^3)<2^G):∃E,ZG [.lst (bL w E0),.int (m:Int),.int (k:Int)]=aA (.lst (bL w E))/\PM.CL m k E0 E:=by
 suffices g:YF W8 (ZL 8 [.lst (bL w E0),.int (m:Int),.int (k:Int)]) λv=>∃E,v = .lst (bL w E)/\PM.CL m k E0 E by obtain⟨v,e,E,rfl,r⟩:=T5 g;exact⟨E,e,r⟩
 have L:∀{N M P:Nat},1<=P->N<=2*(N*(M+2)*P^3):=λ{N M P} h=>by have c3:1<=P^3:=dt _ _ h;have:N<=N*(M+2):=bC N (by omega);have:N*(M+2)<=N*(M+2)*P^3:=bC _ c3;omega
 refine Z7 (Zy (c1 rfl (by rw[Rc,k8 P6]))) (Z7 (Zy (c3 rfl rfl rfl (Vw D C l))) ?_)
 obtain⟨I,Q⟩:∃I,∀f,PM.Fst m k E0 f->(PM.red m k (PM.pre k f E0) k k).natAbs<I:=by
  by_cases q:∃f,PM.Fst m k E0 f
  ·obtain⟨f,F⟩:=q;refine⟨(PM.red m k (PM.pre k f E0) k k).natAbs+1,λg S=>?_⟩
   have:g=f:=by
    rcases Nat.lt_trichotomy g f with z | z | z
    ·exact absurd (F.ze g S.lo z) S.ne
    ·exact z
    ·exact absurd (S.ze f F.lo z) F.ne
   rw[this];omega
  ·exact⟨0,λf F=>absurd ⟨f,F⟩ q⟩
 refine UW (M8 (λn st=>∃E p d x7,st=EE w m k E0 E p d x7/\PM.RT m k E0 E/\((E=E0/\n=I)\/(PM.Aft m k E0 E/\n=(E k k).natAbs))) ⟨E0,none,none,none,rfl,.refl,.inl ⟨rfl,rfl⟩⟩ ?_) ?_
 ·rintro n st ⟨E,p,d,x7,rfl,rt,y⟩;have a:(iL (nL (bw m k E))).length=(bw m k E).length:=by simp[nL]
  have c:xB (Zi Ki (Zc Z5 [Za 4]) (eC (.int 0))) (EE w m k E0 E p d x7)=aA (decide (0<(bw m k E).length)):=xb (C6 (b:=0) (c1 rfl (by rw[NR,a])) rfl)
  cases e:bw m k E with
  | nil=>exact .inl (c.trans (by rw[e];rfl))
  | cons f r=>
   refine .inr ⟨c.trans (by rw[e];rfl),?_⟩;have F:=J0 e;have hkf:=F.lo
   -- the bounds
   have W:∀i j,k<=i->i<m->j<w->(E i j).natAbs<2^G:=λi j t o B=>by
    obtain⟨N,M,P',H,u⟩:=Y j B;rcases y with⟨rfl,_⟩ | ⟨A,_⟩
    ·exact ay (H.bo i t o) (ay (L H.one) u)
    ·obtain⟨N',Z,b2,_⟩:=A.po j N M P' H;exact ay (Z i t o) (ay b2 u)
   have O:PM.Aft m k E0 (PM.red m k (PM.pre k f E))/\(PM.red m k (PM.pre k f E) k k).natAbs<n:=by
    rcases y with⟨rfl,rfl⟩ | ⟨A,rfl⟩
    ·exact⟨PM.Aft.first l F,Q f F⟩
    ·exact A.next l F
   have pz:PM.pre k f E k k≠0:=by have:=O.1.nz;rwa [PM.red_k] at this
   have U:∀i j,k<=i->i<m->j<w->(PM.pre k f E i j).natAbs<2^G:=λi j t o B=>by
    unfold PM.pre;split
    ·exact W _ j (by unfold PM.sw;split<;>(try split)<;>omega) (PM.sw_lt l F.hi o) B
    ·exact W i j t o B
   have x:∀p:Option PV,IZ (xB (Zi (VB aB) (Zi ZS (Zi ZS (Za 3) (Za 2)) (Za 2)) (eC (.int 0)))) (xB (Zi GC (Zc NJ [Zi ZS (Zi ZS (Za 3) (Za 5)) (Za 2)]) (Zc NJ [Zi ZS (Zi ZS (Za 3) (Za 2)) (Za 2)]))) (EE w m k E0 E (aA (.int (f:Int))) d x7)=aA (decide (E k k=0) || decide ((E f k).natAbs<(E k k).natAbs)):=λ_=>xo (xb (JQ (U0 (by omega) (by omega) rfl rfl rfl) rfl)) (xb (Bp (c1 (U0 (by have:=F.hi;omega) (by omega) rfl rfl rfl) (J1 _)) (c1 (U0 (by omega) (by omega) rfl rfl rfl) (J1 _))));have hf:ZS (.lst (iL (nL (bw m k E)))) (.int 0)=aA (.int (f:Int)):=by rw[e];exact Xn (j:=0) rfl
   refine V3 (Zy (ep (o2 rfl rfl hf))) (GR (R:=λs=>∃d,s=[aA (.lst (bL w E0)),aA (.int (m:Int)),aA (.int (k:Int)),aA (.lst (bL w (PM.pre k f E))),aA (.lst (iL (nL (bw m k E)))),aA (.int (f:Int)),d,x7]) (GS (x p) (λz=>?_) λz=>?_) ?_)
   ·have J:E k k=0\/(E f k).natAbs<(E k k).natAbs:=by simpa using z
    refine V3 (Zy (ep (Qn (by omega) rfl rfl) (W4 _))) (V3 (O9 (by omega) rfl (Qn (by have:=F.hi;omega) rfl rfl) rfl) (L8 (O9 (v:=E k) (by have:=F.hi;omega) rfl rfl rfl) ⟨aA (cR w (E k)),?_⟩));show [aA (PV.lst (bL w E0)),aA (.int (m:Int)),aA (.int (k:Int)),aA (.lst (bL w (ZU f (E k) (ZU k (E f) E)))),aA (.lst (iL (nL (bw m k E)))),aA (.int (f:Int)),aA (cR w (E k)),x7]=_;rw[HY (by omega),show PM.pre k f E=λi j=>E (PM.sw k f i) j by unfold PM.pre;rw[k8 J]]
   ·have J:¬(E k k=0\/(E f k).natAbs<(E k k).natAbs):=by simpa using z
    exact L8 rfl ⟨d,by rw[show PM.pre k f E=E by unfold PM.pre;rw[k9 J]];rfl⟩
   ·rintro s ⟨y6,rfl⟩;refine GR (HZ C D l X T U pz) ?_;rintro s ⟨y7,rfl⟩;rw[H9 (w:=w) F l];exact L8 (Zy (c3 rfl rfl rfl (Vw D C l))) ⟨_,O.2,_,_,_,_,rfl,(rt.trans (by omega) (PM.rt_pre l F.lo F.hi)).trans (by omega) (PM.rt_red l),.inr ⟨O.1,rfl⟩⟩
 ·rintro st ⟨n,⟨E,p,d,x7,rfl,rt,y⟩,q⟩;have a:(iL (nL (bw m k E))).length=(bw m k E).length:=by simp[nL]
  have c:xB (Zi Ki (Zc Z5 [Za 4]) (eC (.int 0))) (EE w m k E0 E p d x7)=aA (decide (0<(bw m k E).length)):=xb (C6 (b:=0) (c1 rfl (by rw[NR,a])) rfl);have q0:=of_decide_eq_false (av (c.symm.trans q));have nil:bw m k E=[]:=List.eq_nil_of_length_eq_zero (by omega);have z:∀i,k<i->i<m->E i k=0:=λi t o=>cC λz=>by have:=mem_bw.mpr ⟨t,o,z⟩;rw[nil] at this;exact c9 this
  refine XG rfl ⟨E,rfl,?_⟩;rcases y with⟨rfl,_⟩ | ⟨A,_⟩
  ·exact .refl z
  ·exact .aft rt A z
section
variable {w m k:Nat} {E:Mt}
theorem Vx(b:w<=100):Ym [.lst (bL w E)]=aA (.lst (bL w (PM.tr E))):=by refine YM (ret (Z9 (aI w) (λ(i:Nat)=>PV.int (i:Int)) (λi=>cR w (PM.tr E i)) (Yj (c1 rfl (by rw[NR,Ur])) (by omega)) (by simp;omega) λi a=>⟨_,rfl,rfl,ep (TX ?_) (W4 _)⟩));have a:=aX.mp a;exact W3 (q:=λr=>cR w (E r)) (λr=>E r i) rfl b λr c=>⟨_,rfl,vP (DC a rfl rfl)⟩
noncomputable def beside(m k:Nat)(E:Mt):Bool:=((aI (m-(k+1))).map λi=>E k (k+1+i)).any λz=>z != 0
theorem Kc(h:beside m k E=aB):∀j,k<j->j<m->E k j=0:=λj b a=>by have:=eY.mp h (E k j) (cB.mpr ⟨j-(k+1),aX.mpr (by omega),by rw[show k+1+(j-(k+1))=j by omega]⟩);simpa using this
theorem Mv(h:∀j,k<j->j<m->E k j=0):beside m k E=aB:=eY.mpr λx a=>by obtain⟨i,b,rfl⟩:=cB.mp a;have:=aX.mp b;rw[h _ (by omega) (by omega)];simp
theorem Ga{l:List Int}{a b:Nat}(c:a<=l.length)(d:b<=l.length):Xv (iL l) (aA (a:Int)) (aA (b:Int))=iL ((l.drop a).take (b-a)):=by unfold Xv;rw[HT.sIx_nat,HT.sIx_nat,aO,dI c,dI d,<-jq,<-jo]
theorem SE{v:Nat->Int}{a b:Nat}(c:a<=b)(d:b<=w):((ZM w v).drop a).take (b-a)=(aI (b-a)).map λi=>v (a+i):=by
 apply cV;intro i;rw[List.getElem?_take];by_cases h:i<b-a
 ·rw[k8 h,eN,aQ,ak h];unfold ZM;rw[aQ,ak (by omega)];rfl
 ·rw[k9 h,bN (by simp;omega)]
theorem La{s:ZD}{f g h:XE}(d:m<=w)(j:k<m)(q:f s=aA (.lst (bL w E)))(c:g s=aA (.int (k:Int)))(e:h s=aA (.int (m:Int))):xB (Zc Rr [Wn Wz (Zi ZS f g) (Xw (Zi Z4 g (eC (.int 1)))) (Xw h)]) s=aA (beside m k E):=by
 refine xb (c1 (a:=.lst (iL ((aI (m-(k+1))).map λi=>E k (k+1+i)))) ?_ ?_)
 ·rw[Xq,Qn (by omega) q c];simp only[aY];unfold Xw;rw[DZ (a:=(k:Int)) (b:=1) c rfl,e];simp only[aY];show aA (PV.lst (Xv (iL (ZM w (E k))) (aA ((k:Int)+1)) (aA (m:Int))))=_;rw[show((k:Int)+1)=((k+1:Nat):Int) from rfl,Ga (by rw[ZI];omega) (by rw[ZI];omega),SE (by omega) d]
 ·show(X2 (iL _)).map _=_;rw[Xb];rfl
end
theorem Er{m k e a d G:Nat}{g E:Mt}(l:k<m)(h:PM.RZ m k e a d g E)(n:d+2*a+3*e+3<G):∀j,j<m+m->∃N M P,PM.Hyp m k E j N M P/\2*(N*(M+2)*P^3)<2^G:=λj o=>by
 have lt:∀{x},x<=d+2*a+3*e+3->2^x<2^G:=λ{x} p=>cM (by omega) (by omega);have col:∀i,k<=i->i<m->(E i k).natAbs<=2^a:=λi c b=>h.ab i k c b (aG _) l;by_cases q:j<m
 ·refine⟨2^a,2^a,2^e,⟨λi c b=>?_,ba,λ_=>h.pb,λz=>absurd z h.nz,.inl col⟩,ay (PM.bits3 _ _ _) (lt (by omega))⟩;by_cases f:j<k
  ·rw[(h.cr.d1 j i f b (by omega)).2];exact bq _
  ·exact h.ab i j c b (by omega) q
 ·refine⟨2^d,2^a,2^e,⟨λi c b=>?_,ba,λ_=>h.pb,λz=>absurd z h.nz,.inl col⟩,ay (PM.bits3 _ _ _) (lt (by omega))⟩;have:=h.lb i (j-m) b (by omega)
  rwa [show m+(j-m)=j by omega] at this
theorem RQ{m k e c d G:Nat}{f E:Mt}(i:m<=50)(b:k<m)(h:PM.RZ m k e c d f E)(g:d+2*c+3*e+3<G)(a:G<=60000000):∃E',ZG [.lst (bL (m+m) E),.int (m:Int),.int (k:Int)]=aA (.lst (bL (m+m) E'))/\PM.CL m k E E':=
 QR (G:=G) (by omega) (by omega) b (by omega) a (Er b h g)
theorem Es{m k e f g:Nat}{a E:Mt}{D:Int}(b:PM.Bs m a D)(h:PM.RZ m k e f g a (PM.tr E))(z:∀j,k<j->j<m->E k j=0):PM.RZ m k e f g a E:=
 ⟨h.cr.tr b,h.nz,h.pb,z,h.mb.tr,λi j c d=>h.rb j i d c,λi j c d=>h.lb j i d c⟩
abbrev D3(w m k:Nat)(B:List PV)(E:Mt):ZD:=[aA (.lst B),aA (.int (m:Int)),aA (.int (k:Int)),aA (.lst (bL w E))]
theorem U1{m k e I x G sx bx:Nat}{s l:Nat->Nat}{o E:Mt}{B:List PV}{D:Int}(b:PM.Bs m o D)(T:PM.Bv m k I s l o)(L:m<=50)(t:k<m)(he:e<=I)(Y:I<=20)(h:PM.RZ m k e (l e) x o (PM.tr E))(C:∀e,e<=I->l e<=bx/\s e<=sx)
  (hG:x+PM.f1 s e+sx+2*bx+70<G) (u:G<=60000000) :
  YF (Zn (X4 (xB (Zc Rr [Wn Wz (Zi ZS (Za 3) (Za 2)) (Xw (Zi Z4 (Za 2) (eC (.int 1)))) (Xw (Za 1))])) (Zn (Zs 3 (Zc Ym [Zc ZG [Zc Ym [Za 3],Za 1,Za 2]])) (Zs 3 (Zc ZG [Za 3,Za 1,Za 2])))) (ZT (Za 3)))
   (D3 (m+m) m k B E) λv=>∃E' e' γ',v = .lst (bL (m+m) E')/\e'<=e/\γ'+PM.f1 s e'<=x+PM.f1 s e+2*s e'/\PM.RZ m k e' (l e') γ' o E'/\PM.RZ m k e' (l e') γ' o (PM.tr E')/\((¬ ∀i,k<i->i<m->E k k∣E k i)->e'<e):=by
 refine UW (M8 (λn st=>∃d a c,st=D3 (m+m) m k B d/\((n=a+1/\a<=e/\c+PM.f1 s a<=x+PM.f1 s e/\PM.RZ m k a (l a) c o (PM.tr d)/\(a=e->d=E))\/(n=0/\a<=e/\c+PM.f1 s a<=x+PM.f1 s e+2*s a/\PM.RZ m k a (l a) c o d/\PM.RZ m k a (l a) c o (PM.tr d)/\((¬ ∀i,k<i->i<m->E k k∣E k i)->a<e)))) ⟨E,e,x,rfl,.inl ⟨rfl,aG _,aG _,h,λ_=>rfl⟩⟩ ?_) ?_
 ·rintro n st ⟨d,a,c,rfl,J⟩;have j:xB (Zc Rr [Wn Wz (Zi ZS (Za 3) (Za 2)) (Xw (Zi Z4 (Za 2) (eC (.int 1)))) (Xw (Za 1))]) (D3 (m+m) m k B d)=aA (beside m k d):=La (by omega) t rfl rfl rfl
  cases q:beside m k d with
  | false=>exact .inl (j.trans (by rw[q]))
  | true=>
   refine .inr ⟨j.trans (by rw[q]),?_⟩;rcases J with⟨rfl,f,O,g,p⟩ | ⟨_,_,_,g,_⟩
   ·have b1:=C a (by omega);obtain⟨F,X,S⟩:=RQ (G:=G) L t g (by omega) u
    have c2:∃H,ZG [.lst (bL (m+m) (PM.tr F)),.int (m:Int),.int (k:Int)]=aA (.lst (bL (m+m) H))/\PM.CL m k (PM.tr F) H:=by
     rcases PM.HV b T t (by omega) g S with⟨_,y,_⟩ | ⟨w,rfl,y,_⟩
     ·exact RQ (G:=G) L t y (by omega) u
     ·have:=C w (by omega);exact RQ (G:=G) L t y (by omega) u
    obtain⟨H,M,Q⟩:=c2;refine V3 (Zy (c1 (c3 (c1 rfl (Vx (by omega))) rfl rfl X) (Vx (by omega)))) (L8 (Zy (c3 rfl rfl rfl M)) ?_);rcases PM.turnV b T t (by omega) g S Q with⟨w,r,W,U,A,R,N⟩ | ⟨w,r,W,U,A⟩
    ·refine⟨0,by omega,H,w,r,rfl,.inr ⟨rfl,by omega,by omega,A,R,λz=>?_⟩⟩;by_cases P:a=e
     ·have:=N (by rw[p P];exact z);omega
     ·omega
    ·exact⟨w+1,by omega,H,w,r,rfl,.inl ⟨rfl,by omega,by omega,A,λz=>by omega⟩⟩
   ·exfalso;rw[Mv g.rz] at q;cases q
 ·rintro st ⟨n,⟨d,a,c,rfl,J⟩,q⟩;have j:xB (Zc Rr [Wn Wz (Zi ZS (Za 3) (Za 2)) (Xw (Zi Z4 (Za 2) (eC (.int 1)))) (Xw (Za 1))]) (D3 (m+m) m k B d)=aA (beside m k d):=La (by omega) t rfl rfl rfl;have z:=Kc (av (j.symm.trans q));rcases J with⟨rfl,f,O,g,p⟩ | ⟨_,f,O,g,y,N⟩
  ·refine XG rfl ⟨d,a,c,rfl,f,by omega,Es b g z,g,λZ=>?_⟩;refine dF f λP=>Z ?_;have e:=p P;subst e;exact λi A R=>by rw[z i A R];exact cI _
  ·exact XG rfl ⟨d,a,c,rfl,f,O,g,y,N⟩
theorem Na{w m k:Nat}{E:Mt}(b:w<=100)(c:m<=w)(d:k<m)(z:∀i,k<i->i<m->E i k=0):ZG [.lst (bL w E),.int (m:Int),.int (k:Int)]=aA (.lst (bL w E)):=by
 have nil:bw m k E=[]:=List.eq_nil_iff_forall_not_mem.mpr λx a=>by have:=mem_bw.mp a;exact this.2.2 (z x this.1 this.2.1)
 refine O0 (Z7 (Zy (c1 rfl (by rw[Rc,k8 P6]))) (Z7 (Zy (c3 rfl rfl rfl (Vw c b d))) (UW (M8 (k:=0) (λn st=>st=EE w m k E E none none none) rfl ?_) ?_)))
 ·rintro n st rfl;unfold EE;rw[nil];exact .inl rfl
 ·rintro st ⟨n,rfl,_⟩;exact XG rfl rfl
theorem Et{m k a d G:Nat}{l E:Mt}(f:k<m)(h:PM.Pl m k a d l E)(o:d+5*a+3<G):∀j,j<m+m->∃N M P,PM.Hyp m k E j N M P/\2*(N*(M+2)*P^3)<2^G:=λj p=>by
 have lt:∀{x},x<=d+5*a+3->2^x<2^G:=λ{x} r=>cM (by omega) (by omega);have col:∀i,k<=i->i<m->(E i k).natAbs<=2^a:=λi c b=>h.ab i k c b (aG _) f;have e:∀N,PM.Bo m k j N E->PM.Hyp m k E j N (2^a) (2^a):=λN n=>⟨n,ba,λ_=>col k (aG _) f,λ_ i c b=>col i (by omega) b,.inl col⟩;by_cases q:j<m
 ·refine⟨2^a,2^a,2^a,e _ λi c b=>?_,ay (PM.bits3 _ _ _) (lt (by omega))⟩;by_cases g:j<k
  ·rw[(h.cr.d1 j i g b (by omega)).2];exact bq _
  ·exact h.ab i j c b (by omega) q
 ·refine⟨2^d,2^a,2^a,e _ λi c b=>?_,ay (PM.bits3 _ _ _) (lt (by omega))⟩;have:=h.lb i (j-m) b (by omega)
  rwa [show m+(j-m)=j by omega] at this
structure DD(m k a e0 sf sx bx:Nat)(s β:Nat->Nat)(A0 E:Mt)(D:Int):Prop where
 bs:PM.Bs m A0 D
 bd:PM.Bv m k e0 s β A0
 m5:m<=50
 km:k<m
 e17:e0<=20
 b8:∀e,e<=e0->β e<=bx/\s e<=sx
 a5:7*a+6<=β e0
 a4:4*a+3<=sf
 small:sf+sx+sx+sx+2*bx+PM.f2 s e0<=28500000
 pb:∀E',PM.CL m k E E'->(E' k k).natAbs<=2^e0
section
variable {m k a e0 γ sf sx bx:Nat} {s β:Nat->Nat} {A0 E:Mt} {D:Int}
theorem Qp(P:DD m k a e0 sf sx bx s β A0 E D)(h:PM.Pl m k a γ A0 E)(u:γ<=31000000) :
  ∃d c b,YG [.lst (bL (m+m) E),.int (m:Int),.int (k:Int)]=aA (.lst (bL (m+m) d))/\c<=e0/\b+PM.f1 s c<=γ+sf+PM.f1 s e0+2*s c/\PM.RZ m k c (β c) b A0 d/\PM.RZ m k c (β c) b A0 (PM.tr d):=by
 have l:=P.m5;have f:=P.km;have y:=P.a5;have x:=P.a4;have i:=P.e17;have H:=P.b8 e0 (aG _);have F:=P.small;have C:=PM.f2_ge s e0;obtain⟨q,n,e⟩:=QR (w:=m+m) (G:=60000000) (by omega) (by omega) f (by omega) (by omega) (Et f h (by omega));have r:=PM.Pl.first (s:=sf) P.bs f h e (P.pb q e) y x;have g:=U1 (G:=60000000) (sx:=sx) (bx:=bx) (B:=bL (m+m) E) P.bs P.bd l f (aG e0) i r P.b8 (by omega) (by omega);have j:YF X5 (ZL 4 [.lst (bL (m+m) E),.int (m:Int),.int (k:Int)]) _:=Z7 (Zy (c3 rfl rfl rfl n)) g;obtain⟨v,t,d,c,b,rfl,A,p,z,o,_⟩:=T5 j;exact⟨d,c,b,t,A,p,z,o⟩
theorem Qq{e:Nat}(P:DD m k a e0 sf sx bx s β A0 E D){d:Mt}(n:e<=e0)(r:PM.RZ m k e (β e) γ A0 (PM.tr d))(j:γ+PM.f1 s e+sx+2*bx+70<60000000) :
  ∃f c b,YG [.lst (bL (m+m) d),.int (m:Int),.int (k:Int)]=aA (.lst (bL (m+m) f))/\c<=e/\b+PM.f1 s c<=γ+PM.f1 s e+2*s c/\PM.RZ m k c (β c) b A0 f/\PM.RZ m k c (β c) b A0 (PM.tr f)/\((¬ ∀i,k<i->i<m->d k k∣d k i)->c<e):=by
 have p:=P.m5;have l:=P.km;have h:=P.e17;have z:=P.small;have y:=PM.f2_ge s e0;have x:=PM.f1_mono s n;have g:=U1 (G:=60000000) (sx:=sx) (bx:=bx) (B:=bL (m+m) d) P.bs P.bd p l n h r P.b8 j (by omega);have o:YF X5 (ZL 4 [.lst (bL (m+m) d),.int (m:Int),.int (k:Int)]) _:=Z7 (Zy (c3 rfl rfl rfl (Na (w:=m+m) (by omega) (by omega) l λi t q=>r.rz i t q))) g;obtain⟨v,u,f,c,b,rfl,Yh⟩:=T5 o;exact⟨f,c,b,u,Yh⟩
noncomputable def Eu(m k:Nat)(E:Mt)(i:Nat):Bool:=((aI m).map λj=>!decide ((E i j).fmod (E k k)=0)).any id
theorem Gb{i:Nat}(h:Eu m k E i=aB):∀j,j<m->E k k∣E i j:=λj a=>by have:=eY.mp h (!decide ((E i j).fmod (E k k)=0)) (cB.mpr ⟨j,aX.mpr a,rfl⟩);exact Int.dvd_of_fmod_eq_zero (by simpa using this)
theorem J2{i:Nat}(h:Eu m k E i=aC):∃j,j<m/\¬E k k∣E i j:=by obtain⟨b,c,a⟩:=dy.mp h;obtain⟨j,d,rfl⟩:=cB.mp c;refine⟨j,aX.mp d,λz=>?_⟩;have:=Int.fmod_eq_zero_of_dvd z;simp[this] at a
theorem Nc{w:Nat}(p:w<=100)(h:m<=w)(r:k<m)(n:E k k≠0):∃v,XU [.lst (bL w E),.int (m:Int),.int (k:Int)]=aA v/\((v = .non/\∀i j,k<i->i<m->j<m->E k k∣E i j)\/(∃u:Nat,v = .int (u:Int)/\k<u/\u<m/\∃j,j<m/\¬E k k∣E u j)):=by
 refine T5 (Z7 (Zy (ep (U0 (by omega) (by omega) rfl rfl rfl))) (Dx (L:=(aI (m-(k+1))).map λi=>k+1+i) (q:=λ(i:Nat)=>PV.int (i:Int)) (g:=λ(i:Nat)=>PV.int (i:Int)) (Eu m k E) (λs=>∃x,s=[aA (.lst (bL w E)),aA (.int (m:Int)),aA (.int (k:Int)),aA (.int (E k k)),x]) ?_ ⟨none,rfl⟩ ?_ ?_ ?_))
 ·rw[VH (i:=(k:Int)+1) (j:=(m:Int)) (DZ rfl rfl) rfl (by omega) (by omega)];unfold Wx;rw[cH,show((m:Int)-((k:Int)+1)).toNat=m-(k+1) by omega];congr 1
 ·rintro i c s ⟨x,rfl⟩;obtain⟨t,d,rfl⟩:=cB.mp c;have:=aX.mp d;refine⟨_,rfl,xb (c1 (a:=.lst (((aI m).map λj=>!decide ((E (k+1+t) j).fmod (E k k)=0)).map PV.bl)) ?_ (F9 _)),ret (vP rfl),⟨_,rfl⟩⟩;rw[cH];refine Z9 (aI m) (λj=>PV.int (E (k+1+t) j)) _ ?_ (by simp;omega) λj y=>⟨_,rfl,rfl,o2 (vC (C:=λ_ j=>j≠0) (op:=Int.fmod) rfl rfl n) rfl (by rw[Pj];rfl)⟩;show(Wn Wz (Zi ZS (Za 0) (Za 4)) VD (Xw (Za 1)) _).bind _=_;rw[Xq,Qn (i:=k+1+t) (E:=E) (w:=w) (by omega) rfl rfl];simp only[aY,Ph];show(aA (PV.lst (Xv (iL (ZM w (E (k+1+t)))) none (aA (m:Int))))).bind _=_;rw[Mg];show aA (iL ((ZM w (E (k+1+t))).take m))=_;have:=SE (w:=w) (v:=E (k+1+t)) (a:=0) (b:=m) (by omega) h;rw[gH,gx] at this;rw[this];show aA (gj PV.int (gj _ _))=_;rw[cH];congr 1;refine bD λi _=>?_;show PV.int (E (k+1+t) (0+i))=_;rw[Nat.zero_add]
 ·intro i c;have f:=List.mem_of_find?_eq_some c;have e:=List.find?_some c;obtain⟨t,d,rfl⟩:=cB.mp f;have:=aX.mp d;exact .inr ⟨_,rfl,by omega,by omega,J2 e⟩
 ·rintro l s ⟨x,rfl⟩;refine XG rfl (.inl ⟨rfl,λi j f e o=>Gb ?_ j o⟩);have:=List.find?_eq_none.mp l i (cB.mpr ⟨i-(k+1),aX.mpr (by omega),by omega⟩);simpa using this
theorem Kd{e b c:Nat}{l E:Mt}{G u:Nat}(h:PM.RZ m k e b c l E)(d:b<G)(n:c<G)(f:k<=u)(a:u<m):∀j,j<m+m->(E u j).natAbs<2^G:=λj o=>by
 have lt:∀{x},x<G->2^x<2^G:=λ{x} i=>cM (by omega) i;by_cases q:j<m
 ·by_cases g:j<k
  ·rw[(h.cr.d1 j u g a (by omega)).2];exact Nat.pow_pos (by omega)
  ·exact ay (h.ab u j f a (by omega) q) (lt d)
 ·have:=h.lb u (j-m) a (by omega);rw[show m+(j-m)=j by omega] at this;exact ay this (lt n)
theorem P7(P:DD m k a e0 sf sx bx s β A0 E D)(h:PM.Pl m k a γ A0 E)(hγ:γ<=31000000)(f:Nat)(A:∀e,e<=e0->β e<=f) :
  ∃o c,YR [.lst (bL (m+m) E),.int (m:Int),.int (k:Int)]=aA (.lst (bL (m+m) o))/\c<=γ+sf+2*sx+PM.f2 s e0/\PM.Pl m (k+1) f c A0 o:=by
 have m5:=P.m5;have F:=P.km;have e17:=P.e17;obtain⟨Z,U,B,v1,S,g1,l,p⟩:=Qp P h (by omega);obtain⟨x1,w1,N⟩:=Nc (w:=m+m) (E:=Z) (by omega) (by omega) F l.nz
 suffices g:YF UR (ZL 5 [.lst (bL (m+m) E),.int (m:Int),.int (k:Int)]) λv=>∃o c,v = .lst (bL (m+m) o)/\c<=γ+sf+2*sx+PM.f2 s e0/\PM.Pl m (k+1) f c A0 o by obtain⟨v,e,o,c,rfl,r⟩:=T5 g;exact⟨o,c,e,r⟩
 have sm:=P.small;have base:B+PM.f2 s U<=γ+sf+2*sx+PM.f2 s e0:=by have:=PM.f2_le s S;have:=(P.b8 U S).2;omega
 refine Z7 (Zy (c3 rfl rfl rfl v1)) (Z7 (Zy (c3 rfl rfl rfl w1)) (UW (M8 (λn st=>∃b d x,st=[aA (.lst (bL (m+m) E)),aA (.int (m:Int)),aA (.int (k:Int)),aA (.lst (bL (m+m) b)),aA x]/\n<=e0/\d+PM.f2 s n<=γ+sf+2*sx+PM.f2 s e0/\PM.RZ m k n (β n) d A0 b/\PM.RZ m k n (β n) d A0 (PM.tr b)/\((x = .non/\∀i j,k<i->i<m->j<m->b k k∣b i j)\/(∃u:Nat,x = .int (u:Int)/\k<u/\u<m/\∃j,j<m/\¬b k k∣b u j))) ⟨Z,B,x1,rfl,S,base,l,p,N⟩ ?_) ?_))
 ·rintro n st ⟨b,d,x,rfl,H,hg,l,p,M⟩;rcases M with⟨rfl,_⟩ | ⟨u,rfl,T,C,j,t,nd⟩
  ·exact .inl rfl
  ·refine .inr ⟨rfl,?_⟩;have b8:=P.b8 n H;have fg:=PM.f2_ge s n;have O:=Kd (G:=60000000) l (by omega) (by omega) (by omega) C;have lo:Ts [cR (m+m) (b k),cR (m+m) (b u),.int 1]=aA (.lst (iL (ZM (m+m) λj=>b k j-1*b u j))):=M9 (by omega) λj t=>JZ (G:=60000000) (by show 1<2^60000000;exact Nat.one_lt_two_pow (by omega)) (O j t) (by omega) (by omega);have r3:=l.unfit P.bs F p T C
   have eE:ZU k (λj=>b k j-1*b u j) b=λi j=>if i=k then b i j-1*b u j else b i j:=by
    funext i;unfold ZU;by_cases q:i=k
    ·rw[k8 q];funext j;rw[k8 q,q]
    ·rw[k9 q];funext j;rw[k9 q]
   obtain⟨E3,Y,Q,v3,l3,g3,W,r5,d3⟩:=Qq P H r3 (by omega)
   have less:Y<n:=d3 λz=>by
    have uk:b u k=0:=p.rz u T C
    have X:k<j:=by
     refine Nat.not_le.mp λle=>nd ?_;by_cases q:j=k
     ·rw[q,uk];exact cI _
     ·rw[(l.cr.d1 j u (by omega) C (by omega)).2];exact cI _
    have:=z j X t;simp only[k8] at this;rw[uk,l.rz j X t] at this;refine nd ?_;have h2:b k k∣-(1*b u j):=by simpa using this
    simpa using Int.dvd_neg.mp h2
   have st:=PM.f2_step s less;obtain⟨x3,w3,L⟩:=Nc (w:=m+m) (E:=E3) (by omega) (by omega) F W.nz;refine V3 (O9 (w:=m+m) (E:=b) (v:=λj=>b k j-1*b u j) (by omega) rfl (TX (c3 (Qn (by omega) rfl rfl) (Qn (by omega) rfl rfl) rfl lo)) rfl) (V3 (Zy (c3 rfl rfl rfl ?_)) (L8 (Zy (c3 rfl rfl rfl w3)) ⟨Y,less,E3,Q,x3,rfl,by omega,by omega,W,r5,L⟩));rw[eE];exact v3
 ·rintro st ⟨n,⟨b,d,x,rfl,H,hg,l,p,M⟩,q⟩;rcases M with⟨rfl,dv⟩ | ⟨u,rfl,_⟩
  case inr=>cases q
  have nx:=l.next F p dv;have J:PM.Pl m (k+1) f d A0 (λi j=>if i=k/\b k k<0 then-b i j else b i j):=⟨nx.cr,nx.mb.up (PM.pw2 (A n H)),nx.lb,nx.rb⟩;have I:xB (Zi GC (Zi ZS (Zi ZS (Za 3) (Za 2)) (Za 2)) (eC (.int 0))) [aA (.lst (bL (m+m) E)),aA (.int (m:Int)),aA (.int (k:Int)),aA (.lst (bL (m+m) b)),aA .non]=aA (decide (b k k<0)):=xb (o2 (U0 (by omega) (by omega) rfl rfl rfl) rfl rfl);refine UW (R:=λs=>s=[aA (.lst (bL (m+m) E)),aA (.int (m:Int)),aA (.int (k:Int)),aA (.lst (bL (m+m) (λi j=>if i=k/\b k k<0 then-b i j else b i j))),aA .non]) (GS I (λz=>?_) λz=>?_) ?_
  ·have z:=of_decide_eq_true z;refine L8 (O9 (w:=m+m) (E:=b) (v:=λj=>- b k j) (by omega) rfl (TX (W3 (q:=λj=>.int (b k j)) (λj=>- b k j) ?_ (by omega) λj t=>⟨_,rfl,vP (C7 rfl rfl)⟩)) rfl) ?_
   ·show(Zi ZS (Za 3) (Za 2) _).bind _=_;rw[Qn (i:=k) (E:=b) (w:=m+m) (by omega) rfl rfl];show aA (gj PV.int (gj (b k) (aI (m+m))))=_;rw[cH];rfl
   ·show [_,_,_,aA (PV.lst (bL (m+m) (ZU k (λj=>- b k j) b))),_]=_;rw[show ZU k (λj=>- b k j) b=λi j=>if i=k/\b k k<0 then-b i j else b i j from ?_];funext i;unfold ZU;by_cases q:i=k
    ·rw[k8 q];funext j;rw[k8 ⟨q,z⟩,q]
    ·rw[k9 q];funext j;rw[k9 (λy=>q y.1)]
  ·have z:=of_decide_eq_false z;refine L8 rfl ?_;rw[show(λi j=>if i=k/\b k k<0 then-b i j else b i j)=b from funext λi=>funext λj=>k9 (λy=>z y.2)]
  ·rintro s rfl;exact XG rfl ⟨_,d,rfl,by omega,J⟩
end
noncomputable def E0(m:Nat)(A:Mt):Mt:=λi j=>if i<m then(if j<m then A i j else PM.one i (j-m)) else(if j<m then PM.one (i-m) j else 0)
theorem Ew{a b:Nat}(u v:Nat->Int):ZM a u++ZM b v=ZM (a+b) λj=>if j<a then u j else v (j-a):=by
 apply cV;intro i;unfold ZM;by_cases h:i<a
 ·rw[ar (by simpa using h),aQ,aQ,ak h,ak (by omega)];show aA (u i)=aA (if i<a then u i else v (i-a));rw[k8 h]
 ·rw[bK (by simp;omega),aO,bY,aQ,aQ];by_cases c:i<a+b
  ·rw[ak (by omega),ak c];show aA (v (i-a))=aA (if i<a then u i else v (i-a));rw[k9 h]
  ·rw[bN (by simp;omega),bN (by simp;omega)];rfl
theorem J3{a b:Nat}{u v:Nat->Int}(h:a+b<=100):S8 (.lst (iL (ZM a u))) (.lst (iL (ZM b v)))=aA (.lst (iL (ZM (a+b) λj=>if j<a then u j else v (j-a)))):=by unfold S8;simp only[];rw[k8 ⟨by rw[aO,aO,ZI,ZI];omega,Yi _,Yi _⟩,<-dZ,Ew]
theorem T7{m i:Nat}(a:m<=100):WC [.int (m:Int),.int (i:Int)]=aA (.lst (iL (ZM m (PM.one i)))):=by
 refine YM (ret (TQ (PM.one i) (Yj rfl (by omega)) (by omega) λj b=>⟨_,rfl,rfl,vP ?_⟩));unfold PM.one;by_cases q:i=j
 ·rw[k8 q];exact JR (xb ((JQ rfl rfl).trans (by rw[decide_eq_true (by omega)]))) rfl
 ·rw[k9 q];exact JS (xb ((JQ rfl rfl).trans (by rw[decide_eq_false (by omega)]))) rfl
theorem DE{m:Nat}(a:m<=100):OE (.lst [.int 0]) (.int (m:Int))=aA (.lst (iL (ZM m λ_=>0))):=by
 unfold OE;simp only[];rw[k8 (by refine⟨?_,?_,?_,?_⟩<;>first | rfl | omega | (simp;omega))];congr 2;apply cV;intro i;unfold ZM;by_cases h:i<m
 ·simp[h]
 ·simp[h]
theorem Nd{m:Nat}{A:Mt}(f:m<=50):Uc [wP (Yq m m A)]=aA (.lst (bL (m+m) (E0 m A))):=by
 have up:∀i,i<m->cR (m+m) (E0 m A i) = .cst (iL (ZM (m+m) λj=>if j<m then A i j else PM.one i (j-m))):=λi b=>by unfold cR E0;simp only[k8 b]
 have lo:∀i,i<m->cR (m+m) (E0 m A (m+i)) = .cst (iL (ZM (m+m) λj=>if j<m then PM.one i j else 0)):=λi b=>by unfold cR E0;rw[show m+i-m=i by omega];simp only[k9 (show ¬m+i<m by omega)]
 have c:bL (m+m) (E0 m A)=(aI m).map (λi=>cR (m+m) (E0 m A i))++(aI m).map λi=>cR (m+m) (E0 m A (m+i)):=by unfold bL;rw[jj,dZ,cH];rfl
 have d:∀(g:Nat->Nat->Int),ZC ((aI m).map λi=>cR (m+m) (g i))=aC:=λg=>by rw[YW,aq];intro x e;obtain⟨i,_,rfl⟩:=cB.mp e;exact W4 _
 refine O0 (Z7 (Zy (vP (c1 rfl (by rw[O1,UX])))) (Z7 (Zy (Z9 (aI m) (λi=>.tup [.int ((i:Nat):Int),pP (ZM m (A i))]) (λi=>cR (m+m) (E0 m A i)) ?_ (by simp;omega) λi b=>⟨_,rfl,rfl,ep ?_ (W4 _)⟩)) (Z7 (Zy (Z9 (aI m) (λ(i:Nat)=>PV.int (i:Int)) (λi=>cR (m+m) (E0 m A (m+i))) (Yj rfl (by omega)) (by simp;omega) λi b=>⟨_,rfl,rfl,ep ?_ (W4 _)⟩)) (XG (o2 rfl rfl ?_) rfl))))
 ·show aA (W7 (tL (Yq m m A)))=_;rw[Vm,We];congr 1;refine bD λi b=>?_;rw[aM,Uq (aX.mp b)];rfl
 ·rw[up i (aX.mp b)];exact TX (o2 (a:=.lst (iL (ZM m (A i)))) (c1 rfl (by rw[OG,k8 (Yi _)])) (c2 rfl rfl (T7 (by omega))) (J3 (by omega)))
 ·rw[lo i (aX.mp b)];exact TX (o2 (c2 rfl rfl (T7 (by omega))) (o2 rfl rfl (DE (by omega))) (J3 (by omega)))
 ·unfold S8;simp only[];rw[k8 ⟨by simp;omega,d _,d _⟩,c]
theorem CM(m:Nat)(A:Mt):PM.Adm m A (E0 m A):=by
 have e:PM.EqM m (λi k=>E0 m A i (m+k)) PM.one:=λi j b a=>by show E0 m A i (m+j)=_;unfold E0;rw[k8 b,k9 (by omega),show m+j-m=j by omega]
 have d:PM.EqM m (λi k=>E0 m A (m+i) k) PM.one:=λi j b a=>by show E0 m A (m+i) j=_;unfold E0;rw[k9 (by omega),k8 a,show m+i-m=i by omega]
 have c:PM.EqM m (PM.mul m PM.one PM.one) PM.one:=λi j b a=>PM.mul_one a;refine⟨⟨PM.one,PM.one,e.mulL.trans c,e.mulR.trans c,d.mulL.trans c,d.mulR.trans c⟩,λi j b a=>?_,λi j b a=>?_⟩
 ·rw[e.mulL i j b a,PM.one_mul b,d.mulR i j b a,PM.mul_one a];unfold E0;rw[k8 b,k8 a]
 ·unfold E0;rw[k9 (by omega),k9 (by omega)]
theorem Lb(i j:Nat):(PM.one i j).natAbs<=2^0:=by unfold PM.one;split<;>decide
theorem Bq{m:Nat}{A:Mt}(c:m<=6)(h:∀i j,i<m->j<m->(A i j).natAbs<=2^6):PM.Pl m 0 46 0 A (E0 m A):=by
 refine⟨⟨CM m A,λi _ a=>by omega,λi a=>by omega,λi _ _ a=>by omega⟩,?_,λi j a b=>?_,λi j a b=>?_⟩
 ·refine(PM.Mn.ent (n:=6) (B:=2^6) (by decide) (by omega) λi j _ a _ b=>?_).up (show PM.fct 6*(2^6)^6<=2^46 by decide);unfold E0;rw[k8 a,k8 b];exact h i j a b
 ·unfold E0;rw[k8 a,k9 (by omega)];exact Lb _ _
 ·unfold E0;rw[k9 (by omega),k8 b];exact Lb _ _
section
variable {W:List (List Int)} {m:Nat}
theorem J4(ok:Yn W)(d:TN W)(h:W.length<=7)(l:W.length=m+1):PM.Bs m (Zz W 0) (ZH m (Zz W 0)):=by
 have bk:=P4 ok d (b:=0) ok.pos (λ_=>0);rw[show W.length-1=m by omega] at bk;have I:=YI bk (aG m);refine⟨λi j c a=>bk.sym j i a c,⟨PM.tr (Kl m (Zz W 0)),λi j c a=>?_⟩,?_,?_⟩
 ·have e:=MW (A:=Zz W 0) a c;show sN m (λk=>Kl m (Zz W 0) k i*Zz W 0 k j)=_;rw[Zj (g:=λk=>Zz W 0 j k*Kl m (Zz W 0) k i) λk f=>by rw[bA,bk.sym k j f a],e];unfold PM.one;by_cases q:i=j
  ·rw[k8 q.symm];show _=ZH m (Zz W 0)*(if i=j then 1 else 0);rw[k8 q,dU]
  ·rw[k9 (λz=>q z.symm)];show _=ZH m (Zz W 0)*(if i=j then 1 else 0);rw[k9 q,bQ]
 ·rw[<-I.de];exact I.nz
 ·omega
theorem o0(i:Nat):YJ 0 i=i+1:=by unfold YJ;rw[k9 (by omega)]
theorem J5{W:List (List Int)}(ok:Yn W)(m:TN W)(r:2<=W.length):1<=(Zu W 0).sum:=by
 have c:=ok.pos;rw[VR ok c,XX];refine cC λh=>?_;have h:¬1<=sN W.length (ent W 0):=h
 have z:∀j,j<W.length->ent W 0 j=0:=λj d=>by
  have e:=Z3 (n:=W.length) (f:=λi=>if i=j then ent W 0 j else 0) d λi _ ne=>k9 ne
  have l:=Y4 (n:=W.length) (f:=λi=>ent W 0 i+(-1)*(if i=j then ent W 0 j else 0)) λi p=>by
   have:=ok.lo 0 i c p;split
   ·rename_i q;subst q;omega
   ·omega
  rw[Yk,ZJ,e,k8 rfl] at l;have:=ok.lo 0 j c d;omega
 have:=(m (· = 0) (λa b k o g=>⟨λq=>by rw[q,z b o] at g;omega,λq=>by rw[q,ok.sym a 0 k c,z a k] at g;omega⟩) 1 0 (by omega) c).mpr rfl;omega
theorem Nf(ok:Yn W)(a:TN W)(c:2<=W.length):sN (W.length-1) (λi=>Zz W 0 i i)<=2*((V2 W).length:Int)-1:=by
 have j:=J5 ok a c;have t:=OX ok;rw[XX] at t;have e:=Mj (m:=W.length-1) (b:=0) (f:=λh=>if h=0 then 0 else(Zu W h).sum) (k8 rfl) (by omega);rw[show W.length-1+1=W.length by omega] at e
 have l:sN (W.length-1) (λi=>Zz W 0 i i)=sN W.length λh=>if h=0 then 0 else(Zu W h).sum:=by
  rw[e];exact Zj λi _=>by unfold Zz;rw[k8 rfl,o0,k9 (by omega)]
 have d:=Z3 (n:=W.length) (f:=λh=>if h=0 then(Zu W 0).sum else 0) (k:=0) ok.pos λi _ ne=>k9 ne
 have g:sN W.length (λh=>(Zu W h).sum)=sN W.length (λh=>(if h=0 then 0 else(Zu W h).sum)+if h=0 then(Zu W 0).sum else 0):=Zj λi _=>by
  split
  ·rename_i q;rw[q];omega
  ·omega
 rw[g,Yk,d,k8 rfl] at t;omega
theorem J6(ok:Yn W)(a:W.length=m+1):∀i,i<m->0<=Zz W 0 i i:=λi b=>by unfold Zz;rw[k8 rfl,VR ok (by rw[a];exact YS b),XX];exact Y4 λj c=>ok.lo _ _ (by rw[a];exact YS b) c
theorem GW(ok:Yn W)(a:TN W)(c:W.length=m+1)(j:(V2 W).length<=28):∀i,i<m->Zz W 0 i i<=55:=λi g=>by
 have d:=Nf ok a (by omega);rw[show W.length-1=m by omega] at d;have h:=J6 ok c;have e:=Z3 (n:=m) (f:=λx=>if x=i then Zz W 0 i i else 0) g λx _ ne=>k9 ne
 have l:=Y4 (n:=m) (f:=λx=>Zz W 0 x x+(-1)*(if x=i then Zz W 0 i i else 0)) λx b=>by
  have:=h x b;split
  ·rename_i z;subst z;omega
  ·omega
 rw[Yk,ZJ,e,k8 rfl] at l;omega
theorem GX(ok:Yn W)(f:TN W)(d:W.length=m+1)(g:(V2 W).length<=28):∀i j,i<m->j<m->(Zz W 0 i j).natAbs<=55:=λi j a h=>by
 have e:YJ 0 i<W.length:=by have:=YS (b:=0) a;omega
 have c:YJ 0 j<W.length:=by have:=YS (b:=0) h;omega
 by_cases q:YJ 0 j=YJ 0 i
 ·rw[show j=i from HU q];have:=J6 ok d i a;have:=GW ok f d g i a;omega
 ·unfold Zz;rw[k9 q];have:=ok.lo _ _ e c;have:=ok.hi _ _ e c;omega
theorem Br:∀x,x<56->x^12<=2^(2*x+21):=by decide +kernel
theorem DF{A:Mt}:∀{m:Nat},(∀i,i<m->0<=A i i/\A i i<=55)->∃s:Nat,sN m (λi=>A i i)=(s:Int)/\(O8 A m).natAbs^12<=2^(2*s+21*m)
 | 0,_=>⟨0,rfl,show(1:Int).natAbs^12<=2^(2*0+21*0) by decide⟩
 | m+1,h=>by
  obtain⟨s,e,l⟩:=DF (m:=m) λi b=>h i (by omega);have a:=h m (by omega);refine⟨s+(A m m).natAbs,?_,?_⟩
  ·show sN m (λi=>A i i)+A m m=_;rw[e];omega
  ·show(O8 A m*A m m).natAbs^12<=_;rw[bV,Nat.mul_pow];refine aS (bc l (Br (A m m).natAbs (by omega))) ?_;rw[<-eV];exact PM.pw2 (by omega)
theorem C9(ok:Yn W)(f:TN W)(e:W.length=m+1)(v:W.length<=7)(p:(V2 W).length<=28):(ZH m (Zz W 0)).natAbs<=2^20:=by
 have n:=ok.pos;have a:W.length-1=m:=by omega
 by_cases z:m=0
 ·subst z;show(1:Int).natAbs<=_;decide
 have bk:=P4 ok f (b:=0) n (λ_=>0);rw[a] at bk;have I:=YI bk (aG m)
 obtain⟨S,u⟩:=Ms bk (λi j c B ne=>by
  unfold Zz;rw[o0,o0,k9 (by omega)];have:=ok.lo (i+1) (j+1) (by omega) (by omega)
  omega) (λi c=>by
  have g:=Ml ok n (Y:=λh=>if h=0 then 0 else 1) (k8 rfl) (k:=i) (by omega);rw[a,Zj (g:=Zz W 0 i) λj _=>by rw[o0,k9 (by omega),dU]] at g
  have:0<=sN W.length λh=>(-1)*(ent W (YJ 0 i) h*((if h=0 then 0 else 1)-(if YJ 0 i=0 then 0 else 1))):=Y4 λh q=>by
   have:=ok.lo (YJ 0 i) h (by rw[e];exact YS c) q;rw[o0] at this ⊢;rw[k9 (show ¬i+1=0 by omega)];split
   ·rw[Int.zero_sub,fO,dU];omega
   ·simp
  rw[ZJ] at this;have g:(sN W.length λh=>ent W (YJ 0 i) h*((if h=0 then(0:Int) else 1)-(if YJ 0 i=0 then 0 else 1))) = - sN m (Zz W 0 i):=g;omega) (J6 ok e) (aG m)
 have d:=Nf ok f (by omega);rw[a] at d;obtain⟨s,r,l⟩:=DF (A:=Zz W 0) (m:=m) λi c=>⟨J6 ok e i c,GW ok f e p i c⟩;rw[r] at d;rw[I.de] at u;have o:0<ZH m (Zz W 0):=by rw[<-I.de];exact S.dp
 refine gG.mp λt=>?_;have x:(2^20)^12<=(O8 (Zz W 0) m).natAbs^12:=fW (by omega) 12;have w:2^(2*s+21*m)<=2^236:=PM.pw2 (by omega);have y:(2^236:Nat)<(2^20)^12:=by decide
 omega
theorem Gd{k a e:Nat}{c E:Mt}{D:Int}(b:PM.Bs m c D)(p:D.natAbs<=2^20)(l:k+1=m)(h:PM.Pl m k a e c E):PM.Pl m k 20 e c E:=by refine⟨h.cr,?_,h.lb,h.rb⟩;have d:=(h.cr.piv b (by omega) λi g f=>by omega).2;have:=dc (by have:=b.nz;omega) (bh.mpr d);refine(PM.Mn.ent (n:=1) (B:=2^20) (by decide) (by omega) λi j g f q o=>?_).up (show PM.fct 1*(2^20)^1<=2^20 by decide);rw[show i=k by omega,show j=k by omega];omega
noncomputable def aK:Nat->Nat
 | 0=>46
 | 1=>500
 | 2=>4900
 | 3=>36000
 | 4=>254000
 | _=>1800000
noncomputable def gK:Nat->Nat
 | 0=>0
 | 1=>50000
 | 2=>470000
 | 3=>3470000
 | 4=>24470000
 | 5=>30870000
 | _=>30920000
theorem Ge{k a c bx:Nat}{g E:Mt}{D:Int}(b:PM.Bs m g D)(i:k<m)(d:c<=20)(l:7*a+6+PM.ad c<=bx)(n:4*a+3+3*(bx+63)+2*bx+c*(4*(bx+63)+1)<=28500000)(j:∀E',PM.CL m k E E'->(E' k k).natAbs<=2^c) :
  DD m k a c (4*a+3) (bx+63) bx (PM.sB (PM.be (7*a+6) c)) (PM.be (7*a+6) c) g E D/\PM.f2 (PM.sB (PM.be (7*a+6) c)) c<=c*(4*(bx+63)+1):=by
 have o:=b.m7;have be:∀e,e<=c->PM.be (7*a+6) c e<=bx/\PM.sB (PM.be (7*a+6) c) e<=bx+63:=λe h=>by unfold PM.sB PM.be;omega
 have f:=PM.f2_top λe d=>(be e d).2;exact⟨⟨b,PM.Bv.gen b,by omega,i,d,be,by unfold PM.be;omega,aG _,by omega,j⟩,f⟩
theorem Lc{k a:Nat}{d E:Mt}{D:Int}(b:PM.Bs m d D)(c:k<m)(g:m<=k+2)(h:D.natAbs<=2^20)(j:a<=300000)(i:∀E',PM.CL m k E E'->(E' k k).natAbs<=2^20) :
  DD m k a 20 (4*a+3) (7*a+6+273) (7*a+6+210) (PM.sB (PM.bE (7*a+6))) (PM.bE (7*a+6)) d E D:=by
 have l:=b.m7;have f:=PM.f2_end (7*a+6);exact⟨b,PM.Bv.end b c h g,by omega,c,by omega,λe n=>by unfold PM.sB PM.bE;split<;>omega,by unfold PM.bE;rw[k8 (by omega)];exact aG _,aG _,by omega,i⟩
theorem J7{k u:Nat}{t E:Mt}{D:Int}(b:PM.Bs m t D)(v:D.natAbs<=2^20)(L:m<=6)(n:k<m)(I:k=0->∀i j,i<m->j<m->(E i j).natAbs<=2^6)(h:PM.Pl m k (aK k) u t E)(y:u<=gK k) :
  ∃g d,YR [.lst (bL (m+m) E),.int (m:Int),.int (k:Int)]=aA (.lst (bL (m+m) g))/\d<=gK (k+1)/\PM.Pl m (k+1) (aK (k+1)) d t g:=by
 have kk:k=0\/k=1\/k=2\/k=3\/k=4\/k=5:=by omega
 have l:u<=31000000:=by rcases kk with r | r | r | r | r | r<;>subst r<;>exact aS y (by decide)
 have q:∀{a},PM.Pl m k a u t E->∀g,PM.CL m k E g->(g k k).natAbs<=2^20:=λ{a} h g c=>aS (h.small b n c λi H x=>h.ab i k H x (aG _) n).2 v;have c:(k+1=m)\/(k+2=m)\/(k+3<=m):=by omega
 rcases c with c | c | c
 ·have A:=Gd b v c h;have P:=Lc b n (by omega) v (a:=20) (by omega) (q A)
  obtain⟨g,d,p,B,s⟩:=P7 P A l (aK (k+1)) λe _=>by
   have:PM.bE (7*20+6) e<=210:=by unfold PM.bE;split<;>omega
   refine aS this ?_;rcases kk with r | r | r | r | r | r<;>subst r<;>decide
  have f:=PM.f2_end (7*20+6);refine⟨g,d,p,?_,s⟩;have:gK k+50000<=gK (k+1):=by rcases kk with r | r | r | r | r | r<;>subst r<;>decide
  omega
 ·have J:aK k<=254000/\7*aK k+6<=aK (k+1)/\210<=aK (k+1)/\gK k+25*aK k+24000<=gK (k+1):=by
   have kk:k=0\/k=1\/k=2\/k=3\/k=4:=by omega
   rcases kk with r | r | r | r | r<;>subst r<;>decide
  have P:=Lc b n (by omega) v (a:=aK k) (by omega) (q h);obtain⟨g,d,p,B,s⟩:=P7 P h l (aK (k+1)) λe _=>by unfold PM.bE;split<;>omega
  have f:=PM.f2_end (7*aK k+6);exact⟨g,d,p,by omega,s⟩
 ·have w:∀o,o<=20->7*aK k+6+PM.ad o<=aK (k+1)->4*aK k+3+3*(aK (k+1)+63)+2*aK (k+1)+o*(4*(aK (k+1)+63)+1)<=28500000->gK k+(4*aK k+3)+2*(aK (k+1)+63)+o*(4*(aK (k+1)+63)+1)<=gK (k+1)->(∀g,PM.CL m k E g->(g k k).natAbs<=2^o)->∃g d,YR [.lst (bL (m+m) E),.int (m:Int),.int (k:Int)]=aA (.lst (bL (m+m) g))/\d<=gK (k+1)/\PM.Pl m (k+1) (aK (k+1)) d t g:=λo z G F M C=>by obtain⟨P,f⟩:=Ge b n z G F C;obtain⟨g,d,p,B,s⟩:=P7 P h l (aK (k+1)) λe z=>(P.b8 e z).1;exact⟨g,d,p,by omega,s⟩
  have kk:k=0\/k=1\/k=2\/k=3:=by omega
  rcases kk with r | r | r | r
  ·subst r;exact w 6 (by omega) (by decide) (by decide) (by decide) λg c=>(h.small b n c λi _ x=>I rfl i 0 x n).1
  ·subst r;exact w 20 (by omega) (by decide) (by decide) (by decide) (q h)
  ·subst r;exact w 20 (by omega) (by decide) (by decide) (by decide) (q h)
  ·subst r;exact w 20 (by omega) (by decide) (by decide) (by decide) (q h)
end
section
variable {m:Nat} {A B:Mt} {u v:Nat->Int}
theorem DG{i j:Nat}(b:i<m)(d:j<m){f g h:XE}{s:ZD}(q:f s=aA (wP (Yq m m B)))(c:g s=aA (.int (i:Int)))(a:h s=aA (.int (j:Int))):Zi ZS (Zi ZS f g) h s=aA (.int (B i j)):=o2 (o2 q c (Xn (Uq b))) a (TU d)
theorem TY{j:Nat}(d:m<=50)(c:j<m)(b:∀k,k<m->CMulW (u k) (B k j)):Xd [pP (ZM m u),wP (Yq m m B),.int (j:Int)]=aA (.int (sN m λk=>u k*B k j)):=by
 refine YM (ret (vP (c1 (W3 (q:=λi=>.tup [.int ((i:Nat):Int),.int (u i)]) (λk=>u k*B k j) ?_ (by omega) λi a=>⟨_,rfl,vC (C:=CMulW) (op:=(· * ·)) rfl (DG a c rfl rfl rfl) (b i a)⟩) ?_)))
 ·show aA (W7 (iL (ZM m u)))=_;rw[Ei,ZI];congr 1;refine bD λi a=>?_;rw[Wd (aX.mp a)]
 ·rw[F8];congr 2;exact XX _ _
theorem P8(c:m<=50)(b:∀k j,k<m->j<m->CMulW (u k) (B k j)):Vo [pP (ZM m u),wP (Yq m m B)]=aA (pP (ZM m λj=>sN m λk=>u k*B k j)):=
 YM (ret (GQ (c1 (TQ (λj=>sN m λk=>u k*B k j) (Yj (n:=m) (c1 rfl (by rw[Jk,aO,ZI])) (by omega)) (by omega) λj a=>⟨_,rfl,rfl,c3 rfl rfl rfl (TY c a λk d=>b k j d a)⟩) (Wk _))))
theorem Ng{M:List (List Int)}{f:XE}{s:ZD}(q:f s=aA (.lst (tL M))):eP (Zc ZW [f]) s=aA (wP M):=ep (c1 q (Wk _)) (by rw[VF];exact Vl _)
theorem V4(b:m<=50)(a:∀i k j,i<m->k<m->j<m->CMulW (A i k) (B k j)):Yy [wP (Yq m m A),wP (Yq m m B)]=aA (wP (Yq m m (PM.mul m A B))):=
 YM (ret (Ng (X0 (w:=m) (PM.mul m A B) (q:=λi=>pP (ZM m (A i))) (by show aA (tL (Yq m m A))=_;rw[Vv]) (by omega) λi c=>⟨_,rfl,c2 rfl rfl (P8 b λk j d e=>a i k j c d e)⟩)))
theorem RS(a:m<=100)(b:∀j,j<m->T4 (u j) (v j)):VP [pP (ZM m u),pP (ZM m v)]=aA (pP (ZM m λj=>(u j).fdiv (v j))):=
 YM (ret (GQ (c1 (W3 (q:=λj=>.tup [.int (u j),.int (v j)]) (λj=>(u j).fdiv (v j)) (by show aA (UA (iL (ZM m u)) (iL (ZM m v)))=_;rw[JX]) a λj c=>⟨_,rfl,vC (C:=T4) (op:=jL) rfl rfl (b j c)⟩) (Wk _))))
theorem U2{W:List (List Int)}(ok:Yn W)(a:W.length=m+1):XQ [wP W]=aA (wP (Yq m m (Zz W 0))):=by have h:=UY ok (b:=0) ok.pos;rw[show W.length-1=m by omega] at h;exact YM (ret (c2 rfl rfl h))
theorem Gg{l:List PV}{k:Nat}(a:k<=l.length):Xv l none (aA (k:Int))=l.take k:=by unfold Xv;rw[HT.sIx_none,HT.sIx_nat,gH,gx,dI a]
theorem P9{l:List PV}{k:Nat}(a:k<=l.length):Xv l (aA (k:Int)) none=l.drop k:=by unfold Xv;rw[HT.sIx_none,HT.sIx_nat,dI a,bX (by rw[cZ];omega)]
theorem Gh:(ZM (m+m) u).take m=ZM m u:=by have:=SE (w:=m+m) (v:=u) (a:=0) (b:=m) (by omega) (by omega);rw[gH,gx] at this;rw[this];unfold ZM;refine bD λi _=>?_;rw[Nat.zero_add]
theorem Gi:(ZM (m+m) u).drop m=ZM m λj=>u (m+j):=by have:=SE (w:=m+m) (v:=u) (a:=m) (b:=m+m) (by omega) (by omega);rw[bX (by rw[cZ,ZI];omega),show m+m-m=m by omega] at this;exact this
theorem Ex{x:Int}(b:1<=m)(a:m<=100):OI (.tup [.int x]) (.int (m:Int))=aA (pP (ZM m λ_=>x)):=by
 unfold OI;simp only[];rw[k8 (by refine⟨rfl,by simp,by omega,by omega,by simp;omega⟩)];congr 2;apply cV;intro i;unfold ZM;by_cases h:i<m
 ·simp[h]
 ·simp[h]
end
abbrev RV(m:Nat)(E:Mt):Mt:=λi j=>E i (m+j)
abbrev Qr(m:Nat)(E:Mt):Mt:=λi j=>E (m+i) j
abbrev CN(W:List (List Int))(m:Nat)(E:Mt):List (List Int):=Yq m m λi j=>(PM.mul m (Zz W 0) (Qr m E) i j).fdiv (E j j)
abbrev CO(W:List (List Int))(m:Nat)(E:Mt):List (List Int):=Yq m m λi j=>(PM.mul m (RV m E) (Zz W 0) i j).fdiv (E i i)
theorem J8{W:List (List Int)}{m:Nat}(ok:Yn W)(F:TN W)(J:W.length<=7)(L:(V2 W).length<=28)(D:W.length=m+1) :
  ∃E c,Pq [wP W]=aA (.tup [wP (Yq m m (RV m E)),wP (CN W m E),wP (Yq m m (Qr m E)),wP (CO W m E),pP (ZM m λi=>E i i)])/\PM.Cr m m (Zz W 0) E/\c<=43000000/\(∀i j,i<m->j<m->(E i (m+j)).natAbs<=2^c)/\(∀i j,i<m->j<m->(E (m+i) j).natAbs<=2^c)/\(∀i,i<m->E i i∣ZH m (Zz W 0)):=by
 have M:m<=6:=by omega
 have bs:=J4 ok F J D;have H:=C9 ok F D J L;have f:=GX ok F D L
 suffices g:YF MS (ZL 10 [wP W]) λv=>∃E c,v = .tup [wP (Yq m m (RV m E)),wP (CN W m E),wP (Yq m m (Qr m E)),wP (CO W m E),pP (ZM m λi=>E i i)]/\PM.Cr m m (Zz W 0) E/\c<=43000000/\(∀i j,i<m->j<m->(E i (m+j)).natAbs<=2^c)/\(∀i j,i<m->j<m->(E (m+i) j).natAbs<=2^c)/\(∀i,i<m->E i i∣ZH m (Zz W 0)) by obtain⟨v,e,E,c,rfl,r⟩:=T5 g;exact⟨E,c,e,r⟩
 refine Z7 (Zy (c1 rfl (U2 ok D))) (Z7 (Zy (vP (c1 rfl (by rw[O1,UX])))) (Z7 (Zy (c1 rfl (Nd (by omega)))) (UW (JP (n:=m) (λk s=>∃E c C,s=[aA (wP W),aA (wP (Yq m m (Zz W 0))),aA (.int (m:Int)),aA (.lst (bL (m+m) E)),C,none,none,none,none,none]/\c<=gK k/\(k=0->∀i j,i<m->j<m->(E i j).natAbs<=2^6)/\PM.Pl m k (aK k) c (Zz W 0) E) rfl ⟨E0 m (Zz W 0),0,none,rfl,bq _,λ_ i j b d=>?_,?_⟩ ?_) ?_)))
 ·rw[show E0 m (Zz W 0) i j=Zz W 0 i j by unfold E0;rw[k8 b,k8 d]];exact aS (f i j b d) (by decide)
 ·exact Bq M λi j b d=>aS (f i j b d) (by decide)
 ·rintro k s u ⟨E,c,C,rfl,t,h0,h⟩;obtain⟨R,I,e,l,p⟩:=J7 bs H M u h0 h t;exact L8 (Zy (c3 rfl rfl rfl e)) ⟨R,I,_,rfl,l,λz=>absurd z (by omega),p⟩
 ·rintro s ⟨E,c,C,rfl,t,_,h⟩
  have y:c<=43000000:=aS t (by
   have kk:m=0\/m=1\/m=2\/m=3\/m=4\/m=5\/m=6:=by omega
   rcases kk with r | r | r | r | r | r | r<;>subst r<;>decide)
  have P:∀i,i<m->E i i∣ZH m (Zz W 0):=λi b=>by
   obtain⟨Z0,U⟩:=bs.z;refine h.cr.adm.div U b λx X=>?_;by_cases q:x=i
   ·rw[q];exact fH _
   ·rw[(h.cr.d1 i x b X q).2];exact cI _
  have dl:∀i,i<m->E i i≠0/\(E i i).natAbs.log2<9000:=λi b=>by have h1:=h.cr.d2 i b;have h2:=dc (by have:=bs.nz;omega) (bh.mpr (P i b));refine⟨by omega,?_⟩;have:=JY (x:=E i i) (G:=21) (by omega) (by omega);omega
  have N:∀{i j G},6<=G->i<m->j<m->(Zz W 0 i j).natAbs<2^G:=λ{i j G} Q b d=>a0 (show _<2^6 by have:=f i j b d;omega) (PM.pw2 Q);have Y:∀i j,i<m->j<m->(E (m+i) j).natAbs<2^(c+6):=λi j b d=>ay (h.rb i j b d) (cM (by omega) (by omega));have T:∀i j,i<m->j<m->(E i (m+j)).natAbs<2^(c+6):=λi j b d=>ay (h.lb i j b d) (cM (by omega) (by omega));have S:=V4 (m:=m) (A:=Zz W 0) (B:=Qr m E) (by omega) λi k j b u d=>JZ (G:=c+6) (N (by omega) b u) (Y k j u d) (by omega) (by omega);have Z:=V4 (m:=m) (A:=RV m E) (B:=Zz W 0) (by omega) λi k j b u d=>JZ (G:=c+6) (T i k b u) (N (by omega) u d) (by omega) (by omega);have lst:bL (m+m) E=(aI m).map (λi=>cR (m+m) (E i))++(aI m).map λi=>cR (m+m) (E (m+i)):=by unfold bL;rw[jj,dZ,cH];rfl
  refine Z7 (Zy (GQ (c1 (TQ (λi=>E i i) (Yj rfl (by omega)) (by omega) λi b=>⟨_,rfl,rfl,U0 (w:=m+m) (E:=E) (by omega) (by omega) rfl rfl rfl⟩) (Wk _)))) (Z7 (Zy (Ng (X0 (w:=m) (RV m E) (q:=λi=>cR (m+m) (E i)) ?_ (by omega) λi b=>⟨_,rfl,c1 (a:=.lst (iL (ZM m λj=>E i (m+j)))) ?_ (Wk _)⟩))) (Z7 (Zy (Ng (X0 (w:=m) (Qr m E) (q:=λi=>cR (m+m) (E (m+i))) ?_ (by omega) λi b=>⟨_,rfl,c1 (a:=.lst (iL (ZM m (E (m+i))))) ?_ (Wk _)⟩))) (Z7 (Zy (Ng (X0 (m:=m) (w:=m) (λi j=>(PM.mul m (Zz W 0) (Qr m E) i j).fdiv (E j j)) (q:=λi=>pP (ZM m (PM.mul m (Zz W 0) (Qr m E) i))) ?_ (by omega) λi b=>⟨_,rfl,c2 rfl rfl (RS (by omega) λj d=>dl j d)⟩))) (Z7 (Zy (Ng (X0 (m:=m) (w:=m) (λi j=>(PM.mul m (RV m E) (Zz W 0) i j).fdiv (E i i)) (q:=λi=>.tup [pP (ZM m (PM.mul m (RV m E) (Zz W 0) i)),.int (E i i)]) ?_ (by omega) λi b=>⟨_,rfl,c2 rfl (o2 (a:=.tup [.int (E i i)]) rfl rfl (Ex (by omega) (by omega))) (RS (by omega) λj d=>dl i b)⟩))) (XG (ep rfl ?_) ⟨E,c,rfl,h.cr,y,h.lb,h.rb,P⟩)))))
  ·show(Wn Wz (Za 3) VD (Xw (Za 2)) _).bind _=_;rw[Xq];show(aA (PV.lst (Xv (bL (m+m) E) none (aA (m:Int))))).bind _=_;rw[Gg (by rw[Ur];omega),lst,List.take_left' (by simp)];rfl
  ·rw[Xq];show aA (PV.lst (Xv (iL (ZM (m+m) (E i))) (aA (m:Int)) none))=_;rw[JM,Gi]
  ·show(Wn Wz (Za 3) (Xw (Za 2)) VD _).bind _=_;rw[Xq];show(aA (PV.lst (Xv (bL (m+m) E) (aA (m:Int)) none))).bind _=_;rw[P9 (by rw[Ur];omega),lst,List.drop_left' (by simp)];rfl
  ·rw[Xq];show aA (PV.lst (Xv (iL (ZM (m+m) (E (m+i)))) none (aA (m:Int))))=_;rw[Mg,Gh]
  ·have:Zc Yy [Za 1,Za 7] [aA (wP W),aA (wP (Yq m m (Zz W 0))),aA (.int (m:Int)),aA (.lst (bL (m+m) E)),C,aA (pP (ZM m λi=>E i i)),aA (wP (Yq m m (RV m E))),aA (wP (Yq m m (Qr m E))),none,none]=aA (wP (Yq m m (PM.mul m (Zz W 0) (Qr m E)))):=c2 rfl rfl S;refine(Vn this).trans ?_;show aA (tL (Yq m m _))=_;rw[Vv]
  ·have:∀O,Zc Yy [Za 6,Za 1] [aA (wP W),aA (wP (Yq m m (Zz W 0))),aA (.int (m:Int)),aA (.lst (bL (m+m) E)),C,aA (pP (ZM m λi=>E i i)),aA (wP (Yq m m (RV m E))),aA (wP (Yq m m (Qr m E))),O,none]=aA (wP (Yq m m (PM.mul m (RV m E) (Zz W 0)))):=λO=>c2 rfl rfl Z;rw[Jm];refine(congrArg (λo=>fN o _) (this _)).trans ?_;show aA (UA (tL (Yq m m (PM.mul m (RV m E) (Zz W 0)))) (iL (ZM m λi=>E i i)))=_;rw[Ub _ _ (by rw[We];simp[ZI]),We];congr 1;refine bD λi b=>?_;have b:=aX.mp b;rw[aM,Uq b,VG _ i (by rw[ZI];exact b),Wd b];rfl
  ·rw[VF];simp only[ZC,VF,Vl,Yi,Bool.and_self]
end PW
namespace PW
open L2 VL
noncomputable def U3(n:Nat)(M:List (List Int)):Int:=sN n λi=>sN n (ent M i)
theorem Ke(n:Nat):U3 n (aU n (aU n (0:Int)))=0:=W0 λi a=>W0 λj b=>by simp[ent,Zu,Xp,a,b]
theorem QS{n a b:Nat}{c:Int}(d:a<n)(f:b<n):(sN n λi=>sN n λj=>if i=a/\j=b then c else 0)=c:=by rw[Z3 d λi _ e=>W0 λj _=>k9 λz=>e z.1,Z3 f λj _ g=>k9 λz=>g z.2,k8 ⟨rfl,rfl⟩]
theorem Ld{n:Nat}{M:List (List Int)}{a b:Nat}{t:Int}(ok:MatOk n M)(d:a<n)(c:b<n)(f:a≠b):U3 n (RP M a b t)=U3 n M+2*(t-ent M a b):=by
 have e:U3 n (RP M a b t)=sN n λi=>sN n λj=>(ent M i j+if i=a/\j=b then t-ent M a b else 0)+if i=b/\j=a then t-ent M a b else 0:=Zj λi k=>Zj λj h=>by
  rw[SA ok d c];have s:=ok.sym a b d c;by_cases p:b=i/\a=j
  ·obtain⟨rfl,rfl⟩:=p;rw[k8 ⟨rfl,rfl⟩,k9 λz=>f z.1.symm,k8 ⟨rfl,rfl⟩];omega
  ·rw[k9 p,k9 (show ¬(i=b/\j=a) from λz=>p ⟨z.1.symm,z.2.symm⟩)];by_cases p2:a=i/\b=j
   ·obtain⟨rfl,rfl⟩:=p2;rw[k8 ⟨rfl,rfl⟩,k8 ⟨rfl,rfl⟩];omega
   ·rw[k9 p2,k9 (show ¬(i=a/\j=b) from λz=>p2 ⟨z.1.symm,z.2.symm⟩)];omega
 rw[e]
 have g:(sN n λi=>sN n λj=>(ent M i j+if i=a/\j=b then t-ent M a b else 0)+if i=b/\j=a then t-ent M a b else 0)=(U3 n M+sN n λi=>sN n λj=>if i=a/\j=b then t-ent M a b else 0)+sN n λi=>sN n λj=>if i=b/\j=a then t-ent M a b else 0:=by
  unfold U3;rw[<-Yk,<-Yk];exact Zj λi _=>by rw[<-Yk,<-Yk]
 rw[g,QS d c,QS c d];omega
theorem CP{c:List Int}{mo n:Nat}{M:List (List Int)}{sp:List Int}{x7 x8 x9:Option PV}{k:Nat}(r:c.length<=63)(S:n<=7)(u:1<=k)(p:k<n)(f:NamesOk n sp)(ok:MatOk n M)(I:Grown M sp k) :
  ∃M' y7,MatOk n M'/\Grown M' sp (k+1)/\U3 n M'<=U3 n M+6/\DW (XC c mo n M sp (aA (.int (k:Int))) x7 x8 x9)=aA (.nx (XC c mo n M' sp (aA (.int (k:Int))) y7 x8 x9)):=by
 obtain⟨v,J,H⟩:=XZ (YC c k) (t:=1) (m:=k) (by omega) (by omega);obtain⟨w,O,N⟩:=XZ (YC c k) (t:=2) (m:=3) (by omega) (by omega);have G:=VU r (k:=k) (by omega);have U:=f.at (x:=k) p;have T:=f.at (x:=v) (by omega);have ne:=f.ne (x:=k) (y:=v) p (by omega) (by omega);obtain⟨a,ea⟩:∃a:Nat,Xp sp k=(a:Int):=⟨(Xp sp k).toNat,by omega⟩;obtain⟨b,z⟩:∃b:Nat,Xp sp v=(b:Int):=⟨(Xp sp v).toNat,by omega⟩;have d:a<n:=by omega
 have e:b<n:=by omega
 have D:=OZ (k:=1+(w:Int)) ok d e;have lo:=ok.lo a b d e;generalize A:(if ent M a b+(1+(w:Int))<9 then ent M a b+(1+(w:Int)) else 9)=t at D;have s:0<t/\t<=9:=by rw[<-A];split<;>omega
 have R:t<=ent M a b+3:=by rw[<-A];have:=ok.hi a b d e;split<;>omega
 have g:a≠b:=by omega
 have P:=Ld (t:=t) ok d e g;have B:=Ua (l:=sp) (k:=k) (by rw[f.len];exact p);have C:=Ua (l:=sp) (k:=v) (by rw[f.len];omega);rw[ea] at B;rw[z] at C;obtain⟨L,E⟩:=MY ok d e s.1;refine⟨RP M a b t,aA (.int (YC c k)),JO ok d e (by omega) (by omega) s.2,λj u Q=>?_,?_,?_⟩
 ·by_cases q:j<k
  ·exact(I.mono L) j u q
  ·have:j=k:=by omega
   subst this;exact⟨v,J,by rw[ea,z];exact E⟩
 ·omega
 ·have F:Zs 7 (Zc Yf [Za 0,Za 6]) (XC c mo n M sp (aA (.int (k:Int))) x7 x8 x9)=aA (.nx (XC c mo n M sp (aA (.int (k:Int))) (aA (.int (YC c k))) x8 x9)):=by simp[XC,G]
  unfold DW;rw[Xs F,MX (i:=4) (l0:=.lst (rL M)) (ls:=[.int (a:Int),.int (b:Int),.int (1+(w:Int))]) rfl ?_ rfl D]
  ·rfl
  ·have h:Zw [PV.int (YC c k),PV.int 1,PV.int (k:Int)]=aA (.int (v:Int)):=H;have o:Zw [PV.int (YC c k),PV.int 2,PV.int 3]=aA (.int (w:Int)):=N;simp[XC,B,C,h,o]
theorem CQ{e:List Int}{mo n:Nat}{M:List (List Int)}{sp:List Int}{x7 x8 x9:Option PV}{i:Nat}(u:e.length<=63)(R:n<=7)(P:2<=n)(S:i<6)(ok:MatOk n M) :
  ∃M' y7 y8 y9,MatOk n M'/\(∀i j,0<ent M i j->0<ent M' i j)/\U3 n M'<=U3 n M+4/\DX (XC e mo n M sp (aA (.int (i:Int))) x7 x8 x9)=aA (.nx (XC e mo n M' sp (aA (.int (i:Int))) y7 y8 y9)):=by
 generalize C:YC e (7+i)=c;obtain⟨a,f,ea⟩:=XZ c (t:=4) (m:=n) (by omega) (by omega);obtain⟨d,N,x⟩:=XZ c (t:=5) (m:=n-1) (by omega) (by omega);obtain⟨w,L,I⟩:=XZ c (t:=6) (m:=2) (by omega) (by omega);have l:=VU u (k:=7+i) (by omega);rw[C] at l
 obtain⟨b,g,h,F⟩:∃b:Nat,b<n/\a≠b/\((a:Int)+1+(d:Int))%(n:Int)=(b:Int):=by
  refine⟨(a+1+d)%n,jC _ (by omega),?_,?_⟩
  ·by_cases q:a+1+d<n
   ·rw[jY q];omega
   ·rw[Nat.mod_eq_sub_mod (by omega),jY (by omega)];omega
  ·have:((a:Int)+1+(d:Int))=((a+1+d:Nat):Int):=by omega
   rw[this];exact(Int.natCast_emod _ _).symm
 have z:=OZ (k:=1+(w:Int)) ok f g;have lo:=ok.lo a b f g;generalize y:(if ent M a b+(1+(w:Int))<9 then ent M a b+(1+(w:Int)) else 9)=t at z;have v:0<t/\t<=9:=by rw[<-y];split<;>omega
 have Q:t<=ent M a b+2:=by rw[<-y];have:=ok.hi a b f g;split<;>omega
 have O:=Ld (t:=t) ok f g h;obtain⟨H,J⟩:=MY ok f g v.1;refine⟨RP M a b t,aA (.int c),aA (.int (a:Int)),aA (.int (b:Int)),JO ok f g h (by omega) v.2,H,by omega,?_⟩;have D:((7+i:Nat):Int)=7+(i:Int):=by omega
 rw[D] at l;have A:Zs 7 (Zc Yf [Za 0,Zi Z4 (eC (.int 7)) (Za 6)]) (XC e mo n M sp (aA (.int (i:Int))) x7 x8 x9)=aA (.nx (XC e mo n M sp (aA (.int (i:Int))) (aA (.int c)) x8 x9)):=by simp[XC,l]
 have o:Zw [PV.int c,PV.int 4,PV.int (n:Int)]=aA (.int (a:Int)):=ea;have G:Zs 8 (Zc Zw [Za 7,eC (.int 4),Za 3]) (XC e mo n M sp (aA (.int (i:Int))) (aA (.int c)) x8 x9)=aA (.nx (XC e mo n M sp (aA (.int (i:Int))) (aA (.int c)) (aA (.int (a:Int))) x9)):=by simp[XC,o]
 have r:((n-1:Nat):Int)=(n:Int)-1:=by omega
 rw[r] at x;have p:Zw [PV.int c,PV.int 5,PV.int ((n:Int)-1)]=aA (.int (d:Int)):=x;have B:0<n:=by omega
 have E:Zs 9 (eP (Zi Wh (Zi Z4 (Zi Z4 (Za 8) (eC (.int 1))) (Zc Zw [Za 7,eC (.int 5),Zi XH (Za 3) (eC (.int 1))])) (Za 3))) (XC e mo n M sp (aA (.int (i:Int))) (aA (.int c)) (aA (.int (a:Int))) x9)=aA (.nx (XC e mo n M sp (aA (.int (i:Int))) (aA (.int c)) (aA (.int (a:Int))) (aA (.int (b:Int))))):=by simp[XC,p,B,F]
 have s:Zw [PV.int c,PV.int 6,PV.int 2]=aA (.int (w:Int)):=I;unfold DX;rw[Xs A,Xs G,Xs E,MX (i:=4) (l0:=.lst (rL M)) (ls:=[.int (a:Int),.int (b:Int),.int (1+(w:Int))]) rfl ?_ rfl z]
 ·rfl
 ·simp[XC,s]
theorem Mw{a:List Int}(x:a.length<=63){mo:Nat}(U:1<=mo)(h7:mo<=7):∃W,Pn [.cst (iL a),.int (mo:Int)]=aA (wP W)/\Yn W/\TN W/\W.length<=mo/\(V2 W).length<=28:=by
 obtain⟨Q,hp0,ep0⟩:=XZ (YC a 0) (t:=0) (m:=mo) (by omega) (by omega);have I:Zw [PV.int (YC a 0),PV.int 0,PV.int (mo:Int)]=aA (.int (Q:Int)):=ep0;have R:=VU x (k:=0) (by omega);have H:Yf [PV.cst (iL a),PV.int 0]=aA (.int (YC a 0)):=R;obtain⟨n,hn⟩:∃n:Nat,n=1+Q:=⟨_,rfl⟩;have hn':(1:Int)+(Q:Int)=(n:Int):=by omega
 let Z:=aU n (aU n (0:Int));have e1:Zs 2 (Zc Yf [Za 0,eC (.int 0)]) [aA (.cst (iL a)),aA (.int (mo:Int)),none,none,none,none,none,none,none,none]=aA (.nx [aA (.cst (iL a)),aA (.int (mo:Int)),aA (.int (YC a 0)),none,none,none,none,none,none,none]):=by simp[H]
 have e2:Zs 3 (eP (Zi Z4 (eC (.int 1)) (Zc Zw [Za 2,eC (.int 0),Za 1]))) [aA (.cst (iL a)),aA (.int (mo:Int)),aA (.int (YC a 0)),none,none,none,none,none,none,none]=aA (.nx [aA (.cst (iL a)),aA (.int (mo:Int)),aA (.int (YC a 0)),aA (.int (n:Int)),none,none,none,none,none,none]):=by simp[I,hn']
 have e3:Zs 4 (Zt 1 [3] (ZZ [Za 3]) (.one 0) ZF (Zi OE (SW [eC (.int 0)]) (Za 1))) [aA (.cst (iL a)),aA (.int (mo:Int)),aA (.int (YC a 0)),aA (.int (n:Int)),none,none,none,none,none,none]=aA (.nx [aA (.cst (iL a)),aA (.int (mo:Int)),aA (.int (YC a 0)),aA (.int (n:Int)),aA (.lst (rL Z)),none,none,none,none,none]):=by rw[Ra,L7 (n:=n) rfl (by omega)];rfl
 have e4:Zs 5 (SW []) [aA (.cst (iL a)),aA (.int (mo:Int)),aA (.int (YC a 0)),aA (.int (n:Int)),aA (.lst (rL Z)),none,none,none,none,none]=aA (.nx (XC a mo n Z [] none none none none)):=by simp[XC]
 -- the houses' order
 obtain⟨s5,f5,sp,B,hs5,G⟩:=Xx (T:=.one 6) (fb:=DV) (ls:=Ti n) (s:=XC a mo n Z [] none none none none)
  (λi st=>∃sp B,st=XC a mo n Z sp B none none none/\NamesOk i sp) ⟨[],none,rfl,NamesOk.nil⟩ (by
   rintro i l st F ⟨sp,B,rfl,G⟩;obtain⟨L,rfl⟩:=UL F;obtain⟨N,O,e⟩:=Eh (mo:=mo) (n:=n) (M:=Z) (x7:=none) (x8:=none) (x9:=none) x (by omega) G;exact⟨_,_,rfl,e,N,_,rfl,O⟩)
 subst hs5;rw[Rf] at G;have e5:YD [4,5] (ZZ [Za 3]) (.one 6) DV (XC a mo n Z [] none none none none)=aA (.nx (XC a mo n Z sp B none none none)):=by show(ZZ [Za 3] (Yo [4,5] (XC a mo n Z [] none none none none))).bind _=_;rw[Yj (n:=n) (by simp[XC,Yo]) (by omega)];exact f5
 -- each to one ahead
 obtain⟨s6,f6,M,o,h,S,u,J,sm⟩:=Xx (T:=.one 6) (fb:=DW) (ls:=Wx 1 (n-1)) (s:=XC a mo n Z sp B none none none)
  (λi st=>∃M o h,st=XC a mo n M sp o h none none/\MatOk n M/\Grown M sp (i+1)/\U3 n M<=6*(i:Int)) ⟨Z,B,none,rfl,MatOk.zero n,λj U h2=>by omega,by rw[Ke];omega⟩ (by
   rintro i l st F ⟨M,o,h,rfl,u,J,sm⟩;obtain⟨L,rfl⟩:=OH F;have hk:(1:Int)+(i:Int)=((i+1:Nat):Int):=by omega
   rw[hk];obtain⟨d,p,b,f,y,e⟩:=CP (mo:=mo) (x7:=h) (x8:=none) (x9:=none) (k:=i+1) x (by omega) (by omega) (by omega) G u J;exact⟨_,_,rfl,e,d,_,p,rfl,b,f,by omega⟩)
 subst S;rw[Jl] at J sm
 have e6:YD [4,5] (YQ [eC (.int 1),Za 3]) (.one 6) DW (XC a mo n Z sp B none none none)=aA (.nx (XC a mo n M sp o h none none)):=by
  show(YQ [eC (.int 1),Za 3] (Yo [4,5] (XC a mo n Z sp B none none none))).bind _=_;rw[VH (i:=1) (j:=(n:Int)) rfl (by simp[XC,Yo]) (by omega) (by omega)];have:((n:Int)-1).toNat=n-1:=by omega
  rw[this];exact f6
 have C:Grown M sp n:=λj U h2=>J j U (by omega)
 -- more ties
 obtain⟨p3,hp3,ep3⟩:=XZ (YC a 0) (t:=3) (m:=6) (by omega) (by omega);have E:Zw [PV.int (YC a 0),PV.int 3,PV.int 6]=aA (.int (p3:Int)):=ep3
 have e7:∃d A p w z,MatOk n d/\Grown d sp n/\U3 n d<=56/\S6 (xB (Zi Ki (Za 3) (eC (.int 1)))) (YD [4,5] (ZZ [Zc Zw [Za 2,eC (.int 3),eC (.int 6)]]) (.one 6) DX) YB (XC a mo n M sp o h none none)=aA (.nx (XC a mo n d sp A p w z)):=by
  by_cases q:1<n
  ·obtain⟨s7,f7,d,A,p,w,z,P,b,f,y⟩:=Xx (T:=.one 6) (fb:=DX) (ls:=Ti p3) (s:=XC a mo n M sp o h none none)
    (λi st=>∃d A p w z,st=XC a mo n d sp A p w z/\MatOk n d/\Grown d sp n/\U3 n d<=36+4*(i:Int)) ⟨M,o,h,none,none,rfl,u,C,by omega⟩ (by
     rintro i l st F ⟨d,A,p,w,z,rfl,b,f,y⟩;obtain⟨L,rfl⟩:=UL F;obtain⟨M2,u7,u8,u9,ok2,g2,sm2,e⟩:=CQ (mo:=mo) (sp:=sp) (x7:=p) (x8:=w) (x9:=z) (i:=i) x (by omega) (by omega) (by omega) b;exact⟨_,_,rfl,e,M2,_,u7,u8,u9,rfl,ok2,f.mono g2,by omega⟩)
   subst P;rw[Rf] at y;refine⟨d,A,p,w,z,b,f,by omega,?_⟩
   have c:xB (Zi Ki (Za 3) (eC (.int 1))) (XC a mo n M sp o h none none)=aA aC:=by
    have X:(1:Int)<(n:Int):=by omega
    simp[XC,q,X]
   rw[XN,c];simp only[aY,if_true];show(ZZ [Zc Zw [Za 2,eC (.int 3),eC (.int 6)]] (Yo [4,5] (XC a mo n M sp o h none none))).bind _=_;rw[Yj (n:=p3) (by simp[XC,Yo,E]) (by omega)];exact f7
  ·refine⟨M,o,h,none,none,u,C,by omega,?_⟩
   have c:xB (Zi Ki (Za 3) (eC (.int 1))) (XC a mo n M sp o h none none)=aA aB:=by
    have X:¬(1:Int)<(n:Int):=by omega
    simp[XC,X]
   rw[XN,c];rfl
 obtain⟨d,A,p,w,z,b,f,y,e7⟩:=e7;refine⟨d,?_,b.web (by omega) (by omega),f.conn b.len G,by rw[b.len];omega,?_⟩
 ·have Y:Zt 1 [] (Vb (Za 4)) (.one 0) ZF (Zc ZW [Za 0]) (XC a mo n d sp A p w z)=aA (.lst (d.map pP)):=by rw[Z9 d (λr=>.lst (iL r)) pP (by simp[XC,rL]) (by rw[b.len];omega) (λr _=>⟨_,rfl,rfl,by simp[Z1]⟩)]
  show YL 10 Pm _=_;unfold Pm;show(Zn _ _ [aA (.cst (iL a)),aA (.int (mo:Int)),none,none,none,none,none,none,none,none]).bind NP=_;rw[Xs e1,Xs e2,Xs e3,Xs e4,Xs e5,Xs e6,Xs e7,HG (v:=wP d)]
  ·rfl
  ·rw[S9,Y0,ZO,Y];simp
 ·have D:=b.web (by omega) (by omega);have t:=OX D;rw[XX,b.len,Zj (g:=λi=>sN n (ent d i)) λi L=>by rw[VR D (by rw[b.len];exact L),XX,b.len]] at t;have:U3 n d=2*((V2 d).length:Int):=t;omega
end PW
namespace PM
open PW
structure Alt(n:Nat)(F:Mt->Int):Prop where
 cg:∀A B:Mt,(∀r c,r<n->c<n->A r c=B r c)->F A=F B
 li:∀(A:Mt)(k:Nat)(u v:Nat->Int)(x y:Int),k<n->F (ZU k (λc=>x*u c+y*v c) A)=x*F (ZU k u A)+y*F (ZU k v A)
 al:∀(A:Mt)(i j:Nat),i<n->j<n->i≠j->(∀c,c<n->A i c=A j c)->F A=0
section
variable {n:Nat} {F:Mt->Int}
theorem Alt.comb(h:Alt n F){A:Mt}{j:Nat}(b:j<n){a:Nat->Int}{v:Nat->Nat->Int}:∀m,F (ZU j (λc=>sN m λk=>a k*v k c) A)=sN m λk=>a k*F (ZU j (v k) A)
 | 0=>by have:=h.li A j (λ_=>0) (λ_=>0) 0 0 b;show F (ZU j (λc=>0) A)=0;simpa using this
 | m+1=>by
  have:=h.li A j (λc=>sN m λk=>a k*v k c) (v m) 1 (a m) b;rw[Alt.comb h b m] at this;show F (ZU j (λc=>sN m (λk=>a k*v k c)+a m*v m c) A)=sN m (λk=>a k*F (ZU j (v k) A))+a m*F (ZU j (v m) A)
  rw[h.cg _ (ZU j (λc=>1*(sN m λk=>a k*v k c)+a m*v m c) A) λr c _ _=>by
   by_cases q:r=j
   ·rw[q,Zm,Zm,cK]
   ·rw[ZE _ _ q,ZE _ _ q],this,cK]
theorem Alt.flip(h:Alt n F){A:Mt}{i j:Nat}(e:i<n)(d:j<n)(a:i≠j)(u v:Nat->Int):F (ZU i u (ZU j v A)) = - F (ZU i v (ZU j u A)):=by
 have b:∀w:Nat->Int,F (ZU i w (ZU j w A))=0:=λw=>h.al _ i j e d a λc _=>by rw[Zm,ZE _ _ (aj a),Zm]
 have z:=b λc=>1*u c+1*v c;rw[h.li _ i u v 1 1 e,Wm a,Wm a,h.li _ j u v 1 1 d,h.li _ j u v 1 1 d,<-Wm a,<-Wm a,<-Wm a,<-Wm a,b,b] at z;omega
theorem Alt.many(h:Alt n F){A B:Mt}{k:Nat->Int}(f:0<n)(d:∀c,c<n->B 0 c=A 0 c)(e:∀r c,r<n->c<n->r≠0->B r c=A r c+k r*A 0 c):F B=F A:=by
 have g:∀t,t<=n->F (λr=>if r<t then B r else A r)=F A:=by
  intro t
  induction t with
  | zero=>intro _;exact h.cg _ _ λr c _ _=>by rw[k9 (by omega)]
  | succ t ih=>
   intro i;rw[<-ih (by omega)];by_cases z:t=0
   ·subst z
    exact h.cg _ _ λr c b a=>by
     by_cases q:r=0
     ·subst q;rw[k8 (by omega),k9 (by omega)];exact d c a
     ·rw[k9 (by omega),k9 (by omega)]
   ·rw[h.cg _ (ZU t (λc=>1*A t c+k t*A 0 c) (λr=>if r<t then B r else A r)) λr c b a=>by
     by_cases q:r=t
     ·subst q;rw[k8 (by omega),Zm,e r c b a z];omega
     ·rw[ZE _ _ q];by_cases w:r<t
      ·rw[k8 (by omega),k8 w]
      ·rw[k9 (by omega),k9 w],h.li _ t _ _ 1 (k t) (by omega),h.al (ZU t (A 0) _) t 0 (by omega) f z λc a=>by
     rw[Zm,ZE _ _ (aj z),k8 (by omega),d c a],bQ,fE,cK]
    exact h.cg _ _ λr c b a=>by
     by_cases q:r=t
     ·subst q;rw[Zm,k9 (by omega)]
     ·rw[ZE _ _ q]
 rw[<-g n (aG _)];exact h.cg _ _ λr c b _=>by rw[k8 b]
noncomputable def fro(i:Nat):Mt:=λr c=>one (if r=0 then i else if r<=i then r-1 else r) c
theorem Alt.fro(h:Alt n F):∀i,i<n->F (PM.fro i)=sg i*F one
 | 0,_=>by
  rw[h.cg (PM.fro 0) one λr c _ _=>by
   unfold PM.fro;by_cases q:r=0
   ·rw[k8 q,q]
   ·rw[k9 q,k9 (by omega)]]
  show _=1*F one;omega
 | i+1,hi=>by
  have a:F (PM.fro (i+1))=F (ZU 0 (one (i+1)) (ZU (i+1) (one i) (PM.fro i))):=h.cg _ _ λr c _ _=>by
   unfold PM.fro;by_cases q:r=0
   ·subst q;rw[k8 rfl,Zm]
   ·rw[k9 q,ZE _ _ q];by_cases w:r=i+1
    ·subst w;rw[k8 (by omega),Zm];rfl
    ·rw[ZE _ _ w];show _=one (if r=0 then i else if r<=i then r-1 else r) c;rw[k9 q];by_cases y:r<=i
     ·rw[k8 y,k8 (by omega)]
     ·rw[k9 y,k9 (by omega)]
  have b:F (ZU 0 (one i) (ZU (i+1) (one (i+1)) (PM.fro i)))=F (PM.fro i):=h.cg _ _ λr c _ _=>by
   by_cases q:r=0
   ·subst q;rw[Zm];unfold PM.fro;rw[k8 rfl]
   ·rw[ZE _ _ q];by_cases w:r=i+1
    ·subst w;rw[Zm];unfold PM.fro;rw[k9 q,k9 (by omega)]
    ·rw[ZE _ _ w]
  rw[a,h.flip (by omega) hi (by omega),b,Alt.fro h i (by omega)];show-(sg i*F one) = - sg i*F one;rw[bS]
end
theorem Lf:∀{n:Nat}{F:Mt->Int},Alt n F->∀A:Mt,F A=ZH n A*F one
 | 0,F,h,A=>by rw[h.cg A one λr c j _=>by omega];show _=1*F one;omega
 | n+1,F,h,A=>by
  -- the f 0 by units
  have E:F A=sN (n+1) λi=>A 0 i*F (ZU 0 (one i) A):=by
   rw[<-h.comb (by omega) (n+1)];refine h.cg _ _ λr c j g=>?_;by_cases q:r=0
   ·subst q;rw[Zm];show A 0 c=sN (n+1) λk=>A 0 k*one k c;rw[Z3 g λk _ p=>by unfold one;rw[k9 p,bQ]];unfold one;rw[k8 rfl,dU]
   ·rw[ZE _ _ q]
  rw[E,det_row,<-M5];refine Zj λi H=>?_
  -- a column i of noughts below
  let ins:Mt->Mt:=λB r c=>if r=0 then one i c else if c=i then 0 else B (r-1) (if c<i then c else c-1)
  have D:F (ZU 0 (one i) A)=F (ins λr c=>A (r+1) (skp i c)):=by
   refine(h.many (A:=ZU 0 (one i) A) (k:=λr=>- A r i) (by omega) (λc _=>by rw[Zm];exact k8 rfl) λr c j g o=>?_).symm;rw[ZE _ _ o,Zm];show(if r=0 then _ else if c=i then 0 else A (r-1+1) (skp i (if c<i then c else c-1)))=_;rw[k9 o];by_cases q:c=i
   ·subst q;rw[k8 rfl];unfold one;rw[k8 rfl];omega
   ·rw[k9 q,show r-1+1=r by omega]
    have:skp i (if c<i then c else c-1)=c:=by
     unfold skp;by_cases w:c<i
     ·rw[k8 w,k8 w]
     ·rw[k9 w,k9 (by omega)];omega
    rw[this];unfold one;rw[k9 (λz=>q z.symm)];omega
  have I:Alt n λB=>F (ins B):=by
   refine⟨λB C e=>h.cg _ _ λr c j g=>?_,λB k u v x y p=>?_,λB a b M J L e=>h.al _ (a+1) (b+1) (by omega) (by omega) (by omega) λc g=>?_⟩
   ·show(if r=0 then _ else if c=i then 0 else _)=(if r=0 then _ else if c=i then 0 else _);by_cases q:r=0
    ·rw[k8 q,k8 q]
    ·rw[k9 q,k9 q];by_cases w:c=i
     ·rw[k8 w,k8 w]
     ·rw[k9 w,k9 w];exact e _ _ (by omega) (by split<;>omega)
   ·have f:∀w:Nat->Int,F (ins (ZU k w B))=F (ZU (k+1) (λc=>if c=i then 0 else w (if c<i then c else c-1)) (ins B)):=λw=>h.cg _ _ λr c j g=>by
     by_cases q:r=k+1
     ·subst q;rw[Zm];show(if k+1=0 then _ else if c=i then 0 else ZU k w B (k+1-1) _)=_;rw[k9 (by omega),gL,Zm]
     ·rw[ZE _ _ q];show(if r=0 then _ else if c=i then 0 else ZU k w B (r-1) _)=(if r=0 then _ else if c=i then 0 else B (r-1) _);by_cases l:r=0
      ·rw[k8 l,k8 l]
      ·rw[k9 l,k9 l,ZE _ _ (show r-1≠k by omega)]
    show F (ins (ZU k _ B))=x*F (ins (ZU k u B))+y*F (ins (ZU k v B));rw[f,f,f,<-h.li _ (k+1) _ _ x y (by omega)];refine h.cg _ _ λr c _ _=>?_;by_cases q:r=k+1
    ·subst q;rw[Zm,Zm];by_cases w:c=i
     ·rw[k8 w,k8 w,k8 w];omega
     ·rw[k9 w,k9 w,k9 w]
    ·rw[ZE _ _ q,ZE _ _ q]
   ·show(if a+1=0 then _ else if c=i then 0 else B (a+1-1) _)=(if b+1=0 then _ else if c=i then 0 else B (b+1-1) _);rw[k9 (show ¬a+1=0 by omega),k9 (show ¬b+1=0 by omega)];by_cases w:c=i
    ·rw[k8 w,k8 w]
    ·rw[k9 w,k9 w];exact e _ (by split<;>omega)
  have G:F (ins one)=sg i*F one:=by
   rw[<-h.fro i H];refine h.cg _ _ λr c j g=>?_;show(if r=0 then one i c else if c=i then 0 else one (r-1) (if c<i then c else c-1))=one (if r=0 then i else if r<=i then r-1 else r) c;by_cases q:r=0
   ·rw[k8 q,k8 q]
   ·rw[k9 q,k9 q];unfold one;by_cases w:c=i
    ·rw[k8 w];by_cases y:r<=i
     ·rw[k8 y,k9 (by omega)]
     ·rw[k9 y,k9 (by omega)]
    ·rw[k9 w];by_cases y:r<=i
     ·rw[k8 y];by_cases t:c<i
      ·rw[k8 t]
      ·rw[k9 t,k9 (by omega),k9 (by omega)]
     ·rw[k9 y];by_cases t:c<i
      ·rw[k8 t,k9 (by omega),k9 (by omega)]
      ·rw[k9 t];by_cases s:r=c
       ·rw[k8 s,k8 (by omega)]
       ·rw[k9 s,k9 (by omega)]
  have m:=Lf I λr c=>A (r+1) (skp i c);rw[D];have m:F (ins λr c=>A (r+1) (skp i c))=ZH n (λr c=>A (r+1) (skp i c))*F (ins one):=m;rw[m];show A 0 i*(ZH n (λr c=>A (r+1) (skp i c))*F (ins one))=_;rw[G];generalize ZH n (λr c=>A (r+1) (skp i c))=d;rw[cv d,<-bG,<-bG,bA (A 0 i)]
theorem det_mul{n:Nat}(A B:Mt):ZH n (mul n A B)=ZH n A*ZH n B:=by
 have m:Alt n λX=>ZH n (mul n X B):=by
  refine⟨λX Y e=>Zv λr c d _=>mul_congr (λk b=>e r k d b) λ_ _=>rfl,λX k u v x y b=>?_,λX i j h f g e=>Wl h f g λc _=>Zj λk b=>by rw[e k b]⟩
  ·have a:∀w:Nat->Int,ZH n (mul n (ZU k w X) B)=ZH n (ZU k (λc=>sN n λl=>w l*B l c) (mul n X B)):=λw=>Zv λr c _ _=>by
    by_cases q:r=k
    ·subst q;rw[Zm];show sN n (λl=>ZU r w X r l*B l c)=_;rw[Zm]
    ·rw[ZE _ _ q];show sN n (λl=>ZU k w X r l*B l c)=_;rw[ZE _ _ q];rfl
   show ZH n (mul n (ZU k _ X) B)=x*ZH n (mul n (ZU k u X) B)+y*ZH n (mul n (ZU k v X) B);rw[a,a,a,<-XY b];refine Zv λr c _ _=>?_;by_cases q:r=k
   ·subst q;rw[Zm,Zm,<-ZJ,<-ZJ,<-Yk];exact Zj λl _=>by rw[iR,bG,bG]
   ·rw[ZE _ _ q,ZE _ _ q]
 have:=Lf m A;have e:ZH n (mul n one B)=ZH n B:=Zv λr c d _=>one_mul d;rw[<-e];exact this
end PM
namespace PW
open PySem L2 VL VX
theorem CS{M:List (List Int)}{s:ZD}:(fN ((fN (aA (PV.lst (tL M))) λx=>(Sg [] s).map (x::·)).bind ZW) λl=>if ZQ l=aC then aA l else none)=aA (wP M):=by show(if ZQ (wP M)=aC then aA (wP M) else none)=_;rw[k8 (by rw[VF];exact Vl _)]
theorem Sm{W:List (List Int)}(ok:Yn W):Xz [wP W]=aA (wP (Yq (W.length-1) (W.length-1) (Zz W 0))):=by
 have N:=ok.pos;have O:=ok.few;obtain⟨m,u⟩:∃m,W.length=m+1:=⟨W.length-1,by omega⟩;have o:W.length-1=m:=by omega
 rw[o];let M:=Zz W 0;let rows:Nat->Option PV:=λi=>aA (.lst ((aI i).map λi=>pP (ZM m (M i))));let st:Nat->Option PV->Option PV->ZD:=λi f d=>[aA (wP W),rows i,f,d]
 have len:∀s:ZD,s[0]?=aA (aA (wP W))->Zc Z5 [Za 0] s=aA (.int (W.length:Int)):=λs h=>by
  have:Za 0 s=aA (wP W):=by show s[0]?.bind id=_;rw[h];rfl
  rw[Y0,ZO,this];show aA (PV.int ((W.map pP).length:Int))=_;rw[aO]
 have t:∀s:ZD,s[0]?=aA (aA (wP W))->YQ [eC (.int 1),Zc Z5 [Za 0]] s=aA (Wx 1 m):=λs h=>by rw[VH (i:=1) (j:=(W.length:Int)) rfl (len s h) ⟨by omega,by omega⟩ ⟨by omega,by omega⟩,u];congr 2;omega
 let fb:XS:=(Zn (Zs 3 (Zt 1 [0,2] (YQ [eC (.int 1),Zc Z5 [Za 0]]) (.one 0) ZF (eP (Zi XH (eC (.int 0)) (Zi ZS (Zi ZS (Za 1) (Za 2)) (Za 0))))))
  (Zn (YZ 3 (Zi XH (Za 2) (eC (.int 1))) (Zc Th [Zi ZS (Za 0) (Za 2)]))
  (UG 1 (eP (Zc ZW [Za 3])))))
 obtain⟨L,f1,f,d,x⟩:=Xx (T:=.one 2) (fb:=fb) (ls:=Wx 1 m) (s:=st 0 none none) (λi s=>∃f d,s=st i f d) ⟨none,none,rfl⟩ (by
  rintro i l s F ⟨f,d,rfl⟩;obtain⟨G,rfl⟩:=OH F;have n:i+1<W.length:=by omega
  have A:(1:Int)+(i:Int)=((i+1:Nat):Int):=by omega
  rw[A];let c:Nat->Int:=λj=>0-ent W (i+1) (j+1)
  have z:Zt 1 [0,2] (YQ [eC (.int 1),Zc Z5 [Za 0]]) (.one 0) ZF (eP (Zi XH (eC (.int 0)) (Zi ZS (Zi ZS (Za 1) (Za 2)) (Za 0)))) (st i (aA (.int ((i+1:Nat):Int))) d)=aA (.lst (iL (ZM m c))):=by
   rw[Z9 (aI m) (λ(j:Nat)=>.int (1+(j:Int))) (λj=>.int (c j)) (t _ rfl) (by simp;omega) (λj e=>⟨[aA (.int (1+(j:Int))),aA (wP W),aA (.int ((i+1:Nat):Int))],rfl,rfl,?_⟩)]
   ·simp[ZM]
   ·have e:=aX.mp e;have H:(1:Int)+(j:Int)=((j+1:Nat):Int):=by omega
    have p:U8 (W.map pP) ((i+1:Nat):Int)=aA (pP (Zu W (i+1))):=Ss n;have r:=Ua (l:=Zu W (i+1)) (k:=j+1) (by rw[ok.sq _ n];omega);have B:Zi ZS (Za 1) (Za 2) [aA (.int (1+(j:Int))),aA (wP W),aA (.int ((i+1:Nat):Int))]=aA (pP (Zu W (i+1))):=p;have I:Zi ZS (Zi ZS (Za 1) (Za 2)) (Za 0) [aA (.int (1+(j:Int))),aA (wP W),aA (.int ((i+1:Nat):Int))]=aA (.int (ent W (i+1) (j+1))):=by rw[UI,B];show U8 (iL (Zu W (i+1))) (1+(j:Int))=_;rw[H];exact r
    exact vP (vI (op:=(· - ·)) (a:=0) rfl I)
  have y:Zs 3 (Zt 1 [0,2] (YQ [eC (.int 1),Zc Z5 [Za 0]]) (.one 0) ZF (eP (Zi XH (eC (.int 0)) (Zi ZS (Zi ZS (Za 1) (Za 2)) (Za 0))))) (st i (aA (.int ((i+1:Nat):Int))) d)=aA (.nx (st i (aA (.int ((i+1:Nat):Int))) (aA (.lst (iL (ZM m c)))))):=by rw[Ra,z];rfl
  have g:(ZM m c).set i (Zu W (i+1)).sum=ZM m (M i):=by
   refine MU (by rw[bu,ZI,ZI]) λj e=>?_;rw[bu,ZI] at e;rw[PW.nth_set (by rw[ZI];exact e),Wd e,Wd e];show _=Zz W 0 i j;have o0:∀k,YJ 0 k=k+1:=λk=>by unfold YJ;rw[k9 (by omega)]
   unfold Zz;rw[o0,o0];by_cases q:j=i
   ·rw[k8 q,k8 (by omega)]
   ·rw[k9 q,k9 (by omega)];show 0-ent W (i+1) (j+1)=_;omega
  have D:YZ 3 (Zi XH (Za 2) (eC (.int 1))) (Zc Th [Zi ZS (Za 0) (Za 2)]) (st i (aA (.int ((i+1:Nat):Int))) (aA (.lst (iL (ZM m c)))))=aA (.nx (st i (aA (.int ((i+1:Nat):Int))) (aA (.lst (iL (ZM m (M i))))))):=by
   have J:Zi XH (Za 2) (eC (.int 1)) (st i (aA (.int ((i+1:Nat):Int))) (aA (.lst (iL (ZM m c)))))=aA (.int (i:Int)):=by rw[vI (op:=(· - ·)) (a:=((i+1:Nat):Int)) (b:=1) rfl rfl];congr 2;show((i+1:Nat):Int)-1=_;omega
   have E:Zc Th [Zi ZS (Za 0) (Za 2)] (st i (aA (.int ((i+1:Nat):Int))) (aA (.lst (iL (ZM m c)))))=aA (.int (Zu W (i+1)).sum):=by have p:U8 (W.map pP) ((i+1:Nat):Int)=aA (pP (Zu W (i+1))):=Ss n;have r:Zi ZS (Za 0) (Za 2) (st i (aA (.int ((i+1:Nat):Int))) (aA (.lst (iL (ZM m c)))))=aA (pP (Zu W (i+1))):=p;rw[Y0,ZO,r];show Th [.tup (iL (Zu W (i+1)))]=_;rw[F7]
   rw[QI (m:=iL (ZM m c)) (j:=i) E J rfl (Yi _) rfl (VJ (by rw[aO,ZI];exact G))];rw[show(iL (ZM m c)).set i (.int (Zu W (i+1)).sum)=iL (ZM m (M i)) by rw[<-g];exact(jM ..).symm];rfl
  refine⟨st i (aA (.int ((i+1:Nat):Int))) d,st (i+1) (aA (.int ((i+1:Nat):Int))) (aA (.lst (iL (ZM m (M i))))),rfl,?_,_,_,rfl⟩;show Zn _ _ _=_;rw[Xs y,Xs D];rw[NS (l:=pP (ZM m (M i))) (m:=(aI i).map λi=>pP (ZM m (M i))) (by rw[S9];exact CJ) rfl (by simp;omega)];show aA (Out.nx [aA (wP W),aA (.lst (((aI i).map λi=>pP (ZM m (M i)))++[pP (ZM m (M i))])),_,_])=aA (Out.nx [aA (wP W),aA (.lst ((aI (i+1)).map λi=>pP (ZM m (M i)))),_,_]);rw[fS,dZ];rfl)
 subst x;rw[show(Wx 1 m).length=m by simp[Wx]] at f1;have w:Zs 1 (SW []) [aA (wP W),none,none,none]=aA (.nx (st 0 none none)):=rfl;have C:YD [1,3] (YQ [eC (.int 1),Zc Z5 [Za 0]]) (.one 2) fb (st 0 none none)=aA (.nx (st m f d)):=by show(YQ [eC (.int 1),Zc Z5 [Za 0]] (Yo [1,3] (st 0 none none))).bind _=_;rw[t _ rfl];exact f1
 show YL 4 Xy _=_;unfold Xy;show(Zn _ _ [aA (wP W),none,none,none]).bind NP=_;rw[Xs w,Xs C]
 rw[HG (v:=wP (Yq m m M)) (by
  rw[S9];show(fN (ZW [.lst ((aI m).map λi=>pP (ZM m (M i)))]) λl=>if ZQ l=aC then aA l else none)=_;rw[<-Vv];exact CS (s:=[]))]
 rfl
section
variable {W:List (List Int)} {m:Nat}
theorem DH{d:Type}{n:Nat}{ix:List Nat}{fi:XL}{c:XE}{s:ZD}(ls:List d)(q:d->PV)(b:fi s=aA (ls.map q))(j:ls.length<=100)(h:∀a∈ls,∃s1,YU (.one 0) (q a) (Z1 n ix s)=aA s1/\c s1=aA (.bl aC)):Zc R6 [Zt n ix fi (.one 0) ZF c] s=aA (.bl aC):=by refine c1 (a:=.lst ((ls.map λ_=>aC).map PV.bl)) ?_ (by rw[Jj];simp);rw[Z9 ls q (λ_=>.bl aC) b (by omega) (λi f=>by obtain⟨s1,e,g⟩:=h i f;exact⟨s1,e,rfl,g⟩),cH];rfl
theorem Nh{B:Mt}(a:m<=50):Ud [wP (Yq m m B),.int (m:Int)]=aA (.bl aC):=by refine YM (ret (ep (eu (ea (p:=aC) (p2:=aC) rfl (eu (ea (p:=aC) (p2:=aC) (eu (JQ (c1 rfl (by rw[O1,UX])) rfl) (by rw[decide_eq_true rfl])) (DH (aI m) (λi=>pP (ZM m (B i))) ((Vn rfl).trans (by rw[<-Vv];rfl)) (by simp;omega) λi _=>⟨_,rfl,c2 rfl rfl (O5 (ZI _ _) (by omega))⟩)) rfl)) rfl)))
theorem Gj{L B R F:Mt}{v:Nat->Int}(a:m<=50):Rt [.tup [wP (Yq m m L),wP (Yq m m B),wP (Yq m m R),wP (Yq m m F),pP (ZM m v)],.int (m:Int)]=aA (.bl aC):=by refine YM (sq (DY (eu (xo (p:=aB) (p2:=aB) (xn (xb (p:=aC) rfl)) (eu (xo (p:=aB) (p2:=aB) (xb (eu (o2 (c1 rfl (Jk _)) rfl (Pj aC _ _)) (by simp))) (xn (xb (c2 (o2 rfl rfl rfl) rfl (O5 (ZI _ _) (by omega)))))) rfl)) rfl)) (ret (ep (DH [L,B,R,F] (λX=>wP (Yq m m X)) rfl (show 4<=100 by omega) λX _=>⟨_,rfl,c2 rfl rfl (Nh a)⟩))))
theorem Kf{A B:Mt}(h:∀i j,i<m->j<m->A i j=B i j):Yq m m A=Yq m m B:=by unfold Yq;refine bD λi a=>?_;unfold ZM;exact bD λj b=>h i j (aX.mp a) (aX.mp b)
theorem Kg{a E:Mt}(n:PM.Cr m m a E):∃c b:Mt,PM.EqM m (PM.mul m (RV m E) c) PM.one/\PM.EqM m (PM.mul m c (RV m E)) PM.one/\PM.EqM m (PM.mul m (Qr m E) b) PM.one/\PM.EqM m (PM.mul m b (Qr m E)) PM.one/\
  (∀i j,i<m->j<m->PM.mul m a (Qr m E) i j=c i j*E j j/\PM.mul m (RV m E) a i j=E i i*b i j):=by
 obtain⟨c,b,t,r,q,u⟩:=n.adm.ex;have h:=n.adm.val;refine⟨c,b,t,r,q,u,λi j g f=>⟨?_,?_⟩⟩
 ·have e:PM.mul m a (Qr m E) i j=PM.mul m c E i j:=by rw[PM.mul_congr (A':=c) (B':=PM.mul m (RV m E) (PM.mul m a (Qr m E))) (λ_ _=>rfl) (λl p=>(h l j p f).symm),<-PM.assoc,PM.mul_congr (A':=PM.one) (B':=PM.mul m a (Qr m E)) (λl p=>r i l g p) (λ_ _=>rfl),PM.one_mul g]
  rw[e];exact Z3 f λk d o=>by rw[(n.d1 j k f d o).2,bQ]
 ·have e:PM.mul m (RV m E) a i j=PM.mul m E b i j:=by have s:PM.mul m E b i j=PM.mul m (PM.mul m (PM.mul m (RV m E) a) (Qr m E)) b i j:=PM.mul_congr (λk d=>by rw[PM.assoc];exact(h i k g d).symm) λ_ _=>rfl;rw[s,PM.assoc,PM.mul_congr (A':=PM.mul m (RV m E) a) (B':=PM.one) (λ_ _=>rfl) (λk d=>q k j d f),PM.mul_one f]
  rw[e];exact Z3 g λk d o=>by rw[(n.d1 i k g d o).1,b9]
theorem RU{E:Mt}:∀{m:Nat},(∀i j,i<m->j<m->i≠j->E i j=0)->ZH m E=O8 E m
 | 0,_=>rfl
 | m+1,h=>by rw[RM λc b=>h m c (by omega) (by omega) (by omega),RU λi j d e a=>h i j (by omega) (by omega) a];show E m m*O8 E m=O8 E m*E m m;exact bA _ _
theorem Gk(m:Nat):ZH m PM.one=1:=by
 rw[RU λi j _ _ a=>by unfold PM.one;rw[k9 a]]
 induction m with
 | zero=>rfl
 | succ m ih=>
  show O8 PM.one m*PM.one m m=1;rw[ih];unfold PM.one;rw[k8 rfl];rfl
theorem Lg{E:Mt}:∀{m:Nat},(∀i,i<m->1<=E i i)->1<=O8 E m
 | 0,_=>dq 1
 | m+1,h=>by have b:=Lg (E:=E) (m:=m) λi c=>h i (by omega);have a:=h m (by omega);have d:=Int.mul_le_mul b a (by omega) (by omega);show 1<=O8 E m*E m m;omega
theorem Lh{E:Mt}:∀{m:Nat},(∀i,i<m->(E i i).natAbs<=2^20)->(O8 E m).natAbs<=2^(20*m)
 | 0,_=>aG 1
 | m+1,h=>by have a:=Lh (E:=E) (m:=m) λi b=>h i (by omega);show(O8 E m*E m m).natAbs<=_;rw[bV,show 20*(m+1)=20*m+20 by omega,eV];exact bc a (h m (by omega))
theorem J9{c E:Mt}(d:PM.Cr m m c E)(r:0<ZH m c):O8 E m=ZH m c:=by
 obtain⟨o,p,g,s,n,q,_⟩:=Kg d;have dE:ZH m E=O8 E m:=RU λi j a b l=>(d.d1 i j a b (aj l)).1;have k:ZH m E=ZH m (RV m E)*(ZH m c*ZH m (Qr m E)):=by rw[<-PM.det_mul,<-PM.det_mul];exact Zv λi j a b=>(d.adm.val i j a b).symm
 have u:∀{X Y:Mt},PM.EqM m (PM.mul m X Y) PM.one->(ZH m X).natAbs=1:=λ{X Y} h=>by
  have e:ZH m X*ZH m Y=1:=by rw[<-PM.det_mul,Zv λi j a b=>h i j a b,Gk]
  have:=congrArg ji e;rw[bV] at this;exact Nat.eq_one_of_mul_eq_one_right this
 have f:=congrArg ji k;rw[bV,bV,u g,u n,gV,j3,dE] at f;have:=Lg (E:=E) (m:=m) λi a=>d.d2 i a;omega
theorem Gm(ok:Yn W)(f:TN W)(d:W.length=m+1):0<ZH m (Zz W 0):=by
 have c:=ok.pos;have a:W.length-1=m:=by omega
 have bk:=P4 ok f (b:=0) c (λ_=>0);rw[a] at bk;have I:=YI bk (aG m)
 obtain⟨S,n⟩:=Ms bk (λi j e o ne=>by
  unfold Zz;rw[o0,o0,k9 (by omega)];have:=ok.lo (i+1) (j+1) (by omega) (by omega)
  omega) (λi e=>by
  have g:=Ml ok c (Y:=λh=>if h=0 then 0 else 1) (k8 rfl) (k:=i) (by omega);rw[a,Zj (g:=Zz W 0 i) λj _=>by rw[o0,k9 (by omega),dU]] at g
  have:0<=sN W.length λh=>(-1)*(ent W (YJ 0 i) h*((if h=0 then 0 else 1)-(if YJ 0 i=0 then 0 else 1))):=Y4 λh l=>by
   have:=ok.lo (YJ 0 i) h (by rw[d];exact YS e) l;rw[o0] at this ⊢;rw[k9 (show ¬i+1=0 by omega)];split
   ·rw[Int.zero_sub,fO,dU];omega
   ·simp
  rw[ZJ] at this;have g:(sN W.length λh=>ent W (YJ 0 i) h*((if h=0 then(0:Int) else 1)-(if YJ 0 i=0 then 0 else 1))) = - sN m (Zz W 0 i):=g;omega) (J6 ok d) (aG m)
 rw[<-I.de];exact S.dp
theorem Ia(ok:Yn W)(e:TN W)(h:W.length=m+1):WD [wP W]=aA (.int (ZH m (Zz W 0))):=by
 have f:=ok.pos;have n:=ok.few;have a:W.length-1=m:=by omega
 have bk:=P4 ok e (b:=0) f (λ_=>0);rw[a] at bk;have I:=YI bk (aG m);have sq:=U2 ok h;have g:Yq m m (Zz W 0)=Yq m m (Mk W 0 λ_=>0):=Kf λi j d l=>by unfold Mk;rw[k8 (by omega)]
 have c:=L9 (w:=m) (R:=wP (Yq m m (Zz W 0))) (by omega) (by omega) (by omega) bk (λi j d l=>Kb ok (by omega) (by omega)) (λi d=>by unfold Mk;rw[k9 (by omega)];exact bq _) (.inr (by rw[g];rfl));rw[I.de] at c;have k:X6 [wP (Yq m m (Zz W 0))]=aA (.int (ZH m (Zz W 0))):=YM (ret (vP (o2 (c1 rfl c) rfl rfl)));exact YM (ret (c1 (c1 rfl sq) k))
theorem Ib:∀j:Nat,sg j=1-2*((j:Int)%2)
 | 0=>rfl
 | j+1=>by show-sg j=_;rw[Ib j];omega
theorem Gn{n j:Nat}{f:Nat->Int}(b:j<n+1):(ZM (n+1) f).take j++(ZM (n+1) f).drop (j+1)=ZM n λc=>f (PM.skp j c):=by
 refine MU (by rw[bH,cA,cZ,ZI,ZI];omega) λi a=>?_;rw[bH,cA,cZ,ZI] at a;rw[Wd (by omega)];unfold Xp PM.skp;rw[aM];by_cases q:i<j
 ·rw[ar (by rw[cA,ZI];omega),gY q,k8 q];unfold ZM;rw[aQ,ak (by omega)];rfl
 ·rw[bK (by rw[cA,ZI];omega),eN,cA,ZI,k9 q];unfold ZM;rw[aQ,ak (by omega)];show f _=f _;congr 1;omega
noncomputable def Fw(fi:XL)(D:List PV->Option PV):XS:=(Zn (S6 (xB (Zi (VB aB) (Zc Z5 [Za 0]) (eC (.int 0)))) (ZT (eP (eC (.int 1)))) YB)
  (Zn (Zs 1 (eP (eC (.int 0))))
  (Zn (YD [] (ZZ [Zc Z5 [Za 0]]) (.one 2) (Zn (Zs 3 (Zt 1 [2] fi (.one 0) ZF (eP (Zi V1 (Wn Xc (Za 0) VD (Xw (Za 1))) (Wn Xc (Za 0) (Xw (Zi Z4 (Za 1) (eC (.int 1)))) VD)))))
  (Zs 1 (eP (Zi Z4 (Za 1) (Zi YX (Zi YX (Zi ZS (Zi ZS (Za 0) (eC (.int 0))) (Za 2)) (Zi XH (eC (.int 1)) (Zi YX (eC (.int 2)) (Zi Wh (Za 2) (eC (.int 2)))))) (Zc D [Za 3])))))))
  (ZT (eP (Za 1))))))
theorem T8{fi:XL}{D:List PV->Option PV}{V:PV}{n:Nat}{A:Mt}(N:n<=6)(y:∀i j,i<n->j<n->(A i j).natAbs<=55)
  (u:Z5 [V]=aA (.int (n:Int))) (t:0<n->ZS V (.int 0)=aA (pP (ZM n (A 0)))) (d:0<n->∀x1 f e:Option PV,fi [aA V,x1,f,e]=aA ((aI (n-1)).map λr=>pP (ZM n (A (r+1)))))
  (x:∀B:Mt,0<n->(∀i j,i<n-1->j<n-1->(B i j).natAbs<=55)->D [.lst (tL (Yq (n-1) (n-1) B))]=aA (.int (ZH (n-1) B))):YL 4 (Fw fi D) [V]=aA (.int (ZH n A)):=by
 have o:xB (Zi (VB aB) (Zc Z5 [Za 0]) (eC (.int 0))) (ZL 4 [V])=aA (decide (((n:Nat):Int)=0)):=xb (JQ (c1 rfl u) rfl);by_cases z:n=0
 ·subst z;exact O0 (Dw o (XG (vP rfl) rfl))
 obtain⟨k,E⟩:∃k,n=k+1:=⟨n-1,by omega⟩;have p:n-1=k:=by omega
 have m:0<n:=by omega
 rw[decide_eq_false (by omega)] at o;have d:=d m;have t:=t m;rw[p] at x d;obtain⟨g,v⟩:∃g:Nat->Int,∀j,g j=sg j*A 0 j*ZH k (λr c=>A (r+1) (PM.skp j c)):=⟨_,λ_=>rfl⟩;have I:ZH n A=sN n g:=by rw[E,PM.det_row];exact Zj λj _=>(v j).symm
 refine O0 (Z7 (DY o) (Z7 (Zy (vP rfl)) (UW (JP (n:=n) (λj s=>∃f e,s=[aA V,aA (.int (sN j g)),f,e]) (c1 rfl u) ⟨none,none,rfl⟩ ?_) ?_)))
 ·rintro j s h ⟨f,e,rfl⟩;have H:∀r c,r<k->c<k->(A (r+1) (PM.skp j c)).natAbs<=55:=λr c G M=>y _ _ (by omega) (by unfold PM.skp;split<;>omega);have F:Zt 1 [2] fi (.one 0) ZF (eP (Zi V1 (Wn Xc (Za 0) VD (Xw (Za 1))) (Wn Xc (Za 0) (Xw (Zi Z4 (Za 1) (eC (.int 1)))) VD))) [aA V,aA (.int (sN j g)),aA (.int (j:Int)),e]=aA (.lst (tL (Yq k k λr c=>A (r+1) (PM.skp j c)))):=by refine X0 (w:=k) (λr c=>A (r+1) (PM.skp j c)) (q:=λr=>pP (ZM n (A (r+1)))) (d _ _ _) (by omega) λr G=>⟨_,rfl,GQ (o2 (HH (l:=ZM n (A (r+1))) (k:=j) rfl rfl (by rw[ZI];exact h)) (HI (l:=ZM n (A (r+1))) (k:=j) rfl rfl (by rw[ZI];exact h)) ?_)⟩;rw[HJ (by rw[cA,cZ,ZI];omega),E,Gn (by omega)]
  have J:∀y3:Option PV,Zi ZS (Zi ZS (Za 0) (eC (.int 0))) (Za 2) [aA V,aA (.int (sN j g)),aA (.int (j:Int)),y3]=aA (.int (A 0 j)):=λ_=>o2 (o2 rfl rfl t) rfl (TU h);have L:=y 0 j (by omega) h;refine V3 (Zy F) (L8 (Zy (vP (a:=sN (j+1) g) ((DZ rfl (vC (C:=CMul) (op:=(· * ·)) (a:=A 0 j*(1-2*((j:Int)%2))) (vC (C:=CMul) (op:=(· * ·)) (J _) (C5 rfl (vC (C:=CMul) (op:=(· * ·)) (a:=2) rfl (Bn (b:=2) rfl rfl) (NU (by decide)))) (NU (by omega))) (c1 rfl (x _ m H)) (NU ?_))).trans ?_))) ⟨_,_,rfl⟩)
  ·have:(1-2*((j:Int)%2))=1\/(1-2*((j:Int)%2)) = -1:=by omega
   rcases this with r | r<;>rw[r]<;>omega
  ·show aA (PV.int (sN j g+_))=aA (PV.int (sN j g+g j));rw[v,Ib,bA (1-2*((j:Int)%2))]
 ·rintro s ⟨f,e,rfl⟩;exact XG (vP rfl) (by rw[I])
theorem VV{D:List PV->Option PV}{n:Nat}{A:Mt}(b:n<=6)(d:∀i j,i<n->j<n->(A i j).natAbs<=55)(c:∀B:Mt,0<n->(∀i j,i<n-1->j<n-1->(B i j).natAbs<=55)->D [.lst (tL (Yq (n-1) (n-1) B))]=aA (.int (ZH (n-1) B))):YL 4 (Fw (Vb (Wn Wz (Za 0) (Xw (eC (.int 1))) VD)) D) [.lst (tL (Yq n n A))]=aA (.int (ZH n A)):=by
 refine T8 b d (by show aA (PV.int ((tL (Yq n n A)).length:Int))=_;rw[We]) (λa=>Xn (Uq a)) (λa l g h=>?_) c;have e:Xv (tL (Yq n n A)) (aA ((1:Nat):Int)) none=(aI (n-1)).map λr=>pP (ZM n (A (r+1))):=by rw[P9 (by rw[We];omega),Vv];obtain⟨k,f⟩:∃k,n=k+1:=⟨n-1,by omega⟩;subst f;rw[fC,eJ,jr,jl,cH];rfl
 rw[<-e];rfl
theorem Gp{n:Nat}{A:Mt}(f:n<=3)(b:∀i j,i<n->j<n->(A i j).natAbs<=55):Xr [.lst (tL (Yq n n A))]=aA (.int (ZH n A)):=
 VV (by omega) b λB e a=>VV (D:=WH) (by omega) a λB c a=>VV (D:=WG) (by omega) a λB g a=>VV (D:=WE) (by omega) a λB d a=>by omega
theorem Kh{A:Mt}(h:m<=4)(c:∀i j,i<m->j<m->(A i j).natAbs<=55):Ue [wP (Yq m m A)]=aA (.int (ZH m A)):=by
 refine T8 (fi:=V8 (Wn Xc (Za 0) (Xw (eC (.int 1))) VD)) (D:=Xr) (by omega) c (by rw[O1,UX]) (λa=>Xn (Uq a)) (λa l f g=>?_) λB a b=>Gp (by omega) b;have e:Xv (tL (Yq m m A)) (aA ((1:Nat):Int)) none=(aI (m-1)).map λr=>pP (ZM m (A (r+1))):=by rw[P9 (by rw[We];omega),Vv];obtain⟨k,d⟩:∃k,m=k+1:=⟨m-1,by omega⟩;subst d;rw[fC,eJ,jr,jl,cH];rfl
 refine Vn ?_;rw[Xq];show Xc (.tup (tL (Yq m m A))) (aA ((1:Nat):Int)) none=_;unfold Xc;simp only[];rw[k9,e];rw[HT.sIx_none,HT.sIx_nat,We];omega
end
theorem Gq(t:Int):Yv [.int t]=aA (.bl aC):=by simp[Yv,To,YL,ZL]
theorem law_true(e:List Int)(q:e.length<=63)(D:∀n∈e,n.natAbs.log2<=1048576):D_law [.cst (iL e)]=aA (.bl aC):=by
 obtain⟨W,y,ok,b,M,f⟩:=Mw q (mo:=5) (by omega) (by omega);have P:=ok.pos;obtain⟨m,c⟩:∃m,W.length=m+1:=⟨W.length-1,by omega⟩;obtain⟨E,Q,J,A,I,O,S,H⟩:=J8 ok b (by omega) f c;have h:=GX ok b c f;have d:=Gj (m:=m) (L:=RV m E) (B:=λi j=>(PM.mul m (Zz W 0) (Qr m E) i j).fdiv (E j j)) (R:=Qr m E) (F:=λi j=>(PM.mul m (RV m E) (Zz W 0) i j).fdiv (E i i)) (v:=λi=>E i i) (by omega);have z:=J9 A (Gm ok b c);have sq:=Sm ok;rw[show W.length-1=m by omega] at sq;have u:=Kh (m:=m) (by omega) h;have ct:=Ia ok b c;rw[<-z] at u ct;have r:∀k,k<m->(E k k).natAbs<=2^20:=λk x=>by have t:=dc (by have:=(J4 ok b (by omega) c).nz;omega) (bh.mpr (H k x));have N:=C9 ok b c (by omega) f;omega
 let V:PV:=.tup [wP (Yq m m (RV m E)),wP (CN W m E),wP (Yq m m (Qr m E)),wP (CO W m E),pP (ZM m λi=>E i i)];refine O0 (Z7 (Zy (c2 rfl rfl y)) (Z7 (Zy (c1 rfl J)) (Z7 (DY (xn (xb (c2 rfl ((C5 (c1 rfl O1) rfl).trans (by congr 2;omega)) d)))) (Z7 (Zy (vP rfl)) (UW (Mh (ls:=(aI m).map λi=>.int (E i i)) (λi s=>∃o,s=[aA (.cst (iL e)),aA (wP W),aA V,aA (.int (O8 E i)),o,none]) ?_ ⟨none,rfl⟩ ?_) ?_)))))
 ·refine(Vn (o2 rfl rfl rfl)).trans ?_;show aA (gj PV.int (gj _ (aI m)))=_;rw[cH];rfl
 ·rintro i l s g ⟨o,rfl⟩;have w:i<m:=by simpa using(aV.mp g).1
  rw[aQ,ak w] at g;cases g;have t:=Lh (E:=E) (m:=i) λk x=>r k (by omega);refine⟨_,rfl,L8 (Zy (vP (a:=O8 E (i+1)) (vC (C:=CMulW) (op:=(· * ·)) rfl rfl (JZ (G:=200) (ay t (cM (by omega) (by omega))) (ay (r i w) (cM (by omega) (by omega))) (by omega) (by omega))))) ⟨_,rfl⟩⟩
 ·rintro s ⟨o,rfl⟩;rw[aO,bY];refine Z7 (Zy (c1 rfl ct)) (XG (ep (v:=.bl aC) (eu (ea (p:=aC) (p2:=aC) (c1 rfl (Gq _)) (eu (ea (p:=aC) (p2:=aC) ((JQ rfl (c1 (c1 rfl sq) u)).trans (by rw[decide_eq_true rfl])) ((JQ rfl rfl).trans (by rw[decide_eq_true rfl]))) rfl)) rfl)) rfl)
end PW
namespace PW
open PySem L2 VL
theorem all_mk{P:bM}{w:bz}{K:aD}{mg:ah->Option aF}{fa:aH}(hfa:mg "law" = aA (.ref fa))(B:Wt mg)(T:P.given.tree=none)
  (d0:Def K mg "_law_cell" RA)
  (d1:Def K mg "_law_part" RD)
  (d2:Def K mg "_law_tie" PH)
  (d3:Def K mg "_law_web" PJ)
  (d4:Def K mg "ties_at" Tx)
  (d5:Def K mg "row_of" RE)
  (d6:Def K mg "square_without" Y3)
  (d7:Def K mg "square_of" Vr)
  (d8:Def K mg "unit_row" Uk)
  (d9:Def K mg "block_of" Ul)
  (d10:Def K mg "rows_to_clear" Xh)
  (d11:Def K mg "less" N5)
  (d12:Def K mg "cleared_below" Xi)
  (d13:Def K mg "turned_over" Wa)
  (d14:Def K mg "crossed_out" Wb)
  (d15:Def K mg "unfit_row" Vs)
  (d16:Def K mg "part_found" WS)
  (d17:Def K mg "divided" TF)
  (d18:Def K mg "row_by_column" Xj)
  (d19:Def K mg "row_times" Vt)
  (d20:Def K mg "multiplied" WT)
  (d21:Def K mg "parts" PU)
  (d22:Def K mg "reduced" TL)
  (d23:Def K mg "evened" RI)
  (d24:Def K mg "determinant" Wc)
  (d25:Def K mg "tree_count" WU)
  (d26:Def K mg "_law_whole" TM)
  (d27:Def K mg "_law_row" PX)
  (d28:Def K mg "_law_square" Um)
  (d29:Def K mg "_law_told" RL)
  (d30:Def K mg "_law_weight" WV)
  (d31:Def K mg "_law_weight" WW)
  (d32:Def K mg "_law_weight" WX)
  (d33:Def K mg "_law_weight" WY)
  (d34:Def K mg "_law_weight" WZ)
  (d35:Def K mg "_law_weight" Uo)
  (d36:Def K mg "_law_web_square" XB)
  (d37:Def K mg "law" JH)
  : ∃fd:dP,(∀(s:aL)(u:aF),jG s fd ⟨[u],[]⟩ [("_law_script",u)])/\∀base:bU,K.In base->base.Ns cJ mg->T9 P w K mg base Nw 40 fa fd ["_law_script"] (Y6 K D_law 1):=by
 refine Jf d37 hfa (λ_ _ _ _ _ _ _=>rfl) λbase f fd _ _ F=>?_;have C_m_cell:Rv P w K mg base:=LW d0 B;have C_l_part:Rw P w K mg base:=LX d1 B;have C_l_tie:=JC (P:=P) (w:=w) (base:=base) d2 B;have C_l_web:PB P w K mg base:=JD d3 B C_m_cell C_l_part C_l_tie;have C_ties_at:Tu P w K mg base:=N4 d4 B;have C_row_of:Rx P w K mg base:=LZ d5 B C_ties_at;have C_square_without:Y2 P w K mg base:=UT d6 B C_row_of;have C_square_of:XW P w K mg base:=PL d7 B C_square_without;have C_unit_row:Ug P w K mg base:=OR d8 B;have C_block_of:Uh P w K mg base:=OS d9 B C_unit_row;have C_rows_to_clear:Xe P w K mg base:=TB d10 B;have C_less:PD P w K mg base:=HC d11 B;have C_cleared_below:Xf P w K mg base:=TC d12 B T C_rows_to_clear C_less;have C_turned_over:X7 P w K mg base:=RG d13 B;have C_crossed_out:X8 P w K mg base:=RH d14 B C_cleared_below C_turned_over;have C_unfit_row:Vp P w K mg base:=PN d15 B;have C_part_found:WI P w K mg base:=Qc d16 B C_crossed_out C_unfit_row C_less;have C_divided:Tv P w K mg base:=N7 d17 B;have C_row_by_column:Xg P w K mg base:=TJ d18 B;have C_row_times:Vq P w K mg base:=PR d19 B C_row_by_column;have C_multiplied:WK P w K mg base:=Qe d20 B C_row_times;have C_parts:PF P w K mg base:=JE d21 B C_square_of C_block_of C_part_found C_divided C_multiplied;have C_reduced:Tw P w K mg base:=N9 d22 B;have C_evened:Ry P w K mg base:=L0 d23 B C_reduced;have C_determinant:X9 P w K mg base:=RK d24 B C_evened;have C_tree_count:WL P w K mg base:=Qg d25 B C_determinant C_square_of;have C_l_whole:VQ P w K mg base:=Mc d26 B;have C_l_row:Sy P w K mg base:=JG d27 B C_l_whole;have C_q_square:Ui P w K mg base:=OU d28 B C_l_row;have C_q_told:Rz P w K mg base:=L4 d29 B C_l_row C_q_square;have C_l_weight_n:WM P w K mg base:=Qi d30 B;have C_l_weight_0:WN P w K mg base:=Qj d31 B C_l_weight_n;have C_l_weight_1:WO P w K mg base:=Qk d32 B C_l_weight_0;have C_l_weight_2:WQ P w K mg base:=Ql d33 B C_l_weight_1;have C_l_weight_3:WR P w K mg base:=Qm d34 B C_l_weight_2;have C_l_weight:Uj P w K mg base:=OV d35 B C_l_weight_3;have C_l_web_square:XA P w K mg base:=Sl d36 B;exact Ee F B C_l_web C_parts C_q_told C_tree_count C_l_weight C_l_web_square C_l_whole
end PW
namespace PySem.W.Fast
def tw3022775956567240138:=()
def tw9415804403847876738:=()
def tw2361013209988378895:=()
def tw3463089046951513555:=()
def tw77433911305228813:=()
def tw3175523571104196256:=()
def tw15207826669556743859:=()
def tw5291175417089544664:=()
def tw6512644538700907477:=()
def tw15028623503408920919:=()
def tw71024796473585543:=()
def tw7196811895592754452:=()
def tw16472208129759549395:=()
def tw13741389710867062891:=()
def tw14368261292563295361:=()
def tw2793936133321829239:=()
def tw2516291314776662846:=()
def tw15580077219524124799:=()
def tw17878834821739683879:=()
def tw3958736776133419752:=()
def tw10117142374553669110:=()
def tw10337848332606808809:=()
def tw5179789320858148141:=()
def tw12580002360019361874:=()
def tw17042982587939127568:=()
def tw11116699738027995964:=()
def tw1872462514122731758:=()
def tw6908444015829075642:=()
def tw11873912261249829878:=()
def tw15625965275275947758:=()
def tw5693897112850644119:=()
def tw18356419121577812990:=()
def tw3125740088313303551:=()
def tw13854266014590935246:=()
def tw3033263913832684401:=()
def tw7762685608668265965:=()
def tw2307113204060341507:=()
def tw11253394709897128969:=()
def tw16286428103775233324:=()
def tw1672660585406635505:=()
def tw12660787479906363216:=()
def tw7254715403809743450:=()
def tw2218859764702651430:=()
def tw12972528715464141609:=()
def tw15585588190020015678:=()
def tw12262949276968692017:=()
def tw4794252104875691711:=()
def tw16949712618717672025:=()
def tw593609856267899973:=()
def tw10587404266074652512:=()
def tw8031483839246300978:=()
def tw13637969310720236075:=()
def tw11245741810471156983:=()
def tw3086022899141382759:=()
def tw10759619690145254455:=()
def tw14902467032238948073:=()
def tw16156502731053654823:=()
def tw6172789831722379877:=()
def tw5697226765219969023:=()
def tw13909840745676937594:=()
def tw6556504733505584125:=()
def tw321476474820846330:=()
def tw11213393148290228088:=()
def tw16907613146133251094:=()
def tw4301124375825959068:=()
def tw2424574991935548185:=()
def tw16508013793060207217:=()
def tw762677547967795877:=()
def tw10627924828574343416:=()
def tw8267776702423896420:=()
def tw9943427889136597158:=()
def tw7343889524645982172:=()
def tw256066520126894574:=()
end PySem.W.Fast
open PySem PySem.W PyProof.Rows
set_option maxRecDepth 100000 in
set_option maxHeartbeats 0 in
theorem PySem.Challenge.cw_purseweb_k63_whole_parts_are_trees_holds : PySem.Challenge.rw_purseweb_k63_whole_parts_are_trees.Holds := by
 w_on;o_law;k_head;(case hw=>w_witness2)
 k_fill
 refine VL.law_walkB (l:=fX) (D:=PW.D_law) (x:="_law_script") 40 rfl rfl ⟨rfl,by decide,by decide,rfl⟩ (λw=>VL.noLam (by kernel_rfl)) PW.law_true (λw h Y=>PySem.W.kIn_of Y) ?F
 case F=>
  intro w mg fa h KX G hmg
  refine' PW.all_mk hmg ?B rfl ?d0 ?d1 ?d2 ?d3 ?d4 ?d5 ?d6 ?d7 ?d8 ?d9 ?d10 ?d11 ?d12 ?d13 ?d14 ?d15 ?d16 ?d17 ?d18 ?d19 ?d20 ?d21 ?d22 ?d23 ?d24 ?d25 ?d26 ?d27 ?d28 ?d29 ?d30 ?d31 ?d32 ?d33 ?d34 ?d35 ?d36 ?d37
  case B=>constructor<;>(refine PySem.W.mg_none_of KX G ?_;k_is)
  case d0 | d1 | d2 | d3 | d4 | d5 | d6 | d7 | d8 | d9 | d10 | d11 | d12 | d13 | d14 | d15 | d16 | d17 | d18 | d19 | d20 | d21 | d22 | d23 | d24 | d25 | d26 | d27 | d28 | d29 | d30 | d31 | d32 | d33 | d34 | d35 | d36 | d37=>(refine' L2.def_mk KX G ?a ?l ?c ?k;(case a=>k_is);(case l=>k_is);(case c=>k_is);(case k=>k_is))
