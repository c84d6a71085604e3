import PyProof.Rows.All
import Wide.All
import OpenK.AllK
import Wide.FinOn
import Lean
import PyProof.EqAt
import PyProof.EqKinds
import PyProof.TupleCall
import PyProof.NeKinds
import PyProof.ListMulRoad
import PyProof.WalkInts
import PyProof.ListRange
import KE.KRevIter
import KE.KSortTup
import KE.KDictSum
import PyProof.Rows.SortWalk
import PyProof.ExcInit
import PyProof.InstStoreFacts
import OpenK.KMake
import OpenK.KCls
import PyProof.FString2
import PyProof.TupleOfSeq
import KE.KUnpack
import PySem.Challenge.RW_purseweb_k62_parts_of_a_web
open Option renaming some → aA,bind_some → a9,isSome_iff_exists → bW,map_some → dX,bind → fH,getD_none → jJ,none → jj,some → ax
open Bool renaming false → aB,true → aC,false_ne_true → bK,and_eq_true → bU,eq_iff_iff → gv,and_self → jd
open PySem.W renaming Frag → aD,kia_one → bp,codeIn → cJ,kitOne → cM,fnOf → cN,keepIn → eV,cellsFrom_some → gg,nsIn → gk,instObj → gp,lookIn → iA,kitx_list → il,kitx_dict → ip,plainGet → jI,findIn → j2
open PySem.Heap renaming get?_push_of_some → aE,lt_size → aP,get?_push_size → aY,size_push → bg,SameBut → cC,get?_update_other → gi,get?_update_self → gz,ExtBut → jP
open PySem renaming Value → aF,Addr → aG,wpAny_bind → aI,Shared → aL,starEach → aT,wpAny_pure → ag,Str → ah,Expr → au,wpAny → az,Program → bH,foldedSetIterable → bI,Heap → bP,Stmt → bb,Around → bc,World → bu,wpAny_field → cA,mainGlobals → cE,wpAny_mono → cK,wpAny_truthy_bool → cL,mem_of_lookup → cQ,bootBuiltins → cU,wpAny_callSpecial?_slot → cX,wpAny_newObj_type → cY,Obj → c9,behindInMarks → ck,Scope → cq,NameKind → cu,wpAny_seqItems → cv,wpAny_setField_rec → cw,wpAny_passesOwn → cz,binaryOp → dC,FuncData → dJ,backTo → dh,IsPair → di,Pos → dk,wpAny_call_entry → dt,wpAny_comprehension_free → eD,wpAny_ite_false → eJ,call_meets → eK,compareOp → eM,sliceBounds → eQ,wpAny_updateSeq_pair → fF,wpAny_execs_nil → fK,wpAny_loadPart' → fL,swapsWith → fS,cellsFrom → fT,assignEach → fV,wpAny_Call_Name_kw → fX,newFunctionEnv → fZ,wpAny_binaryOp_repeat_ref → gD,wpAny_holding → gM,wpAny_onRaise → gP,bindArgs → gW,codeAny → g9,typeIs_int → gj,letOwnedTupleGo → gq,IsZip → gu,wpAny_isTrue_Compare1 → gy,rawInt → hV,sizeLine_eq → hW,recursionLimit → iB,compEnvC → iC,PassesOwn → iM,notedBy → iN,Builtin → iO,wpAny_standAt → iS,cLine → iT,builtinsNs → iU,wpAny_pyIter_tuple → iV,IsPart → iX,BindsTo → ir,codeAny_mono → iu,seqIndex_neg → iz,callerA → jA,Env → jG,pushCells → jM,seqIndex_of → jO,wpAny_letGo → jQ,getItem → jX,isTrue → jZ,wpAny_Name → j0,CmpOp → j1,bindL → j3,bindC → j4,wpAny_rule → j5,Within → jf,pyNext → jh,Result → ji
open Nat renaming le_refl → aH,le_trans → aQ,lt_of_lt_of_le → aZ,le_mul_of_pos_right → ar,ne_of_lt → aw,lt_of_le_of_lt → bA,mul_le_mul_left → bG,one_le_two_pow → b6,lt_irrefl → bh,mul_comm → br,zero_le → cB,pow_lt_pow_right → cH,mul_le_mul → cP,le_of_lt → cV,lt_of_le_of_ne → cx,min_eq_left → dB,mul_le_mul_right → dF,pow_succ → dG,le_add_right → dM,le_mul_of_pos_left → dR,mul_assoc → dY,le_of_dvd → dZ,mul_left_comm → df,one_le_pow → dj,ne_of_gt → dm,pow_add → eT,le_succ_of_le → el,pow_le_pow_left → fO,not_lt → f9,lt_succ_self → gX,min_eq_right → gY,sub_zero → gm,le_succ → iD,add_mul → iH,one_mul → iI,pow_le_pow_right → iJ,add_le_add_right → iK,add_left_cancel → iR,add_sub_cancel → ic,mod_lt → ij,mod_eq_of_lt → jN,div_add_mod → jU
open List renaming range → aJ,getElem?_eq_getElem → aM,getD_eq_getElem?_getD → aN,size_toArray → aO,getElem?_map → aR,length_map → aS,replicate → aU,mem_cons_of_mem → aV,getElem?_eq_some_iff → aW,mem_range → aX,mem_cons_self → a0,mem_cons → aa,mem_append_right → af,getElem?_set → aj,all_eq_true → ak,mem_singleton → av,getElem?_append_left → ay,getElem?_range → bB,lookup_cons → bF,getElem?_eq_none → bJ,nodup_cons → bM,map_congr_left → bN,mem_append_left → bO,getElem?_append_right → bQ,take_of_length_le → bV,length_append → bX,getElem?_replicate → bZ,length_range → b0,length_cons → b9,mem_append → bj,length_set → bq,mem_map → bt,not_mem_nil → cG,ext_getElem? → cO,length_replicate → cS,nodup_nil → cW,map_append → cZ,replicate_succ → cb,map_map → cg,append_nil → dA,mem_of_getElem? → dD,getElem_mem → dN,range_succ → dW,flatten_cons → dc,length_drop → dq,any_eq_true → du,map_cons → eG,any_eq_false → eU,append_assoc → eY,drop_eq_nil_of_le → eh,length_take → fC,filter_cons → fD,length → fE,mem_iff_getElem → fG,mem_filter → fJ,filterMap_cons → fN,getElem?_drop → fY,drop_zero → fj,getElem?_zip_eq_some → gF,nodup_append → gH,all_cons → gQ,set_eq_of_length_le → gR,getElem?_set_self → g8,of_mem_zip → gs,getElem?_set_ne → hU,take_zero → iE,mem_of_mem_take → iG,mem_filterMap → iW,foldl → iZ,zip_cons_cons → i7,map_set → jB,map → jC,getElem_inj → jH,take_length → jL,sum_append → jT,range_add → j8,take_nil → j9,drop_nil → ja,map_take → jb,map_drop → jc
open Ne renaming symm → ao
open Option.some renaming inj → aq
open PySem.NameKind renaming free → bC,cell → bY
open Int renaming mul_comm → bD,mul_zero → bR,neg_mul → bS,mul_assoc → bT,zero_mul → b5,natAbs_mul → b7,natAbs_dvd_natAbs → ba,dvd_zero → cD,one_mul → cp,mul_left_comm → dE,mul_fdiv_cancel_left → dH,mul_nonneg → dP,le_of_mul_le_mul_left → dw,mul_one → eN,toNat_natCast → eZ,natAbs_neg → eu,dvd_refl → fA,le_refl → fI,add_zero → fP,le_of_lt → fQ,zero_dvd → fR,fdiv_eq_ediv_of_nonneg → fW,emod_lt_of_pos → fu,lt_or_gt_of_ne → gA,mul_neg_of_neg_of_pos → gG,mul_neg → gJ,natAbs_sub_le → gL,dvd_mul_of_dvd_right → gU,eq_ofNat_of_zero_le → g6,fmod_nonneg_of_pos → gn,emod_nonneg → gx,not_lt → i9,natCast_nonneg → ie,fmod_lt_of_pos → ig,sub_zero → jD,mul_add → jR,add_mul → jS,fdiv → j7
open Classical renaming byContradiction → bz
open PyProof.Rows renaming callWith_type1 → cI,slot_tuple_getitem → dI,envOfC → fB,AllBare → g7,subscriptTail_builtinR → gh,floordiv_int → ik
open True renaming intro → cT
open PySem.Builtin.Slice renaming slicePlaces → cy,sliceAdjust → gC
open PySem.F renaming plainAttrs_list → dO,slot_list_append → eH,type_list_append → eI
open False renaming elim → dQ
open ForInStep renaming yield → dS
open Eq renaming trans → dU
open Array renaming length_toList → dy,toList_append → iP,toList → jg
open PySem.Builtin.Int renaming intBits → dz
open PySem.Builtin.List renaming listTooLong → eA
open PySem.PassesOwn renaming never → fM
open PySem.Calls renaming Name_function_global → fU
open PySem.Builtin.SmallTypes renaming nextOf → gE
open Or renaming inr → gO,inl → i5
open PySem.Challenge renaming pw_purseweb_k62_parts_of_a_web → gS,rw_purseweb_k62_parts_of_a_web → gV
open PySem.W.WData renaming weightAll → gZ,int → jK
open PySem.SeqAt.EqAt renaming same → gw,of_refs → i8
open PySem.Heap.SameBut renaming update → iQ
open PySem.Obj renaming mapSeq → iY,data_mapFields → i6
open PySem.Value renaming int → jE,ref → jF,type → jY
open Sum renaming inl → jV,inr → jW
open PySem.SeqAt renaming EqAt → j6
open PyProof.Rows.IsTup renaming new → je
open PySem.Shared renaming heap → jl
open PySem.PylongRoom renaming of → jm
theorem ju.{u}{c:Prop}{h:Decidable c}(a:c){b:Sort u}{t e:b}:ite c t e=t:=if_pos a
theorem jv.{u}{c:Prop}{h:Decidable c}(a:Not c){b:Sort u}{t e:b}:ite c t e=e:=if_neg a
noncomputable section
set_option Elab.async false
set_option linter.all false
set_option maxRecDepth 100000
namespace L2
open PySem PySem.Spec PyProof.Rows
abbrev S6:=Sum Int ah
noncomputable def IL:S6->aF->Bool
 | .inl k,v=>aF.isInt k v
 | .inr x,v=>aF.isStrOf x v
noncomputable def EF(w:bu):S6->Int
 | .inl k=>hashInt k
 | .inr x=>hashStr w x
theorem Z3:∀{k:S6}{v:aF},IL k v=aC->(∃i t,k=jV i/\v=jE i t)\/(∃x t,k=jW x/\v=aF.str x t)
 | .inl i,v,h=>by obtain⟨t,e⟩:=aF.isInt_shape h;exact .inl ⟨i,t,rfl,e⟩
 | .inr x,v,h=>by obtain⟨t,e⟩:=aF.isStrOf_shape h;exact .inr ⟨x,t,rfl,e⟩
theorem Hq(a b:Int):decide ((jV a:S6)=jV b)=(a==b):=by grind
theorem Hr(a b:ah):decide ((jW a:S6)=jW b)=decide (a=b):=by simp
theorem Hs(a:Int)(b:ah):decide ((jV a:S6)=jW b)=aB:=decide_eq_false (λq=>nomatch q)
theorem Ht(a:ah)(b:Int):decide ((jW a:S6)=jV b)=aB:=decide_eq_false (λq=>nomatch q)
noncomputable def NA(prog:bH)(w:bu):PySem.KeyKind prog w S6 where
 is:=IL
 hash:=EF w
 inj:=λv a b ha hb=>by
  rcases Z3 ha with⟨i,t,rfl,rfl⟩ | ⟨x,t,rfl,rfl⟩
  ·rcases Z3 hb with⟨j,u,rfl,e⟩ | ⟨y,u,rfl,e⟩
   ·injection e with e1 _;rw[e1]
   ·exact nomatch e
  ·rcases Z3 hb with⟨j,u,rfl,e⟩ | ⟨y,u,rfl,e⟩
   ·exact nomatch e
   ·injection e with e1 _;rw[e1]
 byValue:=λk v h=>by rcases Z3 h with⟨i,t,rfl,rfl⟩ | ⟨x,t,rfl,rfl⟩<;>rfl
 pyHash:=λhv h=>by
  rcases Z3 hv with⟨i,t,rfl,rfl⟩ | ⟨x,t,rfl,rfl⟩
  ·exact wpAny_pyHash_int h
  ·exact wpAny_pyHash_str h
 eqBool:=λhu hv h=>by
  rcases Z3 hu with⟨i,t,rfl,rfl⟩ | ⟨x,t,rfl,rfl⟩
  ·rcases Z3 hv with⟨j,u,rfl,rfl⟩ | ⟨y,u,rfl,rfl⟩
   ·rw[Hq] at h;exact wpAny_eqBool_int h
   ·rw[Hs] at h;exact j6.int_str i t y u _ _ _ _ h
  ·rcases Z3 hv with⟨j,u,rfl,rfl⟩ | ⟨y,u,rfl,rfl⟩
   ·rw[Ht] at h;exact j6.str_int x t j u _ _ _ _ h
   ·rw[Hr] at h;exact wpAny_eqBool_str h
 «strs»:=λk x t v h=>by
  rcases Z3 h with⟨i,u,rfl,e⟩ | ⟨y,u,rfl,e⟩
  ·exact nomatch e
  ·injection e with e1 _;subst e1;cases v<;>rfl
inductive V where
 | non | bl (b:Bool) | int (i:Int) | str (x:ah) | byt (b:Array UInt8) | flt (b:UInt64) | ref (a:aG) | ty (n:String)
 deriving DecidableEq
noncomputable def RelV:V->aF->Prop
 | .non,u=>u=aF.none
 | .bl b,u=>u=aF.bool b
 | .int i,u=>∃t,u=jE i t
 | .str x,u=>∃t,u=aF.str x t
 | .byt b,u=>∃t,u=aF.bytes b t
 | .flt b,u=>∃t,u=aF.float b t
 | .ref a,u=>u=jF a
 | .ty n,u=>u=jY n
abbrev Vals:List V->List aF->Prop:=Paired RelV
theorem Vals.length{b:List V}{a:List aF}(r:Vals b a):b.length=a.length:=Paired.length r
theorem Vals.get:∀{xs:List V}{us:List aF}{i:Nat}{x:V},Vals xs us->xs[i]?=aA x->∃u,us[i]?=aA u/\RelV x u
 | _,_,_,_,.nil,e=>by simp at e
 | _,_,0,_,.cons r _,e=>by simp at e;subst e;exact⟨_,rfl,r⟩
 | _,_,i+1,x,.cons _ t,e=>by obtain⟨u,b,a⟩:=Vals.get (i:=i) (x:=x) t (by simpa using e);exact⟨u,by simpa using b,a⟩
theorem Vals.set{x:V}{u:aF}(r:RelV x u):∀{xs:List V}{us:List aF}(i:Nat),Vals xs us->Vals (xs.set i x) (us.set i u)
 | _,_,_,.nil=>.nil
 | _,_,0,.cons _ t=>.cons r t
 | _,_,i+1,.cons q t=>.cons q (Vals.set r i t)
theorem Vals.append:∀{xs ys:List V}{us ws:List aF},Vals xs us->Vals ys ws->Vals (xs++ys) (us++ws)
 | _,_,_,_,.nil,s=>s
 | _,_,_,_,.cons r t,s=>.cons r (Vals.append t s)
theorem Vals.take:∀{xs:List V}{us:List aF}(n:Nat),Vals xs us->Vals (xs.take n) (us.take n)
 | _,_,0,_=>.nil
 | _,_,_+1,.nil=>.nil
 | _,_,n+1,.cons r t=>.cons r (Vals.take n t)
theorem Vals.drop:∀{xs:List V}{us:List aF}(n:Nat),Vals xs us->Vals (xs.drop n) (us.drop n)
 | _,_,0,r=>r
 | _,_,_+1,.nil=>.nil
 | _,_,n+1,.cons _ t=>Vals.drop n t
noncomputable def Hu:Option V->Option aF->Prop
 | some v,aA u=>RelV v u
 | none,none=>True
 | _,_=>False
noncomputable def KV{κ:Type}:List (κ×V)->List (κ×aF)->Prop:=Paired λ(p:κ×V) (q:κ×aF)=>p.1=q.1/\RelV p.2 q.2
noncomputable def kV:S6->V
 | .inl i=>.int i
 | .inr x=>.str x
inductive HO where
 /-- a list -/
 | lst (xs:List V)
 /-- a tuple (never changes) -/
 | tup (xs:List V)
 /-- a dict whose keys are ints and texts;one whose keys are tuples of ints and texts (the empty one is both) -/
 | dK (jo:List (S6×V)) | dT (jo:List (List S6×V))
 /-- a set of ints: jt members,jt size -/
 | set (S:Int->Bool) (n:Nat)
 /-- an instance of the class at C,jt dict at dx,jt attributes -/
 | ins (C dx:aG) (fs:List (ah×V))
 /-- the dict of the instance at x -/
 | own (x:aG)
 /-- the dict of an exception -/
 | xd (fs:List (ah×V))
 /-- a bound method,f of x -/
 | met (f x:aG)
 /-- a range object lo,lo+1,.. below hi -/
 | rng (lo hi:Int)
 /-- a thing that is known to the object (the script;a dict while a loop walks it): read,never written while it is so -/
 | frz (o:c9) (u:HO)
 /-- a code object's table -/
 | tbl (ps:Array aF)
 /-- any other thing,by what is aC of jt one object (a def of one's own: SetO a S n:=HO.ext λh=>..) -/
 | ext (φ:bP->Prop)
abbrev Hp:=aG->Option HO
noncomputable def upd(H:Hp)(a:aG)(o:HO):Hp:=λb=>if b=a then aA o else H b
theorem Zp{H:Hp}{a:aG}{o:HO}:upd H a o a=aA o:=by unfold upd;rw[ju rfl]
theorem upd_ne{H:Hp}{a b:aG}{o:HO}(h:b≠a):upd H a o b=H b:=by unfold upd;rw[jv h]
theorem Zm{H:Hp}{a b:aG}{o:HO}(h:H a=aA o)(c:H b=none):a≠b:=by grind
noncomputable def Mr(x:ah):Bool:=x=="tree_of" || x=="still_by" || x=="made_of"
noncomputable def EG(x:ah):ah:=x++".<locals>."++"<lambda>"
noncomputable def Lq(o:c9)(q:ah):Prop:=∃vs t,o.data = .fields vs/\vs[1]?=aA (.str q t)
noncomputable def Fo(q:ah)(H:Hp)(ps:List aF):Prop:=TriplesOk ps/\∀pos v,codeAmong pos ps=aA v->∃c o,v = .ref c/\H c=aA (.frz o (.own 0))/\Lq o q
theorem Qc{h:bP}{T:aF}{a:Array aF}{n:Nat}{o:c9}(e:(h.push { cls:=T,data:=.seq a n }).get? h.objs.size=aA o):o.dict=none:=by rw[aY _ rfl] at e;cases e;rfl
section
variable (P:bH) (w:bu)
noncomputable def ObjOk(H:Hp)(h:bP)(a:aG):HO->Prop
 | .lst xs=>xs.length<=sizeLine/\∃(jt:List aF) (n:Nat),Vals xs jt/\h.get? a=aA { cls:=.type "list",data:=.seq jt.toArray n }
 | .tup xs=>(xs.length<=sizeLine/\∀o,h.get? a=aA o->o.dict=none)/\∃jt:List aF,Vals xs jt/\IsTup h a jt.toArray
 | .dK jo=>jo.length<=sizeLine/\(a==sysModules)=aB/\∃vs,KV jo vs/\h.DictOf (NA P w) a vs
 | .dT jo=>jo.length<=sizeLine/\(a==sysModules)=aB/\∃xs:List (List S6×aG×aF),
   Paired (λ(p:List S6×V) (q:List S6×aG×aF)=>p.1=q.1/\H q.2.1=aA (.tup (p.1.map kV))/\RelV p.2 q.2.2) jo xs/\
   ∃o es ep,h.get? a=aA o/\o.ExactDict/\o.data = .dict es ep/\es.toList=xs.map (entryOfKey (tupleKind (NA P w)))/\(xs.map (·.1)).Nodup
 | .set S n=>h.SetOf (intKind P w) a S n
 | .ins C dx fs=>H dx=aA (.own a)/\fs.length<=1000/\dx≠a/\h.get? a=aA (gp C dx)/\
   ∃mA,h.Ns1 dx mA/\(∀f,Hu (fs.lookup f) (mA f))/\jf mA (fs.map (·.1))
 | .own _=>∃o,h.get? a=aA o
 | .xd fs=>∃mA,h.Ns1 a mA/\∀f,Hu (fs.lookup f) (mA f)
 | .rng lo hi=>∃t u v,h.get? a=aA { cls:=.type "range",data:=.fields #[.int lo t,.int hi u,.int 1 v] }
 | .frz o u=>h.get? a=aA o/\ObjOk H h a u
 | .tbl ps=>∃(q:ah) (t:Tok) (ps':Array aF),ps[0]?=aA (.str q t)/\h.get? a=aA { cls:=.none,data:=.fields ps' }/\Fo q H ps'.toList
 | .met f x=>h.get? a=aA (PySem.W.methodObj (.ref f) (.ref x))
 | .ext φ=>φ h/\(∃o,h.get? a=aA o)/\∀h1 h2:bP,φ h1->(∀o,h1.get? a=aA o->h2.get? a=aA o)->φ h2
noncomputable def HOk(H:Hp)(h:bP):Prop:=∀a o,H a=aA o->ObjOk P w H h a o
end
section
variable {P:bH} {w:bu} {H H':Hp} {h h':bP} {a:aG} {o:HO}
theorem ObjOk.lt(x:ObjOk P w H h a o):a<h.objs.size:=by
 cases o with
 | lst xs=>obtain⟨_,_,_,_,e⟩:=x;exact aP e
 | tup xs=>obtain⟨_,_,_,p⟩:=x;exact p.lt
 | dK jo=>obtain⟨_,_,_,_,o,_,_,e,_⟩:=x;exact aP e
 | dT jo=>obtain⟨_,_,_,_,o,_,_,e,_⟩:=x;exact aP e
 | set S n=>obtain⟨o,_,_,_,e,_⟩:=x;exact aP e
 | ins C dx fs=>obtain⟨_,_,_,e,_⟩:=x;exact aP e
 | own y=>obtain⟨_,e⟩:=x;exact aP e
 | xd fs=>obtain⟨_,⟨_,_,_,e,_⟩,_⟩:=x;exact aP e
 | rng lo hi=>obtain⟨_,_,_,e⟩:=x;exact aP e
 | frz ob u=>obtain⟨e,_⟩:=x;exact aP e
 | tbl ps=>obtain⟨_,_,_,_,e,_⟩:=x;exact aP e
 | met f y=>exact aP (show h.get? a=aA _ from x)
 | ext φ=>obtain⟨_,⟨_,e⟩,_⟩:=x;exact aP e
theorem Paired.mapP{d c:Type}{F G:d->c->Prop}:∀{l₁:List d}{l₂:List c},Paired F l₁ l₂->(∀a b,F a b->G a b)->Paired G l₁ l₂
 | _,_,.nil,_=>.nil
 | _,_,.cons r t,f=>.cons (f _ _ r) (Paired.mapP t f)
theorem ObjOk.stay(x:ObjOk P w H h a o)(k:∀b u,(b=a\/H b=aA (.own a))->h.get? b=aA u->h'.get? b=aA u)
  (M:∀b,H b=aA (.own a)->H' b=aA (.own a)) (I:∀b j,H b=aA (.tup j)->H' b=aA (.tup j)) (E:∀b u,H b=aA (.frz u (.own 0))->H' b=aA (.frz u (.own 0))):ObjOk P w H' h' a o:=by
 induction o with
 | lst j=>obtain⟨z,l,n,r,e⟩:=x;exact⟨z,l,n,r,k _ _ (.inl rfl) e⟩
 | tup j=>obtain⟨z,l,r,g,e,c⟩:=x;exact⟨⟨z.1,λo q=>by rw[k _ _ (.inl rfl) e] at q;cases q;exact z.2 _ e⟩,l,r,g,k _ _ (.inl rfl) e,c⟩
 | dK jo=>obtain⟨z,y,vs,r,g,i,ep,e,c⟩:=x;exact⟨z,y,vs,r,g,i,ep,k _ _ (.inl rfl) e,c⟩
 | dT jo=>
  obtain⟨z,y,j,r,g,i,ep,e,c⟩:=x;exact⟨z,y,j,Paired.mapP r λp q z=>⟨z.1,I _ _ z.2.1,z.2.2⟩,g,i,ep,k _ _ (.inl rfl) e,c⟩
 | set S n=>obtain⟨g,i,ep,t,e,c⟩:=x;exact⟨g,i,ep,t,k _ _ (.inl rfl) e,c⟩
 | ins C dx fs=>
  obtain⟨d,z,ne,e,A,⟨s,i,ep,B,c⟩,r⟩:=x;exact⟨M _ d,z,ne,k _ _ (.inl rfl) e,A,⟨s,i,ep,k _ _ (.inr d) B,c⟩,r⟩
 | own y=>obtain⟨g,e⟩:=x;exact⟨g,k _ _ (.inl rfl) e⟩
 | xd fs=>obtain⟨A,⟨s,i,ep,e,c⟩,r⟩:=x;exact⟨A,⟨s,i,ep,k _ _ (.inl rfl) e,c⟩,r⟩
 | rng lo hi=>obtain⟨t,u,v,e⟩:=x;exact⟨t,u,v,k _ _ (.inl rfl) e⟩
 | frz g u ih=>obtain⟨e,q⟩:=x;exact⟨k _ _ (.inl rfl) e,ih q⟩
 | tbl ps=>
  obtain⟨q,t,D,L,e,O,F⟩:=x;refine⟨q,t,D,L,k a _ (.inl rfl) e,O,λm v N=>?_⟩;obtain⟨c,o,G,B,J⟩:=F m v N;exact⟨c,o,G,E c o B,J⟩
 | met f y=>
  have e:=x;exact k a _ (.inl rfl) e
 | ext φ=>obtain⟨p,⟨o,e⟩,st⟩:=x;exact⟨st _ _ p λo q=>k _ _ (.inl rfl) q,⟨o,k _ _ (.inl rfl) e⟩,st⟩
theorem HOk.lt(x:HOk P w H h)(e:H a=aA o):a<h.objs.size:=(x a o e).lt
theorem HOk.fresh(x:HOk P w H h)(e:h.objs.size<=a):H a=none:=by
 cases q:H a with
 | none=>rfl
 | some u=>exact absurd (aZ (x.lt q) e) (bh _)
theorem HOk.kept(x:HOk P w H h)(k:∀b u,h.get? b=aA u->h'.get? b=aA u):HOk P w H h':=λa o e=>
 (x a o e).stay (λb u _ q=>k b u q) (λ_ q=>q) (λ_ _ q=>q) λ_ _ q=>q
theorem HOk.laid(x:HOk P w H h)(k:∀b u,h.get? b=aA u->h'.get? b=aA u)(g:h.objs.size<=a)(new:ObjOk P w (upd H a o) h' a o):HOk P w (upd H a o) h':=λb u e=>by
 have d:=x.fresh g;by_cases f:b=a
 ·subst f;rw[Zp] at e;cases e;exact new
 ·rw[upd_ne f] at e;exact(x b u e).stay (λc v _ q=>k c v q) (λc q=>by rw[upd_ne (Zm q d)];exact q) (λc i q=>by rw[upd_ne (Zm q d)];exact q) λc u q=>by rw[upd_ne (Zm q d)];exact q
end
noncomputable def Rd(H:Hp)(a:aG)(u:HO):Prop:=H a=aA u\/∃o,H a=aA (.frz o u)
theorem Rd.ok{P:bH}{w:bu}{H:Hp}{h:bP}{a:aG}{u:HO}(r:Rd H a u)(x:HOk P w H h):ObjOk P w H h a u:=by
 rcases r with r | ⟨o,r⟩
 ·exact x a u r
 ·obtain⟨_,q⟩:=x a _ r;exact q
noncomputable def Vb:Option HO->Prop
 | some (.lst _)=>True
 | some (.dK _)=>True
 | some (.dT _)=>True
 | some (.set _ _)=>True
 | some (.ins _ _ _)=>True
 | some (.ext _)=>True
 | _=>False
section
variable {P:bH} {w:bu} {H:Hp} {h h':bP} {x e:aG} {o':HO}
theorem HOk.write(ok:HOk P w H h)(f:Vb (H x))(o:e=x\/H e=aA (.own x))(k:∀b u,b≠e->h.get? b=aA u->h'.get? b=aA u)(m:∃u,h'.get? e=aA u)
  (new:ObjOk P w (upd H x o') h' x o'):HOk P w (upd H x o') h':=λb u q=>by
 have d:∀c y,H c=aA (.own y)->c≠x:=λc y r z=>by subst z;rw[r] at f;exact f
 have g:∀c l,H c=aA (.tup l)->c≠x:=λc l r z=>by subst z;rw[r] at f;exact f
 by_cases i:b=x
 ·subst i;rw[Zp] at q;cases q;exact new
 ·rw[upd_ne i] at q;by_cases a:b=e
  ·have n:H b=aA (.own x):=by
    rcases o with z | z
    ·exact absurd (a.trans z) i
    ·rw[a];exact z
   rw[q] at n;cases n;obtain⟨v,p⟩:=m;exact⟨v,by rw[a];exact p⟩
  ·refine(ok b u q).stay (λc v j r=>k c v ?_ r) (λc r=>by rw[upd_ne (d c b r)];exact r) (λc l r=>by rw[upd_ne (g c l r)];exact r) λc v r=>by rw[upd_ne (λz=>by subst z;rw[r] at f;exact f)];exact r
   rcases j with rfl | j
   ·exact a
   ·rintro rfl;rcases o with z | z
    ·exact d c b j z
    ·rw[j] at z;cases z;exact i rfl
end
structure Un(fs ex:List aG)(H H':Hp)(h h':bP):Prop where
 keep:∀b o,h.get? b=aA o->H b=none->b∉fs->b∉ex->h'.get? b=aA o
 slot:∀b o,h.get? b=aA o->H b=none->b∈fs->b∉ex->∃sl,h'.get? b=aA { o with slots:=sl }
 free:∀b o,h.get? b=aA o->H b=none->b∉ex->H' b=none
 there:∀b o,h.get? b=aA o->b∉ex->∃o',h'.get? b=aA o'
 tups:∀b xs,H b=aA (.tup xs)->H' b=aA (.tup xs)
 frzs:∀b o u,H b=aA (.frz o u)->H' b=aA (.frz o u)
 tbls:∀b ps,H b=aA (.tbl ps)->∃more,H' b=aA (.tbl (ps++more))
section
variable {fs fs' ex ex':List aG} {H H1 H2:Hp} {h h1 h2 h':bP} {a x e:aG} {o:HO}
theorem Un.any(u:Un fs ex H H1 h h1){b:aG}{a:c9}(q:h.get? b=aA a)(n:H b=none)(d:b∉ex):∃sl,h1.get? b=aA { a with slots:=sl }:=by
 by_cases c:b∈fs
 ·exact u.slot b a q n c d
 ·exact⟨a.slots,u.keep b a q n c d⟩
theorem Un.kept(k:∀b u,h.get? b=aA u->h'.get? b=aA u):Un fs ex H H h h':=
 ⟨λb a q _ _ _=>k b a q,λb a q _ _ _=>⟨a.slots,k b a q⟩,λ_ _ _ n _=>n,λb a q _=>⟨a,k b a q⟩,λ_ _ q=>q,λ_ _ _ q=>q,λ_ c q=>⟨#[],by rw[q];simp⟩⟩
theorem Un.refl:Un fs ex H H h h:=Un.kept λ_ _ q=>q
theorem Un.laid(k:∀b u,h.get? b=aA u->h'.get? b=aA u)(e:h.objs.size<=a)(c:H a=none):Un fs ex H (upd H a o) h h' where
 keep:=λb u q _ _ _=>k b u q
 slot:=λb u q _ _ _=>⟨u.slots,k b u q⟩
 free:=λb u q n _=>by rw[upd_ne (aw (aZ (aP q) e))];exact n
 there:=λb u q _=>⟨u,k b u q⟩
 tups:=λb d q=>by rw[upd_ne (Zm q c)];exact q
 frzs:=λb u d q=>by rw[upd_ne (Zm q c)];exact q
 tbls:=λb f q=>⟨#[],by rw[upd_ne (Zm q c),q];simp⟩
theorem Un.write(c:Vb (H x))(m:e=x\/H e=aA (.own x))(k:∀b u,b≠e->h.get? b=aA u->h'.get? b=aA u)(d:∃u,h'.get? e=aA u):Un fs ex H (upd H x o) h h':=by
 have i:∀b,H b=none->b≠x:=λb n z=>by subst z;rw[n] at c;exact c
 have g:∀b,H b=none->b≠e:=λb n z=>by
  subst z;rcases m with r | r
  ·exact i b n r
  ·rw[n] at r;cases r
 have f:∀b u,H b=aA u->¬Vb (aA u)->b≠x:=λb u q j z=>by subst z;rw[q] at c;exact j c
 refine⟨λb u q n _ _=>k b u (g b n) q,λb u q n _ _=>⟨u.slots,k b u (g b n) q⟩,λb u q n _=>by rw[upd_ne (i b n)];exact n,λb u q _=>?_,
  λb l q=>by rw[upd_ne (f b _ q λz=>z)];exact q,λb u l q=>by rw[upd_ne (f b _ q λz=>z)];exact q,λb p q=>⟨#[],by rw[upd_ne (f b _ q λz=>z),q];simp⟩⟩
 by_cases a:b=e
 ·subst a;exact d
 ·exact⟨u,k b u a q⟩
end
noncomputable def TabsH(K:aD)(mg:ah->Option aF)(base:bP)(H:Hp):Prop:=∀(q:ah)(c:aG),Mr q=aC->cJ K (.ref c) q=aC->
 ∃Pt ps t,PySem.W.CodeHd base c Pt/\H Pt=aA (.tbl ps)/\ps[0]?=aA (.str (EG q) t)/\base.BuiltinsAt mg Pt
theorem TabsH.un{K:aD}{e:ah->Option aF}{base:bP}{fs k:List aG}{H i:Hp}{h o:bP}(t:TabsH K e base H)(u:Un fs k H i h o):TabsH K e base i:=λq c j s=>by
 obtain⟨g,b,tk,m,r,d,l⟩:=t q c j s;obtain⟨f,p⟩:=u.tbls g b r
 have a:0<b.size:=by
  cases z:b.size with
  | zero=>rw[Array.getElem?_eq_none (by omega)] at d;cases d
  | succ n=>omega
 exact⟨g,_,tk,m,p,by rw[Array.getElem?_append_left a];exact d,l⟩
noncomputable def En(h:bP)(H:Hp):List aG:=(aJ h.objs.size).filter λa=>(H a).isSome
noncomputable def Qd(h:bP)(H:Hp):bP:=PySem.W.hideAll h (En h H)
theorem Ms(h:bP)(H:Hp):(Qd h H).objs.size=h.objs.size:=PySem.W.hideAll_size _ _
theorem Lr{h:bP}{H:Hp}{b:aG}{o:c9}(e:h.get? b=aA o)(n:H b=none):(Qd h H).get? b=aA o:=
 PySem.W.hideAll_get _ e λa=>by have q:=(fJ.mp a).2;rw[n] at q;simp at q
theorem Ja{h:bP}{H:Hp}{b:aG}{o:c9}(e:(Qd h H).get? b=aA o):h.get? b=aA o/\H b=none:=by
 have a:=PySem.W.of_hideAll (En h H) e;refine⟨a,?_⟩
 cases q:H b with
 | none=>rfl
 | some x=>
  have c:b∈En h H:=fJ.mpr ⟨aX.mpr (aP a),by simp[q]⟩;have z:(Qd h H).get? b=none:=PySem.W.hideAll_none (En h H) c;rw[z] at e;cases e
noncomputable def Jb(g h:bP)(L:aG):List (aG×c9):=(aJ h.objs.size).filterMap λa=>if a=L\/(g.get? a).isSome=aC then none else(h.get? a).map λo=>(a,o)
noncomputable def Z8(g h:bP)(L d:aG):List (aG×c9):=(Jb g h L).filter λp=>decide (p.1≠d)
structure Mod(K:aD)(mg:ah->Option aF)(base:bP):Prop where
 kin:K.In base
 glob:base.Ns cE mg
 blt:∃mb,base.Ns iU mb/\∀x:ah,x≠"__name__"->mb x=cU x
 nolimit:base.NoLimit
 seer:base.NoSeer
structure Cx where
 prog:bH
 w:bu
 K:aD
 mg:ah->Option aF
 base:bP
 A:bc
 N:List ah
 s₀:aL
 H₀:Hp
 env:jG
 outer:List jG
 stack:List jG
 ex:List aG
 fn:ah->Bool
 calm:Bool
 pn:List (aG×c9)
 xe:aF->aL->Prop
noncomputable def Ox(l:List jG):List aG:=l.filterMap (·.frame)
abbrev Cx.fs(X:Cx):List aG:=Ox X.outer
noncomputable def Eo(sc:cq)(x:ah):Prop:=sc.names.lookup x=aA .local\/sc.names.lookup x=aA .cell\/sc.names.lookup x=aA .free
noncomputable def Jc(sc:cq)(x:ah):Prop:=sc.names.lookup x=aA .local\/sc.names.lookup x=aA .cell
noncomputable def EH(env:jG)(h:bP)(m:ah->Option aF)(x:ah)(u:aF):Prop:=
 (env.kindOf x=aA .local/\m x=aA u)\/((env.kindOf x=aA .cell\/env.kindOf x=aA .free)/\∃c,env.cells.lookup x=aA c/\h.IsCell c (aA u))
structure Cx.Ok(X:Cx):Prop where
 mod:Mod X.K X.mg X.base
 kind:X.env.scope.kind = .function
 glob:X.env.globals=cE
 blt:X.env.builtins=iU
 above:X.s₀.heap.objs.size<=X.env.locals
 inj:∀x y c,X.env.cells.lookup x=aA c->X.env.cells.lookup y=aA c->x=y
 has:∀x,(X.env.kindOf x=aA .cell\/X.env.kindOf x=aA .free)->∃c,X.env.cells.lookup x=aA c
 cab:∀x c,X.fn x=aC->X.env.cells.lookup x=aA c->X.s₀.heap.objs.size<=c
 hd:X.calm=aC->X.A.handled=none
 frames:X.A.frames=aA X.stack
 stk:X.stack=X.outer\/(X.stack=X.env::X.outer/\X.env.frame=aA X.env.locals)
 exf:∀b∈X.ex,b≠X.env.locals/\∀x c,X.env.cells.lookup x=aA c->c≠b
 bs:∀b o,X.base.get? b=aA o->X.s₀.heap.get? b=aA o/\X.H₀ b=none
 bsz:X.base.objs.size<=X.s₀.heap.objs.size
 noex:∀b o,X.base.get? b=aA o->b∉X.ex
 exfs:∀b∈X.ex,b∉X.fs
 funs:X.s₀.heap.FunFrames X.base X.outer
 frf:∀b∈X.fs,X.H₀ b=none
 tab:TabsH X.K X.mg X.base X.H₀
 cod:∀q:ah,X.env.func≠none->X.env.qual=q++".<locals>."->Mr q=aC->cJ X.K X.env.code q=aC
structure Inv(X:Cx)(jn:List (aG×c9))(σ:List (Option V))(H:Hp)(s:aL):Prop where
 ok:X.Ok
 os:s.os=X.s₀.os
 bare:g7 s.gens
 base:Un X.fs X.ex X.H₀ H X.s₀.heap s.heap
 loc:∃m,s.heap.Ns X.env.locals m/\∀(i:Nat)(x:ah)(v:V),X.N[i]?=aA x->σ[i]?=aA (aA v)->Eo X.env.scope x->∃u,RelV v u/\EH X.env s.heap m x u
 cell:∀x c,X.env.cells.lookup x=aA c->∃v,s.heap.IsCell c v
 free:H X.env.locals=none
 freeC:∀x c,X.env.cells.lookup x=aA c->H c=none
 pin:∀p∈X.pn++jn,s.heap.get? p.1=aA p.2/\H p.1=none/\p.1≠X.env.locals/\p.1∉X.fs/\∀v,p.2.data≠.cell v
 hok:HOk X.prog X.w H s.heap
 len:σ.length=X.N.length
section
variable {X:Cx} {jn:List (aG×c9)} {σ:List (Option V)} {H H':Hp} {s:aL} {h':bP}
theorem Cx.Ok.nofr(ok:X.Ok){b:aG}{o:c9}(e:X.base.get? b=aA o):b∉X.fs:=λa=>by have:=(ok.funs.mem a).1;rw[e] at this;cases this
theorem Inv.bs(I:Inv X jn σ H s):∀b o,X.base.get? b=aA o->s.heap.get? b=aA o/\H b=none:=λb o e=>
 ⟨I.base.keep b o (I.ok.bs b o e).1 (I.ok.bs b o e).2 (I.ok.nofr e) (I.ok.noex b o e),I.base.free b o (I.ok.bs b o e).1 (I.ok.bs b o e).2 (I.ok.noex b o e)⟩
theorem Inv.bk(I:Inv X jn σ H s):∀b o,X.base.get? b=aA o->s.heap.get? b=aA o:=λb o e=>(I.bs b o e).1
theorem Inv.mod(I:Inv X jn σ H s):Mod X.K X.mg X.base:=I.ok.mod
theorem Inv.kIn(I:Inv X jn σ H s):X.K.In s.heap:=I.ok.mod.kin.keeps I.bk
theorem Inv.nolimit(I:Inv X jn σ H s):s.heap.NoLimit:=I.ok.mod.nolimit.keeps I.bk
theorem Inv.fr(I:Inv X jn σ H s):∃m,Fr X.base X.env.locals s.heap m:=
 let⟨m,a,_⟩:=I.loc
 ⟨m,a,I.bk,aQ I.ok.bsz I.ok.above⟩
theorem Inv.lt(I:Inv X jn σ H s):X.env.locals<s.heap.objs.size:=let⟨_,a,_⟩:=I.loc;a.lt
theorem Inv.sz(I:Inv X jn σ H s):X.s₀.heap.objs.size<=s.heap.objs.size:=aQ I.ok.above (cV I.lt)
theorem Inv.nofs(I:Inv X jn σ H s){a:aG}(h:s.heap.objs.size<=a):a∉X.fs:=λb=>by obtain⟨_,o,c,_⟩:=I.ok.funs.mem b;exact absurd (aZ (aP c) (aQ I.sz h)) (bh _)
theorem Inv.cne(I:Inv X jn σ H s):∀x c,X.env.cells.lookup x=aA c->c≠X.env.locals:=λx c e z=>by obtain⟨v,o,f,d⟩:=I.cell x c e;obtain⟨m,⟨g,h,ep,a,b,_⟩,_⟩:=I.loc;rw[z,a] at f;cases f;rw[b] at d;cases d
theorem Inv.funs(I:Inv X jn σ H s):s.heap.FunFrames X.base X.outer:=by
 have all:∀(l:List jG),(∀b∈Ox l,b∈X.fs)->X.s₀.heap.FunFrames X.base l->s.heap.FunFrames X.base l:=by
  intro l
  induction l with
  | nil=>intro _ _;trivial
  | cons env r ih=>
   intro f h;obtain⟨m,⟨L,o,c,k,j,i⟩,g⟩:=h;have d:L∈X.fs:=f L (by unfold Ox;rw[fN,c];exact a0);obtain⟨n,e⟩:=I.base.slot L o j (I.ok.frf L d) d λz=>I.ok.exfs L z d;exact⟨m,⟨L,_,c,k,e,i⟩,ih (λb a=>f b (by unfold Ox;rw[fN,c];exact aV _ a)) g⟩
 exact all X.outer (λ_ a=>a) I.ok.funs
theorem Inv.stack(I:Inv X jn σ H s):s.heap.FunFrames X.base X.stack:=by
 rcases I.ok.stk with e | ⟨e,b⟩
 ·rw[e];exact I.funs
 ·rw[e];obtain⟨m,a,_⟩:=I.loc;refine .cons (by rw[I.ok.kind];decide) b a ?_ I.funs;exact bP.get?_none_of_le (aQ I.ok.bsz I.ok.above)
theorem Inv.stkSub(I:Inv X jn σ H s):∀b∈Ox X.stack,b∈X.env.locals::X.fs:=λb a=>by
 rcases I.ok.stk with e | ⟨e,c⟩
 ·rw[e] at a;exact aV _ a
 ·rw[e] at a;unfold Ox at a;rw[fN,c] at a;exact a
theorem Inv.stkFree(I:Inv X jn σ H s):∀b∈Ox X.stack,H b=none:=λb a=>by
 rcases aa.mp (I.stkSub b a) with e | a
 ·rw[e];exact I.free
 ·obtain⟨_,o,c,_⟩:=I.ok.funs.mem a;exact I.base.free b o c (I.ok.frf b a) λz=>I.ok.exfs b z a
theorem Inv.step{U:Array GenState}{t':Nat}{d':Drawn}{ch:List aG}(I:Inv X jn σ H s)
  (f:∀b∈ch,(b∈X.ex\/X.s₀.heap.objs.size<=b)/\b≠X.env.locals/\(∀x c,X.env.cells.lookup x=aA c->c≠b)/\∀p∈X.pn++jn,p.1≠b)
  (g:∀b o,b≠X.env.locals->b∉X.fs->b∉ch->s.heap.get? b=aA o->H b=none->h'.get? b=aA o)
  (y:∀b o,b≠X.env.locals->b∈X.fs->b∉ch->s.heap.get? b=aA o->H b=none->∃O,h'.get? b=aA { o with slots:=O }) (free:∀b o,b∉ch->s.heap.get? b=aA o->H b=none->H' b=none)
  (B:∀b o,b∉ch->s.heap.get? b=aA o->∃E,h'.get? b=aA E)
  (M:∀b A,H b=aA (.tup A)->H' b=aA (.tup A)) (G:∀b o u,H b=aA (.frz o u)->H' b=aA (.frz o u)) (F:∀b N,H b=aA (.tbl N)->∃more,H' b=aA (.tbl (N++more)))
  (Y:∀m,s.heap.Ns X.env.locals m->h'.Ns X.env.locals m) (Q:HOk X.prog X.w H' h') (hg:g7 U) :
  Inv X jn σ H' { s with heap:=h',gens:=U,drawn:=d',toks:=t' }:=by
 have J:∀b o,X.s₀.heap.get? b=aA o->b≠X.env.locals:=λb o e=>aw (aZ (aP e) I.ok.above)
 have w:∀b o,X.s₀.heap.get? b=aA o->b∉X.ex->b∉ch:=λb o e a C=>by
  rcases(f b C).1 with z | z
  ·exact a z
  ·exact absurd (aZ (aP e) z) (bh _)
 have h:∀x c,X.env.cells.lookup x=aA c->∀v,s.heap.IsCell c v->h'.IsCell c v:=λx c e v ⟨o,D,R⟩=>by
  have j:=λz=>(f c z).2.2.1 x c e rfl;by_cases T:c∈X.fs
  ·obtain⟨O,q⟩:=y c o (I.cne x c e) T j D (I.freeC x c e);exact⟨_,q,R⟩
  ·exact⟨o,g c o (I.cne x c e) T j D (I.freeC x c e),R⟩
 refine⟨I.ok,I.os,hg,⟨λb o e n C a=>?_,λb o e n C a=>?_,λb o e n a=>?_,λb o e a=>?_,λb A e=>M b A (I.base.tups b A e),λb o A e=>G b o A (I.base.frzs b o A e),λb N e=>?_⟩,?_,λx c e=>?_,?_,λx c e=>?_,λp S=>?_,Q,I.len⟩
 ·exact g b o (J b o e) C (w b o e a) (I.base.keep b o e n C a) (I.base.free b o e n a)
 ·obtain⟨O,t⟩:=I.base.slot b o e n C a;obtain⟨P,L⟩:=y b _ (J b o e) C (w b o e a) t (I.base.free b o e n a);exact⟨P,L⟩
 ·obtain⟨E,t⟩:=I.base.there b o e a;exact free b E (w b o e a) t (I.base.free b o e n a)
 ·obtain⟨E,t⟩:=I.base.there b o e a;exact B b E (w b o e a) t
 ·obtain⟨m1,t⟩:=I.base.tbls b N e;obtain⟨m2,L⟩:=F b _ t;exact⟨m1++m2,by rw[L,Array.append_assoc]⟩
 ·obtain⟨m,Z,hl⟩:=I.loc;refine⟨m,Y m Z,λi x v t L e3=>?_⟩;obtain⟨u,r,l⟩:=hl i x v t L e3;refine⟨u,r,?_⟩;rcases l with l | ⟨k,c,e,z⟩
  ·exact .inl l
  ·exact .inr ⟨k,c,e,h x c e _ z⟩
 ·obtain⟨v,z⟩:=I.cell x c e;exact⟨v,h x c e v z⟩
 ·obtain⟨m,⟨o,_,_,D,_⟩,_⟩:=I.loc;exact free _ o (λz=>(f _ z).2.1 rfl) D I.free
 ·obtain⟨v,o,D,R⟩:=I.cell x c e;exact free c o (λz=>(f c z).2.2.1 x c e rfl) D (I.freeC x c e)
 ·obtain⟨e,n,ne,W,d⟩:=I.pin p S;have j:=λz=>(f p.1 z).2.2.2 p S rfl;exact⟨g p.1 p.2 ne W j e n,free p.1 p.2 j e n,ne,W,d⟩
theorem Inv.un{t':Nat}(I:Inv X jn σ H s)(u:Un X.fs [] H H' s.heap h')(g:HOk X.prog X.w H' h'):Inv X jn σ H' { s with heap:=h',toks:=t' }:=by
 obtain⟨m,⟨o,t,ep,h,r⟩,_⟩:=id I.loc;obtain⟨p,j⟩:=u.any h I.free (by simp)
 exact I.step (ch:=[]) (λ_ z=>nomatch z) (λb o _ d _ e n=>u.keep b o e n d (by simp)) (λb o _ d _ e n=>u.slot b o e n d (by simp)) (λb o _ e n=>u.free b o e n (by simp)) (λb o _ e=>u.there b o e (by simp)) u.tups u.frzs u.tbls (λq i=>by
  obtain⟨l,c,f,a,k⟩:=i;rw[h] at a;cases a;exact⟨_,c,f,j,k⟩) g I.bare
theorem Inv.call{l:Array GenState}{t':Nat}{w:Drawn}{ch:List aG}(I:Inv X jn σ H s)(u:Un (Ox X.stack) ch H H' s.heap h')(i:HOk X.prog X.w H' h')(y:g7 l)
  (d:∀b∈ch,(b∈X.ex\/X.s₀.heap.objs.size<=b)/\b≠X.env.locals/\(∀x c,X.env.cells.lookup x=aA c->c≠b)/\∀p∈X.pn++jn,p.1≠b) :
  Inv X jn σ H' { s with heap:=h',gens:=l,drawn:=w,toks:=t' }:=by
 obtain⟨m,⟨o,D,ep,k,r⟩,_⟩:=id I.loc;obtain⟨B,j⟩:=u.any k I.free λz=>(d _ z).2.1 rfl
 exact I.step d (λb o j q a e n=>u.keep b o e n (λz=>(aa.mp (I.stkSub b z)).elim j q) a) (λb o _ _ a e n=>u.any e n a) (λb o a e n=>u.free b o e n a) (λb o a e=>u.there b o e a) u.tups u.frzs u.tbls (λC t=>by
  obtain⟨A,g,h,f,v⟩:=t;rw[k] at f;cases f;exact⟨_,g,h,j,v⟩) i y
theorem Inv.turned{t':Nat}{a:aG}(I:Inv X jn σ H s)(k:∀b o,b≠a->s.heap.get? b=aA o->h'.get? b=aA o)(y:H a=none)(g:a≠X.env.locals)
  (i:a∈X.ex\/X.s₀.heap.objs.size<=a) (w:∀x c,X.env.cells.lookup x=aA c->c≠a) (j:∀p∈X.pn++jn,p.1≠a):Inv X jn σ H { s with heap:=h',toks:=t' }:=by
 have f:∀b u,H b=aA u->b≠a:=λb u e z=>by rw[z,y] at e;cases e
 refine I.step (ch:=[a]) (λb h=>?_) (λb o _ _ d e _=>k b o (λz=>d (by simp[z])) e) (λb o _ _ d e _=>⟨o.slots,k b o (λz=>d (by simp[z])) e⟩) (λ_ _ _ _ n=>n)
  (λb o d e=>⟨o,k b o (λz=>d (by simp[z])) e⟩) (λ_ _ e=>e) (λ_ _ _ e=>e) (λb B e=>⟨#[],by rw[e];simp⟩) (λm l=>?_) (λb u e=>?_) I.bare
 ·have e:b=a:=by simpa using h
  subst e;exact⟨i,g,w,j⟩
 ·obtain⟨o,A,ep,t,r⟩:=l;exact⟨o,A,ep,k _ o (ao g) t,r⟩
 ·refine(I.hok b u e).stay (λc v d q=>k c v ?_ q) (λ_ q=>q) (λ_ _ q=>q) λ_ _ q=>q;rcases d with z | z
  ·rw[z];exact f b u e
  ·exact f c _ z
theorem Inv.tok(I:Inv X jn σ H s)(t:Nat):Inv X jn σ H { s with toks:=t }:=I.un Un.refl I.hok
theorem Inv.kept{t':Nat}(I:Inv X jn σ H s)(k:∀b u,s.heap.get? b=aA u->h'.get? b=aA u):Inv X jn σ H { s with heap:=h',toks:=t' }:=I.un (Un.kept k) (I.hok.kept k)
theorem Inv.laid{a:aG}{o:HO}{t':Nat}(I:Inv X jn σ H s)(k:∀b u,s.heap.get? b=aA u->h'.get? b=aA u)(c:s.heap.objs.size<=a)(new:ObjOk X.prog X.w (upd H a o) h' a o) :
  Inv X jn σ (upd H a o) { s with heap:=h',toks:=t' }:=I.un (Un.laid k c (I.hok.fresh c)) (I.hok.laid k c new)
theorem Inv.write{x e:aG}{o:HO}{t':Nat}(I:Inv X jn σ H s)(c:Vb (H x))(d:e=x\/H e=aA (.own x))(k:∀b u,b≠e->s.heap.get? b=aA u->h'.get? b=aA u)(a:∃u,h'.get? e=aA u)
  (new:ObjOk X.prog X.w (upd H x o) h' x o):Inv X jn σ (upd H x o) { s with heap:=h',toks:=t' }:=I.un (Un.write c d k a) (I.hok.write c d k a new)
theorem Inv.weak{a:List (Option V)}(I:Inv X jn σ H s)(d:a.length=σ.length)(w:∀(i:Nat) v,a[i]?=aA (aA v)->σ[i]?=aA (aA v)):Inv X jn a H s:=
 ⟨I.ok,I.os,I.bare,I.base,let⟨m,f,b⟩:=I.loc;⟨m,f,λi x v g c e=>b i x v g (w i v c) e⟩,I.cell,I.free,I.freeC,I.pin,I.hok,d.trans I.len⟩
theorem Inv.pins_of{a:List (aG×c9)}(I:Inv X jn σ H s)(h:∀p∈a,s.heap.get? p.1=aA p.2/\H p.1=none/\p.1≠X.env.locals/\p.1∉X.fs/\∀v,p.2.data≠.cell v):Inv X a σ H s:=
 ⟨I.ok,I.os,I.bare,I.base,I.loc,I.cell,I.free,I.freeC,λp b=>(bj.mp b).elim (λz=>I.pin p (bO _ z)) (h p),I.hok,I.len⟩
theorem Q9{N:List ah}(d:N.Nodup){i j:Nat}{x:ah}(a:N[i]?=aA x)(b:N[j]?=aA x):i=j:=by obtain⟨g,e⟩:=aW.mp a;obtain⟨f,c⟩:=aW.mp b;exact(jH d).mp (e.trans c.symm)
theorem Mu{M:Model}{A:bc}{E:aF->aL->Prop}{i:Nat}{x:ah}{v:V}{u:aF}{Q:Unit->aL->Prop}(I:Inv X jn σ H s)(hN:X.N.Nodup)(U:X.N[i]?=aA x)(w:Jc X.env.scope x)(r:RelV v u)
  (h:∀s',Inv X jn (σ.set i (aA v)) H s'->(∃a,cC a s.heap s'.heap/\(a=X.env.locals\/X.env.cells.lookup x=aA a))->Q () s') (hf:X.fn x=aC\/X.env.scope.names.lookup x=aA .local:=by first | exact .inl rfl | exact .inr rfl | assumption):az M A (storeName X.env x u) Q E s:=by
 obtain⟨m,hn,hl⟩:=id I.loc;have R:(X.env.scope.kind==.class || (X.env.scope.kind==.module&&X.env.locals != X.env.globals))=aB:=by rw[I.ok.kind];rfl
 have D:i<σ.length:=by rw[I.len];exact(aW.mp U).1
 have cne:=I.cne
 have g:∀{a:aG}{N:bP},(∃o,s.heap.get? a=aA o/\H a=none)->cC a s.heap N->HOk X.prog X.w H N:=λ{a N} ha f b ob e=>by
  obtain⟨_,_,B⟩:=ha;refine(I.hok b ob e).stay (λc W t q=>(f.2 c ?_).trans q) (λ_ q=>q) (λ_ _ q=>q) λ_ _ q=>q;rintro rfl;rcases t with rfl | t
  ·rw[B] at e;cases e
  ·rw[B] at t;cases t
 rcases w with F | F
 ·refine wpAny_storeName_local F hn (λN hn' f=>?_) R;obtain⟨oL,_,_,hoL,_⟩:=id hn;refine h _ ⟨I.ok,I.os,I.bare,⟨λb o e n G w=>?_,λb o e n G w=>?_,I.base.free,λb o e w=>?_,I.base.tups,I.base.frzs,I.base.tbls⟩,⟨_,hn',λj y v' l C e3=>?_⟩,λy c e=>?_,I.free,I.freeC,λp hp=>?_,g ⟨oL,hoL,I.free⟩ f,by simpa using I.len⟩ ⟨_,f,.inl rfl⟩
  ·exact(f.2 b (aw (aZ (aP e) I.ok.above))).trans (I.base.keep b o e n G w)
  ·obtain⟨sl,l⟩:=I.base.slot b o e n G w;exact⟨sl,(f.2 b (aw (aZ (aP e) I.ok.above))).trans l⟩
  ·obtain⟨Z,l⟩:=I.base.there b o e w;exact⟨Z,(f.2 b (aw (aZ (aP e) I.ok.above))).trans l⟩
  ·by_cases J:j=i
   ·subst J;rw[U] at l;cases l;rw[g8 D] at C;cases C;exact⟨u,r,.inl ⟨F,by simp⟩⟩
   ·rw[hU (ao J)] at C;obtain⟨u',r',q⟩:=hl j y v' l C e3;refine⟨u',r',?_⟩;rcases q with⟨k,e⟩ | ⟨k,c,e,z⟩
    ·refine .inl ⟨k,?_⟩;have:y≠x:=λe=>J (Q9 hN l (e▸U));simp[this,e]
    ·exact .inr ⟨k,c,e,z.sameBut f (cne y c e)⟩
  ·obtain⟨W,z⟩:=I.cell y c e;exact⟨W,z.sameBut f (cne y c e)⟩
  ·obtain⟨e,n,ne,nf,d⟩:=I.pin p hp;exact⟨(f.2 p.1 ne).trans e,n,ne,nf,d⟩
 ·have L:X.fn x=aC:=by
   rcases hf with z | z
   ·exact z
   ·rw[z] at F;cases F
  obtain⟨c,t⟩:=I.ok.has x (.inl F);obtain⟨W,z⟩:=I.cell x c t;refine wpAny_storeName_cell I.ok.kind F t z (λN T f=>?_);obtain⟨oc,S,P⟩:=id z;refine h { s with heap:=N } ⟨I.ok,I.os,I.bare,⟨λb o e n G w=>?_,λb o e n G w=>?_,I.base.free,λb o e w=>?_,I.base.tups,I.base.frzs,I.base.tbls⟩,⟨m,hn.sameBut f (ao (cne x c t)),λj y v' l C e3=>?_⟩,λy Y e=>?_,I.free,I.freeC,λp hp=>?_,g ⟨oc,S,I.freeC x c t⟩ f,by simpa using I.len⟩ ⟨c,f,.inr t⟩
  ·exact(f.2 b (aw (aZ (aP e) (I.ok.cab x c L t)))).trans (I.base.keep b o e n G w)
  ·obtain⟨sl,l⟩:=I.base.slot b o e n G w;exact⟨sl,(f.2 b (aw (aZ (aP e) (I.ok.cab x c L t)))).trans l⟩
  ·obtain⟨Z,l⟩:=I.base.there b o e w;exact⟨Z,(f.2 b (aw (aZ (aP e) (I.ok.cab x c L t)))).trans l⟩
  ·by_cases J:j=i
   ·subst J;rw[U] at l;cases l;rw[g8 D] at C;cases C;exact⟨u,r,.inr ⟨.inl F,c,t,T⟩⟩
   ·rw[hU (ao J)] at C;obtain⟨u',r',q⟩:=hl j y v' l C e3;refine⟨u',r',?_⟩;rcases q with q | ⟨k,Y,e,z'⟩
    ·exact .inl q
    ·refine .inr ⟨k,Y,e,z'.sameBut f ?_⟩;rintro rfl;exact J (Q9 hN l (I.ok.inj _ _ _ e t▸U))
  ·by_cases O:Y=c
   ·subst O;exact⟨_,T⟩
   ·obtain⟨w2,z2⟩:=I.cell y Y e;exact⟨w2,z2.sameBut f O⟩
  ·obtain⟨e,n,ne,nf,d⟩:=I.pin p hp;refine⟨(f.2 p.1 ?_).trans e,n,ne,nf,d⟩;intro q;rw[q,S] at e;have q':oc=p.2:=aq e;exact d W (by rw[<-q'];exact P)
theorem TR{M:Model}{A:bc}{E:aF->aL->Prop}{i:Nat}{x:ah}{v:V}{u:aF}{Q:Unit->aL->Prop}(I:Inv X jn σ H s)(c:X.N.Nodup)(b:X.N[i]?=aA x)(e:Jc X.env.scope x)(r:RelV v u)
  (h:∀a,Inv X jn (σ.set i (aA v)) H a->Q () a) (f:X.fn x=aC\/X.env.scope.names.lookup x=aA .local:=by first | exact .inl rfl | exact .inr rfl | assumption):az M A (storeName X.env x u) Q E s:=
 Mu I c b e r (λa d _=>h a d) f
theorem Inv.call'{a:aL}{ch:List aG}(I:Inv X jn σ H s)(h:a.os=s.os)(u:Un (Ox X.stack) ch H H' s.heap a.heap)(f:HOk X.prog X.w H' a.heap)(g:g7 a.gens)
  (d:∀b∈ch,(b∈X.ex\/X.s₀.heap.objs.size<=b)/\b≠X.env.locals/\(∀x c,X.env.cells.lookup x=aA c->c≠b)/\∀p∈X.pn++jn,p.1≠b):Inv X jn σ H' a:=by
 obtain⟨l,k,j,t',i⟩:=a;have e:=h;subst e;exact I.call u f g d
end
abbrev XK:=aF->Option aG->Hp->Prop
abbrev St:=List (Option V)
abbrev VK:=V->Hp->Prop
abbrev TE:=St->Hp->VK->Prop
abbrev TT:=St->Hp->(Bool->Hp->Prop)->Prop
abbrev TA:=St->Hp->(List V->Hp->Prop)->Prop
structure Yv where
 nx:St->Hp->Prop
 rt:VK
 bk:St->Hp->Prop:=λ_ _=>False
 ct:St->Hp->Prop:=λ_ _=>False
abbrev TS:=Yv->St->Hp->Prop
noncomputable def EP(X:Cx)(jn:List (aG×c9))(σ:St)(Q:VK)(u:aF)(s':aL):Prop:=∃v H',Inv X jn σ H' s'/\RelV v u/\Q v H'
noncomputable def TP(X:Cx)(jn:List (aG×c9))(σ:St)(Q:Bool->Hp->Prop)(b:Bool)(s':aL):Prop:=∃H',Inv X jn σ H' s'/\Q b H'
noncomputable def AP(X:Cx)(jn:List (aG×c9))(σ:St)(Q:List V->Hp->Prop)(us:List aF)(s':aL):Prop:=∃vs H',Inv X jn σ H' s'/\Vals vs us/\Q vs H'
noncomputable def SP(X:Cx)(jn:List (aG×c9))(D:Yv)(f:Flow)(s':aL):Prop:=
 match f with
 | .next=>∃σ' H',Inv X jn σ' H' s'/\D.nx σ' H'
 | .brk=>∃σ' H',Inv X jn σ' H' s'/\D.bk σ' H'
 | .cont=>∃σ' H',Inv X jn σ' H' s'/\D.ct σ' H'
 | .ret u=>∃v σ' H',Inv X jn σ' H' s'/\RelV v u/\D.rt v H'
noncomputable def PE(X:Cx)(e:au)(t:TE):Prop:=
 ∀(jn:List (aG×c9))(s:aL)(σ:St)(H:Hp)(Q:VK),Inv X jn σ H s->t σ H Q->az (model X.prog X.w) X.A (eval e X.env) (EP X jn σ Q) X.xe s
noncomputable def PT(X:Cx)(e:au)(t:TT):Prop:=
 ∀(jn:List (aG×c9))(s:aL)(σ:St)(H:Hp)(Q:Bool->Hp->Prop),Inv X jn σ H s->t σ H Q->az (model X.prog X.w) X.A (jZ e X.env (eval e X.env)) (TP X jn σ Q) X.xe s
noncomputable def PW(X:Cx)(e:au)(t:TT):Prop:=
 ∀(whole:Sem aF)(jn:List (aG×c9))(s:aL)(σ:St)(H:Hp)(Q:Bool->Hp->Prop),Inv X jn σ H s->t σ H Q->az (model X.prog X.w) X.A (jZ e X.env whole) (TP X jn σ Q) X.xe s
theorem PW.pt{X:Cx}{e:au}{t:TT}(h:PW X e t):PT X e t:=h _
noncomputable def PA(X:Cx)(es:List au)(t:TA):Prop:=
 ∀(pos:dk)(jn:List (aG×c9))(s:aL)(σ:St)(H:Hp)(Q:List V->Hp->Prop),Inv X jn σ H s->t σ H Q->az (model X.prog X.w) X.A (spliced (dh pos (aT es X.env))) (AP X jn σ Q) X.xe s
noncomputable def PS(X:Cx)(st:bb)(t:TS):Prop:=
 ∀(jn:List (aG×c9))(s:aL)(σ:St)(H:Hp)(D:Yv),Inv X jn σ H s->t D σ H->az (model X.prog X.w) X.A (exec st X.env) (SP X jn D) X.xe s
noncomputable def PSs(X:Cx)(st:List bb)(t:TS):Prop:=
 ∀(jn:List (aG×c9))(s:aL)(σ:St)(H:Hp)(D:Yv),Inv X jn σ H s->t D σ H->az (model X.prog X.w) X.A (execs st X.env) (SP X jn D) X.xe s
theorem Ym{b:Type}{t:Sem b}{Q c:b->aL->Prop}{M:Model}{A:bc}{E:aF->aL->Prop}{s:aL}(h:az M A t Q E s)(d:∀a s,Q a s->c a s):az M A t c E s:=cK h d λ_ _ x=>x
section
variable {X:Cx}
theorem bin{a b:au}{l k:TE}(A:PE X a l)(o:PE X b k){i:List (aG×c9)}{s:aL}{c:St}{H:Hp}{R:V->V->Hp->Prop}(I:Inv X i c H s)(h:l c H λx j=>k c j λy d=>R x y d)
  {m:Type} {Q:m->aL->Prop} {f:aF->aF->Sem m}
  (p:∀v u s2 x y d,Inv X i c d s2->RelV x v->RelV y u->R x y d->az (model X.prog X.w) X.A (f v u) Q X.xe s2) :
  az (model X.prog X.w) X.A (eval a X.env) (λv g=>az (model X.prog X.w) X.A (eval b X.env) (λu e=>az (model X.prog X.w) X.A (f v u) Q X.xe e) X.xe g) X.xe s:=by
 refine Ym (A i s c H _ I h) λv s1 ⟨x,j,t,n,q⟩=>?_;refine Ym (o i s1 c j _ t q) λu s2 ⟨y,d,w,z,r⟩=>?_;exact p v u s2 x y d w n z r
noncomputable def Qe(i:Nat):TE:=λσ H Q=>∃v,σ[i]?=aA (aA v)/\Q v H
noncomputable def tC(v:V):TE:=λ_ H Q=>Q v H
theorem Hv{i:Nat}{x:ah}{f:dk}(t:X.N[i]?=aA x)(w:Eo X.env.scope x)(j:(x==("__debug__" : ah))=aB:=by decide)(g:(x==("__classdict__" : ah))=aB:=by decide):PE X (.Name x f) (Qe i):=by
 intro n s p H Q I h;obtain⟨v,e,h⟩:=h;obtain⟨m,y,o⟩:=I.loc;obtain⟨u,r,l⟩:=o i x v t e w;have b:EP X n p Q u s:=⟨v,H,I,r,h⟩;rcases l with⟨d,q⟩ | ⟨d,c,k,a⟩
 ·exact j0 (wpAny_loadName_local I.ok.kind d y q b) j
 ·rcases d with d | d
  ·exact j0 (wpAny_loadName_cell I.ok.kind d k a b) j
  ·exact j0 (wpAny_loadName_free I.ok.kind d k a b g) j
theorem Hw{i j pos}:PE X (.Constant (.int i) j pos) (tC (.int i)):=λ_ _ _ H _ I h=>wpAny_Constant_int ⟨.int i,H,I.tok _,⟨_,rfl⟩,h⟩
theorem Fp{b j pos}:PE X (.Constant (.bool b) j pos) (tC (.bl b)):=λ_ _ _ H _ I h=>Constant_bool ⟨.bl b,H,I,rfl,h⟩
theorem Hx{j pos}:PE X (.Constant .none j pos) (tC .non):=λ_ _ _ H _ I h=>Constant_none ⟨.non,H,I,rfl,h⟩
noncomputable def Gl(X:Cx)(x:ah):Prop:=X.env.kindOf x=aA .globalImplicit
theorem Jd{E:aF->aL->Prop}{d:List (aG×c9)}{s:aL}{c:St}{H:Hp}{x:ah}{u:aF}{a:dk}{Q:aF->aL->Prop}(I:Inv X d c H s)(b:Gl X x)(e:X.mg x=aA u)(h:Q u s)
  (f:(x==("__debug__" : ah))=aB:=by decide):az (model X.prog X.w) X.A (eval (.Name x a) X.env) Q E s:=
 fU I.ok.kind b (Calls.loadGlobal_global (by rw[I.ok.glob];exact I.mod.glob.keeps I.bk) e h) f
theorem Vi{E:aF->aL->Prop}{b:List (aG×c9)}{s:aL}{e:St}{H:Hp}{x:ah}{u:aF}{a:dk}{Q:aF->aL->Prop}(I:Inv X b e H s)(k:Gl X x)(f:X.mg x=none)(j:cU x=aA u)(h:Q u s)
  (c:x≠"__name__":=by decide) (g:(x==("__debug__" : ah))=aB:=by decide):az (model X.prog X.w) X.A (eval (.Name x a) X.env) Q E s:=by
 obtain⟨l,d,i⟩:=I.mod.blt;exact fU I.ok.kind k (Calls.loadGlobal_builtin (by rw[I.ok.glob];exact I.mod.glob.keeps I.bk) f (by rw[I.ok.blt];exact d.keeps I.bk) ((i x c).trans j) h) g
theorem Je{x:ah}{v:V}{u:aF}{a:dk}(d:Gl X x)(c:X.mg x=none)(b:cU x=aA u)(r:RelV v u)(f:x≠"__name__":=by decide)(e:(x==("__debug__" : ah))=aB:=by decide):PE X (.Name x a) (tC v):=
 λ_ _ _ H _ I h=>Vi I d c b ⟨v,H,I,r,h⟩ f e
variable {a b:au} {ta tb:TE} {pos:dk}
noncomputable def PC(X:Cx)(op:j1)(a b:au)(t:TE):Prop:=
 ∀(jn:List (aG×c9))(s:aL)(σ:St)(H:Hp)(Q:VK),Inv X jn σ H s->t σ H Q->
  az (model X.prog X.w) X.A (eval a X.env) (λv s₁=>az (model X.prog X.w) X.A (eval b X.env) (λu s₂=>az (model X.prog X.w) X.A (eM op v u) (EP X jn σ Q) X.xe s₂) X.xe s₁) X.xe s
theorem Ls(b:au){op:j1}(h:op≠.In)(c:op≠.NotIn):ck op b=aB:=by
 have d:(op==j1.In)=aB:=by cases op<;>first | rfl | exact absurd rfl h
 have a:(op==j1.NotIn)=aB:=by cases op<;>first | rfl | exact absurd rfl c
 cases b<;>simp[ck,d,a]
noncomputable def IM(ta:TE):TE:=λσ H Q=>ta σ H λx H1=>Q (.bl (!decide (x = .non))) H1
theorem RelV.none_iff{x:V}{v:aF}(r:RelV x v):(v==aF.none)=decide (x = .non):=by
 cases x with
 | non=>cases r;rfl
 | bl _=>cases r;rfl
 | int _=>obtain⟨t,rfl⟩:=r;rfl
 | str _=>obtain⟨t,rfl⟩:=r;rfl
 | byt _=>obtain⟨t,rfl⟩:=r;rfl
 | flt _=>obtain⟨t,rfl⟩:=r;rfl
 | ref _=>cases r;rfl
 | ty _=>cases r;rfl
theorem Jf{j pos'}(i:PE X a ta):PC X .IsNot a (.Constant .none j pos') (IM ta):=by intro f s e H Q I h;refine Ym (i f s e H _ I h) λv s1 ⟨x,g,c,d,b⟩=>?_;exact Constant_none (isnot_none_gen ⟨.bl _,g,c,by rw[d.none_iff];rfl,b⟩)
noncomputable def tB(t:TE):TT:=λσ H Q=>t σ H λx H1=>∃c,x = .bl c/\Q c H1
theorem Hy{op:j1}{t:TE}(h:PC X op a b t)(e:ck op b=aB:=by first | exact Ls _ (by decide) (by decide) | rfl):PT X (.Compare a [op] [b] pos) (tB t):=by intro i s l H Q I f;refine gy (Ym (h i s l H _ I f) λv s1 e=>Ym e λu s2 n=>Ym n λc o ⟨x,j,m,g,k⟩=>?_) e;obtain⟨d,rfl,q⟩:=k;cases g;exact cL ⟨j,m,q⟩
theorem Hz{e:au}{t:TE}(h:PE X e t)(k:∀whole,jZ e X.env whole=(do let v <-whole;standAt e.pos;holding [v] (truthy v)):=by intro _;rfl):PT X e (tB t):=by intro c s i H Q I a;refine isTrue_plain (Ym (h c s i H _ I a) λv s1 ⟨x,f,j,b,g⟩=>?_) (k _);obtain⟨d,rfl,q⟩:=g;cases b;exact cL ⟨f,j,q⟩
variable {tA tB':TT} {Z8:List au}
noncomputable def Fq(t u:TT):TT:=λσ H Q=>t σ H λc H1=>if c=aC then u σ H1 Q else Q aB H1
noncomputable def Dy(t u:TT):TT:=λσ H Q=>t σ H λc H1=>if c=aC then Q aC H1 else u σ H1 Q
noncomputable def EI(t:TT):TT:=λσ H Q=>t σ H λc H1=>Q (!c) H1
theorem Jg(f:PT X a tA):PW X (.BoolOp .And [a] pos) tA:=by
 intro g d s b H Q I h;refine isTrue_and (Ym (f d s b H Q I h) λc s1 e=>?_)
 cases c with
 | true=>exact isTrue_and_nil e
 | false=>exact e
theorem HA(f:PT X a tA):PW X (.BoolOp .Or [a] pos) tA:=by
 intro g d s b H Q I h;refine isTrue_or (Ym (f d s b H Q I h) λc s1 e=>?_)
 cases c with
 | false=>exact isTrue_or_nil e
 | true=>exact e
theorem HB(l:PT X a tA)(j:PW X (.BoolOp .And (b::Z8) pos) tB'):PW X (.BoolOp .And (a::b::Z8) pos) (Fq tA tB'):=by
 intro k g s f H Q I h;refine isTrue_and (Ym (l g s f H _ I h) λc s1 ⟨i,e,d⟩=>?_)
 cases c with
 | true=>exact j k g s1 f i Q e d
 | false=>exact⟨i,e,d⟩
theorem Fs(l:PT X a tA)(j:PW X (.BoolOp .Or (b::Z8) pos) tB'):PW X (.BoolOp .Or (a::b::Z8) pos) (Dy tA tB'):=by
 intro k g s f H Q I h;refine isTrue_or (Ym (l g s f H _ I h) λc s1 ⟨i,e,d⟩=>?_)
 cases c with
 | true=>exact⟨i,e,d⟩
 | false=>exact j k g s1 f i Q e d
theorem HC(f:PT X a tA):PT X (.UnaryOp .Not a pos) (EI tA):=by intro d s b H Q I h;exact isTrue_not (f d s b H (λc e=>Q (!c) e) I h)
noncomputable def Ft(ta tb:TE):TE:=λσ H Q=>ta σ H λx H1=>∃c,x = .bl c/\if c=aC then tb σ H1 Q else Q (.bl aB) H1
noncomputable def Fu(ta:TE):TE:=λσ H Q=>ta σ H λx H1=>∃c,x = .bl c/\Q (.bl (!c)) H1
theorem HD{op}{t:TE}(h:PE X a t):PE X (.BoolOp op [a] pos) t:=λd s c H Q I b=>BoolOp_one (h d s c H Q I b)
theorem HE(l:PE X a ta)(k:PE X (.BoolOp .And (b::Z8) pos) tb):PE X (.BoolOp .And (a::b::Z8) pos) (Ft ta tb):=by
 intro g s f H Q I h;refine BoolOp_and (Ym (l g s f H _ I h) λv s1 ⟨x,i,e,j,d⟩=>?_);obtain⟨c,rfl,d⟩:=d;cases j;refine cL ?_
 cases c with
 | true=>exact k g s1 f i Q e d
 | false=>exact⟨.bl aB,i,e,rfl,d⟩
theorem HF(j:PE X a ta):PE X (.UnaryOp .Not a pos) (Fu ta):=by intro g s f H Q I h;refine UnaryOp_ (Ym (j g s f H _ I h) λv s1 ⟨x,i,d,e,b⟩=>?_);obtain⟨c,rfl,b⟩:=b;cases e;exact not_of (cL ⟨.bl (!c),i,d,rfl,b⟩)
noncomputable def DN(t:TT)(ta tb:TE):TE:=λσ H Q=>t σ H λc H1=>if c=aC then ta σ H1 Q else tb σ H1 Q
theorem Lu{c:au}(k:PT X c tA)(m:PE X a ta)(l:PE X b tb):PE X (.IfExp c a b pos) (DN tA ta tb):=by
 intro f s e H Q I h;refine wpAny_IfExp (Ym (k f s e H _ I h) λd s1 ⟨j,i,g⟩=>?_)
 cases d with
 | true=>exact m f s1 e j Q i g
 | false=>exact l f s1 e j Q i g
end
noncomputable def SqL(K:aD)(H:Hp)(a:aG)(xs:List V):Prop:=
 Rd H a (.lst xs)\/
  ∃(o:c9) (jt:Array aF) (n:Nat),K.lookup a=aA o/\o.cls = .type "list"/\o.dict=none/\o.data = .seq jt n/\jt.size<=sizeLine/\Vals xs jt.toList
noncomputable def SqT(K:aD)(H:Hp)(a:aG)(xs:List V):Prop:=
 Rd H a (.tup xs)\/
  ∃(o:c9) (jt:Array aF) (n:Nat),K.lookup a=aA o/\o.cls = .type "tuple"/\o.data = .seq jt n/\jt.size<=sizeLine/\Vals xs jt.toList
noncomputable def EJ:aF->Option V
 | .none=>aA .non
 | .bool b=>aA (.bl b)
 | .int i _=>aA (.int i)
 | .str x _=>aA (.str x)
 | .bytes b _=>aA (.byt b)
 | .float b _=>aA (.flt b)
 | .ref a=>aA (.ref a)
 | .type n=>aA (.ty n)
 | _=>none
theorem RelV.abs{x:V}{u:aF}(r:RelV x u):EJ u=aA x:=by
 cases x with
 | non=>cases r;rfl
 | bl _=>cases r;rfl
 | int _=>obtain⟨t,rfl⟩:=r;rfl
 | str _=>obtain⟨t,rfl⟩:=r;rfl
 | byt _=>obtain⟨t,rfl⟩:=r;rfl
 | flt _=>obtain⟨t,rfl⟩:=r;rfl
 | ref _=>cases r;rfl
 | ty _=>cases r;rfl
theorem RelV.inj{x y:V}{u:aF}(r:RelV x u)(q:RelV y u):x=y:=aq (r.abs.symm.trans q.abs)
theorem Vals.inj:∀{xs ys:List V}{us:List aF},Vals xs us->Vals ys us->xs=ys
 | _,_,_,.nil,.nil=>rfl
 | _,_,_,.cons r t,.cons r' t'=>by rw[r.inj r',Vals.inj t t']
section
variable {X:Cx} {jn:List (aG×c9)} {σ:St} {H:Hp} {s:aL} {a:aG} {xs ys:List V}
theorem SqL.of{K:aD}(h:H a=aA (.lst xs)):SqL K H a xs:=.inl (.inl h)
theorem SqT.of{K:aD}(h:H a=aA (.tup xs)):SqT K H a xs:=.inl (.inl h)
theorem Inv.list(I:Inv X jn σ H s)(h:SqL X.K H a xs):∃b:List aF,Vals xs b/\PlainL s.heap a b.toArray/\xs.length<=sizeLine:=by
 rcases h with h | ⟨o,b,n,c,d,g,f,i,r⟩
 ·obtain⟨z,b,n,r,e⟩:=h.ok I.hok;exact⟨b,r,⟨_,n,e,rfl,rfl,rfl⟩,z⟩
 ·refine⟨b.toList,r,⟨o,n,I.kIn a o c,d,g,by simpa using f⟩,?_⟩;have e:=r.length;simp only[dy] at e;omega
theorem Inv.tuple(I:Inv X jn σ H s)(h:SqT X.K H a xs):∃b:List aF,Vals xs b/\IsTup s.heap a b.toArray/\xs.length<=sizeLine:=by
 rcases h with h | ⟨o,b,n,c,d,f,g,r⟩
 ·obtain⟨z,b,r,p⟩:=h.ok I.hok;exact⟨b,r,p,z.1⟩
 ·refine⟨b.toList,r,⟨o,I.kIn a o c,d,n,by simpa using f⟩,?_⟩;have e:=r.length;simp only[dy] at e;omega
theorem Inv.list_inj(I:Inv X jn σ H s)(h:SqL X.K H a xs)(j:SqL X.K H a ys):xs=ys:=by
 obtain⟨i,r,⟨o,n,e,_,_,d⟩,_⟩:=I.list h;obtain⟨b,g,⟨k,l,f,_,_,c⟩,_⟩:=I.list j;rw[e] at f;cases f;rw[d] at c;injection c with d1 _
 have:i=b:=by simpa using congrArg jg d1
 subst this;exact r.inj g
theorem Inv.tuple_inj(I:Inv X jn σ H s)(h:SqT X.K H a xs)(j:SqT X.K H a ys):xs=ys:=by
 obtain⟨i,r,⟨o,e,_,n,d⟩,_⟩:=I.tuple h;obtain⟨b,g,⟨k,f,_,l,c⟩,_⟩:=I.tuple j;rw[e] at f;cases f;rw[d] at c;injection c with d1 _
 have:i=b:=by simpa using congrArg jg d1
 subst this;exact r.inj g
end
abbrev Cx.wish(X:Cx)(E:aF->aL->Prop):Cx:={ X with xe:=E }
abbrev Cx.nox(X:Cx):Cx:=X.wish λ_ _=>False
theorem Cx.Ok.wish{X:Cx}(ok:X.Ok)(E:aF->aL->Prop):(X.wish E).Ok:=
 ⟨ok.mod,ok.kind,ok.glob,ok.blt,ok.above,ok.inj,ok.has,ok.cab,ok.hd,ok.frames,ok.stk,ok.exf,ok.bs,ok.bsz,ok.noex,ok.exfs,ok.funs,ok.frf,ok.tab,ok.cod⟩
theorem Cx.Ok.unwish{X:Cx}{E:aF->aL->Prop}(ok:(X.wish E).Ok):X.Ok:=
 ⟨ok.mod,ok.kind,ok.glob,ok.blt,ok.above,ok.inj,ok.has,ok.cab,ok.hd,ok.frames,ok.stk,ok.exf,ok.bs,ok.bsz,ok.noex,ok.exfs,ok.funs,ok.frf,ok.tab,ok.cod⟩
section
variable {X:Cx} {jn:List (aG×c9)} {σ:St} {H:Hp} {s:aL} {E:aF->aL->Prop}
theorem Inv.wish(I:Inv X jn σ H s)(E:aF->aL->Prop):Inv (X.wish E) jn σ H s:=⟨I.ok.wish E,I.os,I.bare,I.base,I.loc,I.cell,I.free,I.freeC,I.pin,I.hok,I.len⟩
theorem Inv.unwish(I:Inv (X.wish E) jn σ H s):Inv X jn σ H s:=⟨I.ok.unwish,I.os,I.bare,I.base,I.loc,I.cell,I.free,I.freeC,I.pin,I.hok,I.len⟩
theorem SP.unwish{D:Yv}{f:Flow}{c:aL}(h:SP (X.wish E) jn D f c):SP X jn D f c:=by
 cases f with
 | next=>obtain⟨a,b,I,q⟩:=h;exact⟨a,b,I.unwish,q⟩
 | brk=>obtain⟨a,b,I,q⟩:=h;exact⟨a,b,I.unwish,q⟩
 | cont=>obtain⟨a,b,I,q⟩:=h;exact⟨a,b,I.unwish,q⟩
 | ret u=>obtain⟨v,a,b,I,r,q⟩:=h;exact⟨v,a,b,I.unwish,r,q⟩
theorem PSs.nox{st:List bb}{t:TS}(h:PSs X.nox st t):PSs X st t:=λc s b H D I a=>
 cK (h c s b H D (I.wish _) a) (λ_ _ q=>q.unwish) λ_ _ z=>dQ z
end
section
variable {X:Cx} {st:bb} {Z8:List bb} {t u:TS} {e:au} {te:TE} {pos:dk}
noncomputable def IP:TS:=λD σ H=>D.nx σ H
noncomputable def EK(t u:TS):TS:=λD σ H=>t { D with nx:=u D } σ H
theorem Jh:PSs X [] IP:=λ_ _ a H _ I h=>fK ⟨a,H,I,h⟩
theorem Pa(i:PS X st t)(c:PSs X Z8 u):PSs X (st::Z8) (EK t u):=by
 intro b s e H D I h;refine wpAny_execs_cons (Ym (i b s e H { D with nx:=u D } I h) λf s1 q=>?_)
 cases f with
 | next=>
  obtain⟨a,d,g,q⟩:=q;exact c b s1 a d D g q
 | ret v=>exact q
 | brk=>exact q
 | cont=>exact q
theorem NB(c:PS X st t):PSs X [st] t:=by
 intro a s b H D I h;refine wpAny_execs_cons (Ym (c a s b H D I h) λf s1 q=>?_)
 cases f with
 | next=>exact fK q
 | ret v=>exact q
 | brk=>exact q
 | cont=>exact q
theorem Inv.quiet{a:List (aG×c9)}{b:St}{H:Hp}{s:aL}(I:Inv X a b H s):interactive X.env=aB:=by simp[interactive,I.ok.kind]
noncomputable def NC(te:TE):TS:=λD σ H=>te σ H λ_ H1=>D.nx σ H1
theorem WR(i:PE X e te)(d:fS e none pos.line X.env=pure aB:=by rfl):PS X (.Expr e pos) (NC te):=by intro f s a H D I h;exact wpAny_Expr_any (Ym (i f s a H _ I h) λv s1 ⟨x,g,c,j,b⟩=>⟨a,g,c,b⟩) I.quiet d
noncomputable def EL(te:TE):TS:=λD σ H=>te σ H D.rt
theorem Lv(i:PE X e te):PS X (.Return (aA e) pos) (EL te):=by intro f s a H D I h;exact wpAny_Return_some (Ym (i f s a H _ I h) λv s1 ⟨x,g,c,d,b⟩=>⟨x,a,g,c,d,b⟩)
noncomputable def EM(c:TT)(t u:TS):TS:=λD σ H=>c σ H λb H1=>if b=aC then t D σ H1 else u D σ H1
theorem Fv{c:au}{a b:List bb}{j:TT}(m:PT X c j)(n:PSs X a t)(l:PSs X b u):PS X (.If c a b pos) (EM j t u):=by
 intro e s f H D I h;refine wpAny_If (Ym (m e s f H _ I h) λd s1 ⟨g,k,i⟩=>?_)
 cases d with
 | true=>exact n e s1 f g D k i
 | false=>exact l e s1 f g D k i
end
abbrev TG:=V->St->Hp->(St->Hp->Prop)->Prop
abbrev IQ:=List V->St->Hp->(St->Hp->Prop)->Prop
noncomputable def PG(X:Cx)(target:au)(t:TG):Prop:=
 ∀(jn:List (aG×c9))(s:aL)(σ:St)(H:Hp)(v:V)(u:aF)(Q:St->Hp->Prop),Inv X jn σ H s->RelV v u->t v σ H Q->
  az (model X.prog X.w) X.A (assign target X.env u) (λ_ s'=>∃σ' H',Inv X jn σ' H' s'/\Q σ' H') X.xe s
noncomputable def Ep(X:Cx)(ts:List au)(t:IQ):Prop:=
 ∀(jn:List (aG×c9))(s:aL)(σ:St)(H:Hp)(vs:List V)(us:List aF)(Q:St->Hp->Prop),Inv X jn σ H s->Vals vs us->t vs σ H Q->
  az (model X.prog X.w) X.A (assignInOrder ((fV ts X.env).map (·.2)) us) (λ_ s'=>∃σ' H',Inv X jn σ' H' s'/\Q σ' H') X.xe s
abbrev HG:=V->V->V->Hp->(Hp->Prop)->Prop
noncomputable def Fw(X:Cx)(t:HG):Prop:=
 ∀(jn:List (aG×c9))(s:aL)(σ:St)(H:Hp)(o i v:V)(ov iv u:aF)(Q:Hp->Prop),Inv X jn σ H s->RelV o ov->RelV i iv->RelV v u->t o i v H Q->
  az (model X.prog X.w) X.A (setItem ov iv u) (λ_ s'=>∃H',Inv X jn σ H' s'/\Q H') X.xe s
section
variable {X:Cx} {pos:dk}
noncomputable def VB(i:Nat):TG:=λv σ H Q=>Q (σ.set i (aA v)) H
theorem WS{i:Nat}{x:ah}(b:X.N.Nodup)(a:X.N[i]?=aA x)(d:Jc X.env.scope x)(e:X.fn x=aC\/X.env.scope.names.lookup x=aA .local:=by first | exact .inl rfl | exact .inr rfl | assumption):PG X (.Name x pos) (VB i):=by intro j s g H v u Q I r h;exact wpAny_assign_Name (TR I b a d r (λf c=>⟨_,H,c,h⟩) e)
noncomputable def Fx:IQ:=λvs σ H Q=>vs=[]/\Q σ H
noncomputable def IS(t:TG)(u:IQ):IQ:=λvs σ H Q=>∃v r,vs=v::r/\t v σ H λσ' H'=>u r σ' H' Q
theorem X0:Ep X [] Fx:=by intro c s a H vs b Q I r h;obtain⟨e,h⟩:=h;subst e;cases r;exact assignInOrder_nil ⟨a,H,I,h⟩
theorem ZS{e:au}{a:List au}{t:TG}{u:IQ}(g:PG X e t)(m:Ep X a u)
  (l:(fV (e::a) X.env).map (·.2)=assign e X.env::(fV a X.env).map (·.2):=by rfl):Ep X (e::a) (IS t u):=by
 intro c s j H vs n Q I r h;obtain⟨v,o,i,h⟩:=h;subst i
 cases r with
 | cons r rr=>
  rw[l];refine assignInOrder_cons (Ym (g c s j H _ _ _ I r h) λ_ s1 ⟨b,d,k,f⟩=>?_);exact m c s1 b d _ _ Q k rr f
noncomputable def Fy(K:aD)(n:Nat)(t:IQ):TG:=λv σ H Q=>∃a xs,v = .ref a/\SqT K H a xs/\xs.length=n/\t xs σ H Q
theorem Vj{c:List au}{k:Nat}{t:IQ}{n:Nat}(y:X.calm=aC)(h:Ep X c t)
  (A:(fV c X.env).length=n:=by rfl) (f:(fV c X.env).findIdx? (·.1)=none:=by rfl):PG X (.Tuple c k pos) (Fy X.K n t):=by
 intro i s w H v u Q I r d;obtain⟨a,z,l,j,q,d⟩:=d;subst l;cases r;obtain⟨B,g,p,D⟩:=I.tuple j;refine assign_Tuple_tuple (I.ok.hd y) p (by simp[A,<-q,g.length]) f λC m=>?_;have x:=I.kept (t':=s.toks) λb o e=>m b o (aw (aP e)) e;exact h i _ w H z _ Q x (by simpa using g) d
noncomputable def HH(to ti:TE)(t:HG):TG:=λv σ H Q=>to σ H λo H1=>ti σ H1 λi H2=>t o i v H2 λH3=>Q σ H3
theorem Wu{o i:au}{e f:TE}{t:HG}(w:PE X o e)(p:PE X i f)(z:Fw X t)
  (F:∀v,assign (.Subscript o i pos) X.env v=(do
   let a <-holding [v] (eval o X.env);let b <-holding [v,a] (eval i X.env)
   standAt pos
   holding [v,a,b] (setItem a b v)
   release [v,a,b] []):=by intro _;rfl):PG X (.Subscript o i pos) (HH e f t):=by
 intro d s c H v u Q I r h;refine aI (gM (Ym (w d s c H _ I h) λa s1 ⟨x,k,A,g,l⟩=>?_));refine aI (gM (Ym (p d s1 c k _ A l) λb s2 ⟨y,D,B,C,m⟩=>?_));refine aI (iS (aI (gM (Ym (z d s2 c D x y v a b u _ B g C r m) λ_ E ⟨j,q,n⟩=>?_))));exact wpAny_release ⟨c,j,q,n⟩
noncomputable def Pb(te:TE)(g:TG):TS:=λD σ H=>te σ H λx H1=>g x σ H1 D.nx
theorem X1{a e:au}{b:TE}{g:TG}(p:PE X e b)(o:PG X a g)(n:swapsWithSole [a] e pos.line X.env=pure aB:=by rfl)(f:swappedStores [a] e X.env=pure none:=by rfl)
  (l:(fV [a] X.env).map (·.2)=[assign a X.env]:=by rfl):PS X (.Assign [a] e pos) (Pb b g):=by
 intro c s d H D I h;refine wpAny_Assign_stores (Ym (p c s d H _ I h) λv s1 ⟨x,j,m,i,k⟩=>?_) n f;rw[l];exact Ym (o c s1 d j x v _ m i k) λ_ s2 q=>q
theorem HI{i:Nat}{x:ah}{e:au}{b:TE}{a:dk}(q:X.N.Nodup)(l:X.N[i]?=aA x)(k:Jc X.env.scope x)(r:PE X e b)(o:fS e (aA (.Name x a)) pos.line X.env=pure aB:=by rfl)(g:X.fn x=aC\/X.env.scope.names.lookup x=aA .local:=by first | exact .inl rfl | exact .inr rfl | assumption) :
  PS X (.Assign [.Name x a] e pos) (Pb b (VB i)):=by
 intro d s m H D I h;refine wpAny_Assign_Name (Ym (r d s m H _ I h) λv s1 ⟨y,f,n,c,j⟩=>?_) o;exact TR n q l k c (λs2 p=>⟨_,f,p,j⟩) g
end
section
variable {X:Cx} {pos:dk}
noncomputable def HJ(c:TT)(tb:TS):TS:=λD σ H=>∃W:Nat->St->Hp->Prop,(∃m,W m σ H)/\∀m σ H,W m σ H->
 c σ H λb H1=>if b=aC then ∃N:St->Hp->Prop,(∀σ' H',N σ' H'->∃m',m'<m/\W m' σ' H')/\tb { D with nx:=N,ct:=N,bk:=D.nx } σ H1 else D.nx σ H1
theorem Lw{c:au}{e:List bb}{t:TT}{u:TS}(w:iM (model X.prog X.w) X.A X.env X.xe)(J:PT X c t)(B:PSs X e u):PS X (.While c e [] pos) (HJ t u):=by
 intro k s F H D I h;obtain⟨W,⟨C,L⟩,turn⟩:=h;refine wpAny_While (codeAny_whileLoop (λn A=>∃σ' H',Inv X k σ' H' A/\W n σ' H') ?_ C ⟨F,H,I,L⟩);rintro n s1 ⟨d,r,G,E⟩;refine cz w (Ym (J k s1 d r _ G (turn n d r E)) λb s2 ⟨z,x,i⟩=>?_)
 cases b with
 | true=>
  obtain⟨N,y,i⟩:=i;refine cz w (Ym (B k s2 d z _ x i) λf M j=>?_)
  cases f with
  | next=>
   obtain⟨a,g,q,o⟩:=j;obtain⟨l,p,m⟩:=y a g o;exact⟨l,p,a,g,q,m⟩
  | cont=>
   obtain⟨a,g,q,o⟩:=j;obtain⟨l,p,m⟩:=y a g o;exact⟨l,p,a,g,q,m⟩
  | brk=>exact j
  | ret v=>exact j
 | false=>
  exact fK ⟨d,z,x,i⟩
end
structure It where
 go:Nat->Hp->Prop
 yld:Nat->Hp->V->Hp->Prop
 stop:Nat->Hp->Prop
noncomputable def X2(X:Cx)(jn:List (aG×c9))(H:Hp)(b:aG):Prop:=
 H b=none/\b≠X.env.locals/\b∉X.fs/\(b∈X.ex\/X.s₀.heap.objs.size<=b)/\(∀x c,X.env.cells.lookup x=aA c->c≠b)/\∀p∈X.pn++jn,p.1≠b
theorem Inv.fpOk{X:Cx}{f:List (aG×c9)}{h:St}{H d:Hp}{s:aL}{b:aG}(I:Inv X f h H s)(a:s.heap.objs.size<=b)(g:d b=none):X2 X f d b:=by
 refine⟨g,dm (aZ I.lt a),I.nofs a,.inr (aQ I.sz a),λx c e z=>?_,λp i z=>?_⟩
 ·obtain⟨v,q⟩:=I.cell x c e;exact absurd (aZ q.lt (by rw[z];exact a)) (bh _)
 ·exact absurd (aZ (aP (I.pin p i).1) (by rw[z];exact a)) (bh _)
structure Qf(P:bH)(w:bu)(K:aD)(tg:au)(J:It)(fp:List aG)(it:aG)(tn:Nat->bP->Prop):Prop where
 mem:it∈fp
 obj:∀i h,tn i h->∀b∈fp,∃o,h.get? b=aA o/\∀v,o.data≠.cell v
 keep:∀i h h',tn i h->(∀b∈fp,∀o,h.get? b=aA o->h'.get? b=aA o)->tn i h'
 item:∀(X:Cx),X.prog=P->X.w=w->X.K=K->X.calm=aC->∀(i:Nat)(jn:List (aG×c9))(s:aL)(σ:St)(H:Hp)(E:aF->aL->Prop),Inv X jn σ H s->(∀b∈fp,X2 X jn H b)->tn i s.heap->J.go i H->
  az (model P w) X.A (jh (.ref it)) (λr s1=>∃u,r=aA u/\
   az (model P w) X.A (gq tg (.ref it) u) (λ_ s2=>∃x H',Inv X jn σ H' s2/\RelV x u/\J.yld i H x H'/\tn (i+1) s2.heap/\∀b∈fp,H' b=none) E s1) E s
 done:∀(X:Cx),X.prog=P->X.w=w->X.K=K->X.calm=aC->∀(i:Nat)(jn:List (aG×c9))(s:aL)(σ:St)(H:Hp)(E:aF->aL->Prop),Inv X jn σ H s->(∀b∈fp,X2 X jn H b)->tn i s.heap->J.stop i H->
  az (model P w) X.A (jh (.ref it)) (λr s1=>r=none/\Inv X jn σ H s1) E s
 self:∀(A:bc)(i:Nat)(s:aL)(Q:aF->aL->Prop)(E:aF->aL->Prop),tn i s.heap->Q (.ref it) s->az (model P w) A (pyIter (.ref it)) Q E s
abbrev TI:=St->Hp->(It->Hp->Prop)->Prop
noncomputable def Dz(X:Cx)(jn:List (aG×c9))(σ:St)(tg:au)(R:It->Hp->Prop)(itv:aF)(s2:aL):Prop:=
 ∃(it:aG) (fp:List aG) (tn:Nat->bP->Prop) (J:It) (H':Hp),itv = .ref it/\Inv X jn σ H' s2/\Qf X.prog X.w X.K tg J fp it tn/\tn 0 s2.heap/\(∀b∈fp,X2 X jn H' b)/\R J H'
noncomputable def PI(X:Cx)(tg iter:au)(wi:TI):Prop:=
 ∀(jn:List (aG×c9))(s:aL)(σ:St)(H:Hp)(R:It->Hp->Prop),Inv X jn σ H s->wi σ H R->
  az (model X.prog X.w) X.A (eval iter X.env) (λv s1=>az (model X.prog X.w) X.A (pyIter v) (Dz X jn σ tg R) X.xe s1) X.xe s
theorem Lx{M:Model}{A:bc}{E:aF->aL->Prop}{s:aL}{b:au}{c:aG}{u:aF}{o:c9}{n:String}{vs:Array aF}{Q:Unit->aL->Prop}(f:s.heap.get? c=aA o)(d:o.cls = .type n)(e:o.data = .fields vs)
    (g:["enumerate","zip","dict_itemiterator","dict_reverseitemiterator","odict_iterator","itertools.zip_longest","itertools.pairwise"].contains n=aB) (a:Q () s):az M A (gq b (.ref c) u) Q E s:=by
  cases b<;>first
    | exact ag a
    | (cases u<;>first
        | exact ag a
        | (refine aI (wpAny_load f ?_)
           rw[d,e];show az M A (if(["enumerate","zip","dict_itemiterator","dict_reverseitemiterator","odict_iterator","itertools.zip_longest","itertools.pairwise"].contains n&&vs[0]?==aA (hV _))=aC then _ else _) Q E s;rw[jv (by intro h;rw[g] at h;cases h)];exact ag a))
noncomputable def EN(K:aD)(a:aG):It:=
 ⟨λi H=>∃xs x,SqL K H a xs/\xs[i]?=aA x,λi H x H'=>H'=H/\∀xs,SqL K H a xs->xs[i]?=aA x,λi H=>∃xs,SqL K H a xs/\xs.length<=i⟩
noncomputable def DA(K:aD)(a:aG):It:=
 ⟨λi H=>∃xs x,SqT K H a xs/\xs[i]?=aA x,λi H x H'=>H'=H/\∀xs,SqT K H a xs->xs[i]?=aA x,λi H=>∃xs,SqT K H a xs/\xs.length<=i⟩
noncomputable def Fz(lo:Int)(n:Nat):It:=⟨λi _=>i<n,λi H x H'=>H'=H/\x = .int (lo+i),λi _=>n<=i⟩
theorem Mv{P:bH}{w:bu}{K:aD}{M:au}(a g:aG):Qf P w K M (EN K a) [g] g (λi h=>h.IsListIter g a i) where
 mem:=by simp
 obj:=λi h st b f=>by
  have e:b=g:=by simpa using f
  subst e;obtain⟨o,e,c,d⟩:=st;exact⟨o,e,λv z=>by rw[d] at z;cases z⟩
 keep:=λi h G st k=>st.at λo e=>k g (by simp) o e
 item:=by intro X A n C J i N s T H E I m st F;subst A n C;obtain⟨Z,x,l,t⟩:=F;obtain⟨O,q,p,S⟩:=I.list l;obtain⟨u,U,R⟩:=q.get t;obtain⟨y,f1,f2,r,B,D⟩:=m g (by simp);refine wpAny_pyNext_list_item st p.isList (by simpa using U) λG j Q=>?_;have W:=I.turned (t':=s.toks) (λb o f e=>(Q.2 b f).trans e) y f1 r B D;obtain⟨o,e,c,d⟩:=id j;exact⟨u,rfl,Lx e c d rfl ⟨x,H,W,R,⟨rfl,λys L=>by rw[I.list_inj L l];exact t⟩,j,λb f=>(m b f).1⟩⟩
 done:=by intro X A n C J i N s T H E I m st F;subst A n C;obtain⟨Z,l,t⟩:=F;obtain⟨O,q,p,S⟩:=I.list l;obtain⟨y,f1,f2,r,B,D⟩:=m g (by simp);have hl:=q.length;exact wpAny_pyNext_list_end (I.ok.hd J) st p.isList (by simp;omega) λG Y=>⟨rfl,I.turned (λb o f e=>Y b o f e) y f1 r B D⟩
 self:=λ_ _ _ _ _ st h=>wpAny_pyIter_listiter st h
theorem OB{P:bH}{w:bu}{K:aD}{M:au}(a g:aG):Qf P w K M (DA K a) [g] g (λi h=>h.IsTupleIter g a i) where
 mem:=by simp
 obj:=λi h st b f=>by
  have e:b=g:=by simpa using f
  subst e;obtain⟨o,e,c,d⟩:=st;exact⟨o,e,λv z=>by rw[d] at z;cases z⟩
 keep:=λi h G st k=>st.at λo e=>k g (by simp) o e
 item:=by intro X A n C J i N s T H E I m st F;subst A n C;obtain⟨Z,x,l,t⟩:=F;obtain⟨O,q,p,S⟩:=I.tuple l;obtain⟨u,U,R⟩:=q.get t;obtain⟨y,f1,f2,r,B,D⟩:=m g (by simp);refine wpAny_pyNext_tuple_item st (p) (by simpa using U) λG j Q=>?_;have W:=I.turned (t':=s.toks) (λb o f e=>(Q.2 b f).trans e) y f1 r B D;obtain⟨o,e,c,d⟩:=id j;exact⟨u,rfl,Lx e c d rfl ⟨x,H,W,R,⟨rfl,λys L=>by rw[I.tuple_inj L l];exact t⟩,j,λb f=>(m b f).1⟩⟩
 done:=by intro X A n C J i N s T H E I m st F;subst A n C;obtain⟨Z,l,t⟩:=F;obtain⟨O,q,p,S⟩:=I.tuple l;obtain⟨y,f1,f2,r,B,D⟩:=m g (by simp);have hl:=q.length;exact wpAny_pyNext_tuple_end (I.ok.hd J) st (p) (by simp;omega) λG Y=>⟨rfl,I.turned (λb o f e=>Y b o f e) y f1 r B D⟩
 self:=λ_ _ _ _ _ st h=>wpAny_pyIter_tupleiter st h
theorem OC{P:bH}{w:bu}{K:aD}{C:au}(a:aG)(lo:Int)(n:Nat):Qf P w K C (Fz lo n) [a] a (λi h=>IsRangeIter h a (lo+(i:Nat)*1) ((n:Int)-(i:Nat)) 1) where
 mem:=by simp
 obj:=λi h st b c=>by
  have e:b=a:=by simpa using c
  subst e
  exact⟨_,st,λv z=>by
   have J:=z;cases J⟩
 keep:=λi h j st k=>k a (by simp) _ st
 item:=by intro X y u B p i x s A H E I f st r;subst y u B;obtain⟨l,f1,f2,g,m,q⟩:=f a (by simp);have W:=Walks.range (prog:=X.prog) (w:=X.w) (I.ok.hd p) a lo 1 n;refine W.item i s _ _ r st λv j tk G d kk=>?_;obtain⟨t,rfl⟩:=G;have D:Inv X x A H { s with heap:=j,toks:=tk }:=I.turned (λb o c e=>kk b o (by simpa using c) e) l f1 g m q;refine⟨_,rfl,Lx d rfl rfl rfl ⟨.int (lo+i),H,D,⟨t,?_⟩,⟨rfl,rfl⟩,d,λb c=>(f b c).1⟩⟩;rw[eN]
 done:=by intro X y u B p i x s A H E I f st r;obtain⟨l,f1,f2,g,m,q⟩:=f a (by simp);exact wpAny_pyNext_range_end (I.ok.hd p) st (by have:n<=i:=r;omega) λj F=>⟨rfl,I.turned (λb o c e=>F b o c e) l f1 g m q⟩
 self:=λ_ _ _ _ _ st h=>wpAny_pyIter_rangeiter st h
section
variable {X:Cx} {tg:au}
noncomputable def FA(K:aD)(tl:TE):TI:=λσ H R=>tl σ H λx H1=>∃a,x = .ref a/\(∃xs,SqL K H1 a xs)/\R (EN K a) H1
noncomputable def EO(K:aD)(tl:TE):TI:=λσ H R=>tl σ H λx H1=>∃a,x = .ref a/\(∃xs,SqT K H1 a xs)/\R (DA K a) H1
theorem Ji{l:au}{d:TE}(n:PE X l d):PI X tg l (FA X.K d):=by
 intro i s r H R I h;refine Ym (n i s r H _ I h) λv s1 ⟨x,j,c,f,m⟩=>?_;obtain⟨a,e,⟨y,k⟩,q⟩:=m;subst e;cases f;obtain⟨u,t,p,w⟩:=c.list k;refine wpAny_pyIter_list p.isList ?_;refine⟨s1.heap.objs.size,[s1.heap.objs.size],_,_,j,rfl,c.kept λb o e=>aE _ e,Mv a _,⟨_,aY _ rfl,rfl,rfl⟩,λb g=>?_,q⟩;have e:b=s1.heap.objs.size:=by simpa using g
 subst e;exact c.fpOk (aH _) (c.hok.fresh (aH _))
theorem HK{l:au}{d:TE}(n:PE X l d):PI X tg l (EO X.K d):=by
 intro i s r H R I h;refine Ym (n i s r H _ I h) λv s1 ⟨x,j,c,f,m⟩=>?_;obtain⟨a,e,⟨y,k⟩,q⟩:=m;subst e;cases f;obtain⟨u,t,p,w⟩:=c.tuple k;refine iV (p) ?_;refine⟨s1.heap.objs.size,[s1.heap.objs.size],_,_,j,rfl,c.kept λb o e=>aE _ e,OB a _,⟨_,aY _ rfl,rfl,rfl⟩,λb g=>?_,q⟩;have e:b=s1.heap.objs.size:=by simpa using g
 subst e;exact c.fpOk (aH _) (c.hok.fresh (aH _))
theorem Pc{c:List (aG×c9)}{d:St}{H:Hp}{s:aL}{R:It->Hp->Prop}{E:aF->aL->Prop}{lo a:Int}{t u v:Tok}{tk:Nat}(I:Inv X c d H s)(i : -(2^62)<=lo)(m:lo<2^62)(k : -(2^62)<=a)(h:a<2^62)
  (q:R (Fz lo (a-lo).toNat) H):az (model X.prog X.w) X.A (pyIter (.ref s.heap.objs.size)) (Dz X c d tg R) E { s with heap:=s.heap.push { cls:=.type "range",data:=.fields #[.int lo t,.int a u,.int 1 v] },toks:=tk }:=by
 refine wpAny_pyIter_range (IsRange.new ..) (small_one i m k h) ?_;have f:Inv X c d H { s with heap:=s.heap.push { cls:=.type "range",data:=.fields #[.int lo t,.int a u,.int 1 v] },toks:=tk }:=I.kept λb o e=>aE _ e
 refine⟨(s.heap.push { cls:=.type "range",data:=.fields #[.int lo t,.int a u,.int 1 v] }).objs.size,[(s.heap.push { cls:=.type "range",data:=.fields #[.int lo t,.int a u,.int 1 v] }).objs.size],_,_,H,rfl,
  f.kept λb o e=>aE _ e,OC _ lo (a-lo).toNat,?_,λb g=>?_,q⟩
 ·have j:lo+((0:Nat):Int)*1=lo:=by simp
  have l:(((a-lo).toNat:Nat):Int)-((0:Nat):Int)=iO.Range.rangeSize lo a 1:=by rw[rangeSize_one];split<;>omega
  rw[j,l];exact aY _ rfl
 ·have e:b=(s.heap.push { cls:=.type "range",data:=.fields #[.int lo t,.int a u,.int 1 v] }).objs.size:=by simpa using g
  subst e;exact f.fpOk (aH _) (f.hok.fresh (aH _))
noncomputable def FC(ta:TA):TI:=λσ H R=>ta σ H λvs H1=>∃j:Int,vs=[.int j]/\-(2^62)<=j/\j<2^62/\R (Fz 0 j.toNat) H1
noncomputable def FD(ta:TA):TI:=λσ H R=>ta σ H λvs H1=>∃i j:Int,vs=[.int i,.int j]/\(-(2^62)<=i/\i<2^62/\-(2^62)<=j/\j<2^62)/\R (Fz i (j-i).toNat) H1
theorem Mw{a:au}{d:TA}{p b:dk}(o:Gl X "range")(l:X.mg "range" = none)(u:PA X [a] d)(n:aT [a] X.env=[(aB,eval a X.env)]:=by rfl):PI X tg (.Call (.Name "range" p) [a] [] b) (FC d):=by
 intro g s k H R I h;refine Call_ (Vi I o l boot_range (cI (Ym (u b g s k H _ I h) λw s1 ⟨vs,v,m,f,c⟩=>?_) n rfl));obtain⟨j,e,c,i,q⟩:=c;subst e
 cases f with
 | cons r rr=>
  cases rr;obtain⟨t,rfl⟩:=r;exact call_range_1 (Pc m (by omega) (by omega) c i (by simpa using q))
theorem Mx{a b:au}{g:TA}{p c:dk}(y:Gl X "range")(u:X.mg "range" = none)(z:PA X [a,b] g)(w:aT [a,b] X.env=[(aB,eval a X.env),(aB,eval b X.env)]:=by rfl)(d:aT [b] X.env=[(aB,eval b X.env)]:=by rfl) :
  PI X tg (.Call (.Name "range" p) [a,b] [] c) (FD g):=by
 intro l s o H R I h;refine Call_ (Vi I y u boot_range (cI (Ym (z c l s o H _ I h) λB s1 ⟨vs,A,v,k,f⟩=>?_) (by rw[w,d]) (by rw[d];rfl)));obtain⟨i,j,e,⟨f,m,n,x⟩,q⟩:=f;subst e
 cases k with
 | cons r rr=>
  cases rr with
  | cons r' rr=>
   cases rr;obtain⟨t,rfl⟩:=r;obtain⟨t',rfl⟩:=r';exact call_range_2 (Pc v f m n x q)
noncomputable def ER(wi:TI)(g:TG)(tb:TS):TS:=λD σ H=>wi σ H λJ H1=>∃W:Nat->Nat->St->Hp->Prop,(∃m,W 0 m σ H1)/\∀i m σ H,W i m σ H->
 (J.stop i H/\D.nx σ H)\/(J.go i H/\∃N:St->Hp->Prop,(∀σ' H',N σ' H'->∃m',m'<m/\W (i+1) m' σ' H')/\∀x H',J.yld i H x H'->g x σ H' λσ2 H2=>tb { D with nx:=N,ct:=N,bk:=D.nx } σ2 H2)
noncomputable def Ui(fp:List aG)(h:bP):List (aG×c9):=fp.filterMap λb=>(h.get? b).map λo=>(b,o)
theorem X3{a:List aG}{h:bP}{b:aG}{o:c9}(c:b∈a)(e:h.get? b=aA o):(b,o)∈Ui a h:=iW.mpr ⟨b,c,by rw[e];rfl⟩
theorem My{a:List aG}{h:bP}{p:aG×c9}(f:p∈Ui a h):p.1∈a/\h.get? p.1=aA p.2:=by
 obtain⟨b,d,e⟩:=iW.mp f
 cases q:h.get? b with
 | none=>rw[q] at e;cases e
 | some o=>
  rw[q] at e;have c:=aq e;subst c;exact⟨d,q⟩
theorem Inv.pinned{a:List (aG×c9)}{h:St}{H:Hp}{s:aL}{c:List aG}(I:Inv X a h H s)(i:∀b∈c,X2 X a H b)(l:∀b∈c,∃o,s.heap.get? b=aA o/\∀v,o.data≠.cell v):Inv X (a++Ui c s.heap) h H s:=
 I.pins_of λp k=>(bj.mp k).elim (λz=>I.pin p (af _ z)) λz=>by obtain⟨f,e⟩:=My z;obtain⟨j,f1,f2,_⟩:=i p.1 f;obtain⟨o,g,d⟩:=l p.1 f;rw[e] at g;cases g;exact⟨e,j,f1,f2,d⟩
theorem Inv.unpinned{b c:List (aG×c9)}{a:St}{H:Hp}{s:aL}(I:Inv X (b++c) a H s):Inv X b a H s:=I.pins_of λp d=>I.pin p (af _ (bO _ d))
theorem HL{l:au}{w:List bb}{wi:TI}{g:TG}{tb:TS}{P:dk}(E:iM (model X.prog X.w) X.A X.env X.xe)(hc:X.calm=aC)(hi:PI X tg l wi)(hg:PG X tg g)(k:PSs X w tb)
  (hs:∀x,bI l X.env x=pure x:=by intro _;rfl):PS X (.For tg l w [] P) (ER wi g tb):=by
 intro z s σ H D I h;refine wpAny_For (Ym (hi z s σ H _ I h) λv s1 h1=>Ym h1 λitv s2 h2=>?_) hs;obtain⟨it,G,tn,J,H2,e,I2,T,U,f2,W,⟨m0,w0⟩,turn⟩:=h2;subst e
 -- what stays aC of the iterator's objects through the loop
 have j:∀{H':Hp},(∀b∈G,H' b=none)->∀b∈G,X2 X z H' b:=λhn b k=>⟨hn b k,(f2 b k).2⟩;refine codeAny_forLoop_any (λn s'=>∃i σ' H',Inv X z σ' H' s'/\tn i s'.heap/\(∀b∈G,H' b=none)/\W i n σ' H') ?_ m0 ⟨0,σ,H2,I2,U,λb k=>(f2 b k).1,w0⟩;rintro n Z ⟨i,c,L,Y,C,A,w3⟩;rcases turn i n c L w3 with⟨B,qn⟩ | ⟨go,N,hN,step⟩
 ·refine cz E (Ym (T.done X rfl rfl rfl hc i z Z c L X.xe Y (j A) C B) λr s4 ⟨O,I4⟩=>?_);subst O;exact fK ⟨c,L,I4,qn⟩
 ·refine cz E (Ym (T.item X rfl rfl rfl hc i z Z c L X.xe Y (j A) C go) λr s4 ⟨u,O,h4⟩=>?_);subst O;refine cz E (Ym h4 λ_ s5 ⟨x,H5,I5,r5,y5,y,M⟩=>?_);have Q:=I5.pinned (j M) (T.obj _ _ y);refine cz E (Ym (hg _ s5 c H5 x u _ Q r5 (step x H5 y5)) λ_ s6 ⟨R,H6,I6,q6⟩=>?_);refine cz E (Ym (k _ s6 R H6 _ I6 q6) λf S t=>?_);have again:∀{a:St}{p:Hp},Inv X (z++Ui G s5.heap) a p S->N a p->∃m,m<n/\∃i σ' H',Inv X z σ' H' S/\tn i S.heap/\(∀b∈G,H' b=none)/\W i m σ' H':=λ{a p} q F=>by obtain⟨m',hm,w7⟩:=hN a p F;refine⟨m',hm,i+1,a,p,q.unpinned,T.keep _ _ _ y λb k o e=>(q.pin (b,o) (af _ (af _ (X3 k e)))).1,λb k=>?_,w7⟩;obtain⟨o,e,d⟩:=T.obj _ _ y b k;exact(q.pin (b,o) (af _ (af _ (X3 k e)))).2.1
  cases f with
  | next=>obtain⟨a,p,q,F⟩:=t;exact again q F
  | cont=>obtain⟨a,p,q,F⟩:=t;exact again q F
  | brk=>obtain⟨a,p,q,t⟩:=t;exact⟨a,p,q.unpinned,t⟩
  | ret v=>obtain⟨x7,a,p,q,r7,t⟩:=t;exact⟨x7,a,p,q.unpinned,r7,t⟩
end
abbrev R2:=V->V->Hp->VK->Prop
noncomputable def U2(X:Cx)(f:aF->aF->Sem aF)(r:R2):Prop:=
 ∀(jn:List (aG×c9))(s:aL)(σ:St)(H:Hp)(x y:V)(v u:aF)(Q:VK),Inv X jn σ H s->RelV x v->RelV y u->r x y H Q->
  az (model X.prog X.w) X.A (f v u) (EP X jn σ Q) X.xe s
noncomputable def ES(X:Cx)(f:aF->Sem aF)(r:V->Hp->VK->Prop):Prop:=
 ∀(jn:List (aG×c9))(s:aL)(σ:St)(H:Hp)(x:V)(v:aF)(Q:VK),Inv X jn σ H s->RelV x v->r x H Q->
  az (model X.prog X.w) X.A (f v) (EP X jn σ Q) X.xe s
noncomputable def YT(X:Cx)(f:aF)(r:List V->Hp->VK->Prop):Prop:=
 ∀(jn:List (aG×c9))(s:aL)(σ:St)(H:Hp)(xs:List V)(us:List aF)(Q:VK),Inv X jn σ H s->Vals xs us->r xs H Q->
  az (model X.prog X.w) X.A (call f us) (EP X jn σ Q) X.xe s
noncomputable def ET(X:Cx)(r:V->Hp->(Bool->Hp->Prop)->Prop):Prop:=
 ∀(jn:List (aG×c9))(s:aL)(σ:St)(H:Hp)(x:V)(v:aF)(Q:Bool->Hp->Prop),Inv X jn σ H s->RelV x v->r x H Q->
  az (model X.prog X.w) X.A (truthy v) (TP X jn σ Q) X.xe s
noncomputable def Fg(r:R2)(ta tb:TE):TE:=λσ H Q=>ta σ H λx H1=>tb σ H1 λy H2=>r x y H2 Q
noncomputable def DO(r:V->Hp->VK->Prop)(ta:TE):TE:=λσ H Q=>ta σ H λx H1=>r x H1 Q
noncomputable def rI(C:Int->Int->Prop)(g:Int->Int->V):R2:=λx y H Q=>∃i j,x = .int i/\y = .int j/\C i j/\Q (g i j) H
noncomputable def IT(g:Int->Int->V):R2:=λx y H Q=>∃i j,x = .int i/\y = .int j/\Q (g i j) H
noncomputable def rU(g:Int->V):V->Hp->VK->Prop:=λx H Q=>∃i,x = .int i/\Q (g i) H
section
variable {X:Cx} {a b c:au} {ta tb tc:TE} {pos:dk}
theorem HM(t:PE X a ta)(l:PE X b tb){i:List (aG×c9)}{s:aL}{c:St}{H:Hp}{R:V->V->Hp->Prop}(I:Inv X i c H s)
  (h:ta c H λx j=>tb c j λy d=>R x y d) {Q:aF->aL->Prop} {f:aF->aF->Sem aF}
  (m:∀v u s2 x y d,Inv X i c d s2->RelV x v->RelV y u->R x y d->az (model X.prog X.w) X.A (f v u) Q X.xe s2) :
  az (model X.prog X.w) X.A (eval a X.env) (λv g=>az (model X.prog X.w) X.A (eval b X.env) (λu e=>az (model X.prog X.w) X.A (f v u) Q X.xe e) X.xe g) X.xe s:=by
 refine Ym (t i s c H _ I h) λv s1 ⟨x,j,p,k,n⟩=>?_;refine Ym (l i s1 c j _ p n) λu s2 ⟨y,d,q,r,o⟩=>?_;exact m v u s2 x y d q k r o
theorem Ly{op:Operator}{r:R2}(i:U2 X (dC op) r)(l:PE X a ta)(d:PE X b tb):PE X (.BinOp a op b pos) (Fg r ta tb):=by intro e s g H Q I h;exact wpAny_BinOp (HM l d I h λv u s2 x y k j f c q=>i e s2 g k x y v u Q j f c q)
theorem FE{op:UnaryOp}{r:V->Hp->VK->Prop}(i:ES X (unaryOp op) r)(j:PE X a ta):PE X (.UnaryOp op a pos) (DO r ta):=by intro c s b H Q I h;exact UnaryOp_ (Ym (j c s b H _ I h) λv s1 ⟨x,g,e,f,d⟩=>i c s1 b g x v Q e f d)
theorem HN{f:aF->aF->Sem aF}{C:Int->Int->Prop}{g:Int->Int->Int}
  (rule:∀(i j:Int)(t u:Tok)(s:aL)(Q:aF->aL->Prop)(E:aF->aL->Prop),C i j->Q (.int (g i j) s.toks) { s with toks:=s.toks+1 }->az (model X.prog X.w) X.A (f (.int i t) (.int j u)) Q E s) :
  U2 X f (rI C λi j=>.int (g i j)):=by
 intro d s e H x y v u Q I b a h;obtain⟨i,j,rfl,rfl,c,q⟩:=h;obtain⟨t,rfl⟩:=b;obtain⟨t',rfl⟩:=a;exact rule i j t t' s _ _ c ⟨.int (g i j),H,I.tok _,⟨_,rfl⟩,q⟩
theorem FF{f:aF->aF->Sem aF}{g:Int->Int->Int}
  (rule:∀(i j:Int)(t u:Tok)(s:aL)(Q:aF->aL->Prop)(E:aF->aL->Prop),Q (.int (g i j) s.toks) { s with toks:=s.toks+1 }->az (model X.prog X.w) X.A (f (.int i t) (.int j u)) Q E s) :
  U2 X f (IT λi j=>.int (g i j)):=by
 intro c s d H x y v u Q I b a h;obtain⟨i,j,rfl,rfl,q⟩:=h;obtain⟨t,rfl⟩:=b;obtain⟨t',rfl⟩:=a;exact rule i j t t' s _ _ ⟨.int (g i j),H,I.tok _,⟨_,rfl⟩,q⟩
theorem FG{f:aF->aF->Sem aF}{g:Int->Int->Bool}
  (rule:∀(i j:Int)(t u:Tok)(s:aL)(Q:aF->aL->Prop)(E:aF->aL->Prop),Q (.bool (g i j)) s->az (model X.prog X.w) X.A (f (.int i t) (.int j u)) Q E s) :
  U2 X f (IT λi j=>.bl (g i j)):=by
 intro c s d H x y v u Q I b a h;obtain⟨i,j,rfl,rfl,q⟩:=h;obtain⟨t,rfl⟩:=b;obtain⟨t',rfl⟩:=a;exact rule i j t t' s _ _ ⟨.bl (g i j),H,I,rfl,q⟩
noncomputable def OD(i j:Int):Prop:=0<j/\j<1073741824
noncomputable def IU(i j:Int):Prop:=j≠0/\j.natAbs<1073741824
noncomputable def Mz(i j:Int):Prop:=0<=j/\j<=1000000/\i.natAbs<2^64
noncomputable def CMul(i j:Int):Prop:=(-(2^64)<i/\i<2^64)\/(-(2^64)<j/\j<2^64)
theorem CMul.ok{i j:Int}(h:CMul i j):IntMulOk i j:=by
 rcases h with⟨b,a⟩ | ⟨b,a⟩
 ·exact .of_left (intBits_le_64 b a)
 ·exact .of_right (intBits_le_64 b a)
theorem HP:U2 X (dC .Add) (IT λi j=>.int (i+j)):=FF λ_ _ _ _ _ _ _ q=>add_int q
theorem HQ:U2 X (dC .Sub) (IT λi j=>.int (i-j)):=FF λ_ _ _ _ _ _ _ q=>sub_int q
theorem HR:U2 X (dC .Mult) (rI CMul λi j=>.int (i*j)):=HN λ_ _ _ _ _ _ _ a q=>mul_int q a.ok
theorem Jj:U2 X (dC .FloorDiv) (rI OD λi j=>.int (i/j)):=HN λi j _ _ _ _ _ a q=>by have c:=a.1;have b:=a.2;exact ik (by omega) (by rw[fW i (by omega)];exact q) (.inl (PyProof.noPylong_small (by omega)))
theorem HU:U2 X (dC .Mod) (rI (λ_ j=>0<j) λi j=>.int (i%j)):=HN λi j _ _ _ _ _ a q=>by exact mod_int' (by omega) (by rw[Int.fmod_eq_emod_of_nonneg i (by omega)];exact q)
theorem Jk:U2 X (dC .Mod) (rI (λ_ j=>j≠0) λi j=>.int (i.fmod j)):=HN λ_ _ _ _ _ _ _ a q=>mod_int' a q
theorem HW:U2 X (dC .Pow) (rI Mz λi j=>.int (i^j.toNat)):=HN λ_ _ _ _ _ _ _ a q=>pow_int_small a.1 a.2.1 a.2.2 q
theorem DP{f:aF->Sem aF}{g:Int->Int}
  (rule:∀(i:Int)(t:Tok)(s:aL)(Q:aF->aL->Prop)(E:aF->aL->Prop),Q (.int (g i) s.toks) { s with toks:=s.toks+1 }->az (model X.prog X.w) X.A (f (.int i t)) Q E s) :
  ES X f (rU λi=>.int (g i)):=by
 intro c s b H x v Q I a h;obtain⟨i,rfl,q⟩:=h;obtain⟨t,rfl⟩:=a;exact rule i t s _ _ ⟨.int (g i),H,I.tok _,⟨_,rfl⟩,q⟩
theorem HX:ES X (unaryOp .USub) (rU λi=>.int (-i)):=DP λ_ _ _ _ _ q=>neg_int q
end
section
variable {X:Cx} {a b c:au} {ta tb tc:TE} {pos:dk}
theorem FH:U2 X (eM .Lt) (IT λi j=>.bl (decide (i<j))):=FG λ_ _ _ _ _ _ _ q=>lt_int q
theorem FI:U2 X (eM .Gt) (IT λi j=>.bl (decide (j<i))):=FG λ_ _ _ _ _ _ _ q=>gt_int q
theorem Uj(b:au){op:j1}(h:op≠.In:=by decide)(c:op≠.NotIn:=by decide):ck op b=aB:=by
 have d:(op==j1.In)=aB:=by cases op<;>first | rfl | exact absurd rfl h
 have a:(op==j1.NotIn)=aB:=by cases op<;>first | rfl | exact absurd rfl c
 cases b<;>simp[ck,d,a]
theorem Jl{op:j1}{r:R2}(j:U2 X (eM op) r)(m:PE X a ta)(d:PE X b tb)(i:ck op b=aB):PE X (.Compare a [op] [b] pos) (Fg r ta tb):=by intro e s g H Q I h;exact wpAny_Compare1 (HM m d I h λv u s2 x y l k f c q=>j e s2 g l x y v u Q k f c q) i
noncomputable def ND(t:TE):TT:=λσ H Q=>t σ H λx H'=>∃k,x = .bl k/\Q k H'
theorem Jm{op:j1}{r:R2}(t:U2 X (eM op) r)(E:PE X a ta)(j:PE X b tb)(p:ck op b=aB):PT X (.Compare a [op] [b] pos) (ND (Fg r ta tb)):=by
 intro d s f H Q I h
 refine gy (Ym (E d s f H _ I h) λv s1 ⟨x,l,w,g,m⟩=>Ym (j d s1 f l _ w m) λu s2 ⟨y,D,A,C,n⟩=>
  Ym (t d s2 f D x y v u _ A g C n) λc F ⟨z,i,q,B,k,e,o⟩=>?_) p
 subst e;cases B;exact cL ⟨i,q,o⟩
noncomputable def EU(K:aD)(x:V)(H:Hp)(k:Bool):Prop:=
 match x with
 | .non=>k=aB
 | .bl b=>k=b
 | .int i=>k=(i != 0)
 | .str y=>y.length<=sizeLine/\k=((y.length:Int) != 0)
 | .byt y=>y.size<=sizeLine/\k=((y.size:Int) != 0)
 | .ref p=>(∃xs,SqL K H p xs/\k = !xs.isEmpty)\/(∃xs,SqT K H p xs/\k = !xs.isEmpty)\/∃jo,H p=aA (.dK jo)/\k = !jo.isEmpty
 | _=>False
theorem OE{a:Type}{b:List (a×V)}{vs:List (a×aF)}(r:KV b vs):(!vs.isEmpty) = !b.isEmpty:=by cases r<;>rfl
theorem TU{a:List V}{b:List aF}(r:Vals a b):(!b.toArray.isEmpty) = !a.isEmpty:=by cases r<;>simp
theorem Qg:(sizeLine:Nat)<2^63:=by rw[hW];decide
theorem tru_ok:ET X (λx H Q=>∃k,EU X.K x H k/\Q k H):=by
 intro z s A H x v Q I d h;obtain⟨k,e,q⟩:=h;have B:=hW
 cases x with
 | non=>
  cases d;have a:=e;subst a;exact truthy_none ⟨H,I,q⟩
 | bl b=>
  cases d;have a:=e;subst a;exact cL ⟨H,I,q⟩
 | int i=>
  obtain⟨t,rfl⟩:=d;have a:=e;subst a;exact PySem.P.truthy_int ⟨H,I,q⟩
 | str y=>
  obtain⟨t,rfl⟩:=d;obtain⟨l,a⟩:=e;subst a;exact PySem.P.truthy_str (by omega) ⟨H,I.tok _,q⟩
 | byt y=>
  obtain⟨t,rfl⟩:=d;obtain⟨l,a⟩:=e;subst a;exact PySem.W.truthy_bytes (by omega) ⟨H,I.tok _,q⟩
 | ref p=>
  cases d;have a:=e;rcases a with⟨u,f,a⟩ | ⟨u,f,a⟩ | ⟨w,f,a⟩
  ·subst a;obtain⟨n,r,g,j⟩:=I.list f;have c:=r.length;exact wpAny_truthy_list g.isList (by simp only[aO];omega) ⟨H,I.tok _,by rw[TU r];exact q⟩
  ·subst a;obtain⟨n,r,g,j⟩:=I.tuple f;have c:=r.length;exact truthy_tuple g (by simp only[aO];omega) ⟨H,I.tok _,by rw[TU r];exact q⟩
  ·subst a;obtain⟨j,o,vs,r,m⟩:=I.hok p _ f;have c:=Paired.length r;exact wpAny_truthy_dict o m (by omega) ⟨H,I.tok _,by rw[OE r];exact q⟩
 | _=>exact(e).elim
theorem Vc{x:V}{a:List aF}(r:Vals [x] a):∃u,a=[u]/\RelV x u:=by
 cases r with
 | cons r1 r2=>cases r2;exact⟨_,rfl,r1⟩
theorem IV{x y:V}{a:List aF}(r:Vals [x,y] a):∃u w',a=[u,w']/\RelV x u/\RelV y w':=by
 cases r with
 | cons r1 r2=>
  cases r2 with
  | cons r3 r4=>cases r4;exact⟨_,_,rfl,r1,r3⟩
theorem Pd:YT X (.builtin "abs") (λa H Q=>∃i,a=[.int i]/\Q (.int (if i<0 then -i else i)) H):=by intro d s c H a b Q I r h;obtain⟨i,rfl,q⟩:=h;obtain⟨u,rfl,t,rfl⟩:=Vc r;exact call_abs_int λu tk=>⟨.int (if i<0 then -i else i),H,I.tok _,⟨_,rfl⟩,q⟩
theorem MA(c:X.calm=aC):YT X (.builtin "min") (λb H Q=>∃i j,b=[.int i,.int j]/\Q (.int (if j<i then j else i)) H):=by
 intro d s l H b g Q I r h;obtain⟨i,j,rfl,q⟩:=h;obtain⟨u,f,rfl,⟨t,rfl⟩,⟨t',rfl⟩⟩:=IV r;refine min_two_ints (I.ok.hd c) λe tk k=>⟨_,H,I.kept k,?_,q⟩;by_cases a:j<i
 ·rw[ju a,ju a];exact⟨_,rfl⟩
 ·rw[jv a,jv a];exact⟨_,rfl⟩
theorem Rx:YT X (.type "int") (λa H Q=>(∃i,a=[.int i]/\Q (.int i) H)\/∃k,a=[.bl k]/\Q (.int (if k then 1 else 0)) H):=by
 intro e s d H a c Q I r h;rcases h with⟨i,rfl,q⟩ | ⟨k,rfl,q⟩
 ·obtain⟨u,rfl,t,rfl⟩:=Vc r;exact call_int_int ⟨.int i,H,I,⟨_,rfl⟩,q⟩
 ·obtain⟨u,rfl,b⟩:=Vc r;cases b;exact call_int_bool ⟨.int (if k then 1 else 0),H,I.tok _,⟨_,rfl⟩,q⟩
noncomputable def FJ(K:aD)(x:V)(H:Hp)(n:Nat):Prop:=
 match x with
 | .str y=>y.length<=sizeLine/\n=y.length
 | .byt y=>y.size<=sizeLine/\n=y.size
 | .ref p=>(∃xs,SqL K H p xs/\n=xs.length)\/∃xs,SqT K H p xs/\n=xs.length
 | _=>False
theorem Lz:YT X (.builtin "len") (λc H Q=>∃x n,c=[x]/\FJ X.K x H n/\Q (.int n) H):=by
 intro m s v H c o Q I r h;obtain⟨x,n,rfl,e,q⟩:=h;obtain⟨u,rfl,d⟩:=Vc r;have w:=hW
 cases x with
 | str y=>
  obtain⟨t,rfl⟩:=d;obtain⟨j,b⟩:=e;subst b;exact len_str (by omega) ⟨.int _,H,I.tok _,⟨_,rfl⟩,q⟩
 | byt y=>
  obtain⟨t,rfl⟩:=d;obtain⟨j,b⟩:=e;subst b;exact PySem.W.len_bytes (by omega) ⟨.int _,H,I.tok _,⟨_,rfl⟩,q⟩
 | ref p=>
  cases d;have b:=e;rcases b with⟨c,f,b⟩ | ⟨c,f,b⟩
  ·subst b;obtain⟨k,g,i,l⟩:=I.list f;have a:=g.length;exact Calls.call_len_list i.isList (by simp only[aO];omega) ⟨.int c.length,H,I.tok _,⟨_,by simp only[aO];rw[a]⟩,q⟩
  ·subst b;obtain⟨k,g,i,l⟩:=I.tuple f;have a:=g.length;exact len_tuple i (by simp only[aO];omega) ⟨.int c.length,H,I.tok _,⟨_,by simp only[aO];rw[a]⟩,q⟩
 | _=>exact(e).elim
end
structure ObjM(h:bP)(x dx C:aG)(mA:ah->Option aF):Prop where
 obj:h.get? x=aA (gp C dx)
 ns:h.Ns1 dx mA
 ne:dx≠x
theorem MB{h:bP}{d:aG}{f:ah->Option aF}(n:h.Ns1 d f):∃od,h.get? d=aA od/\∀b,iA b od=aA (f b):=by
 obtain⟨o,g,ep,m,l,p,_,k⟩:=n;refine⟨o,m,λb=>?_⟩;have e:=k b;unfold nsFind findBy at e;rw[<-Array.find?_toList] at e;unfold iA;rw[l]
 dsimp only
 split
 ·rename_i y q;rw[q] at e;exact congrArg aA e
 ·rename_i q;rw[q] at e;have a:g.toList.any (·.refKey)=aB:=by rw[eU];intro y i;obtain⟨z,t,c⟩:=p y (Array.mem_toList_iff.mp i);simp[DictEntry.refKey,c]
  have j:¬g.toList.any (·.refKey)=aC:=by rw[a];exact bK
  rw[jv j];exact congrArg aA e
theorem ObjM.look{h:bP}{x c C:aG}{b:ah->Option aF}(I:ObjM h x c C b):∃a,PySem.W.InstAt h x (gp C c) C (aA a)/\∀name,iA name a=aA (b name):=
 let⟨a,e,d⟩:=MB I.ns
 ⟨a,⟨I.obj,rfl,rfl,e⟩,d⟩
section
variable {P:bH} {w:bu} {H H':Hp} {h h':bP} {a C dx:aG} {fs fs':List (ah×V)}
theorem Jn(c:HOk P w H h)(e:H a=aA (.ins C dx fs)):∃b,ObjM h a dx C b/\(∀f,Hu (fs.lookup f) (b f))/\jf b (fs.map (·.1))/\fs.length<=1000/\H dx=aA (.own a):=by obtain⟨d,z,ne,g,b,n,r,q⟩:=(c a _ e);exact⟨b,⟨g,n,ne⟩,r,q,z,d⟩
end
structure Cls(K:aD)(C:aG):Prop where
 pg:jI K C ah.empty=aC
 hd:PySem.W.hasDictIn K C=aC
 po:PySem.W.plainOver K C=aC
 sa:j2 K (.ref C) "__setattr__" = aA (aA (.builtin "object.__setattr__"))
theorem Cls.get{K:aD}{C:aG}(c:Cls K C)(f:ah):jI K C f=aC:=c.pg
section
variable {X:Cx} {jn:List (aG×c9)} {σ:St} {H:Hp} {s:aL} {A:bc} {E:aF->aL->Prop} {Q:aF->aL->Prop} {c:aF} {b:Bool}
inductive TyOf(K:aD)(H:Hp):V->aF->Prop where
 | non:TyOf K H .non (.type "NoneType")
 | bl (x:Bool):TyOf K H (.bl x) (.type "bool")
 | int (i:Int):TyOf K H (.int i) (.type "int")
 | str (x:ah):TyOf K H (.str x) (.type "str")
 | flt (x:UInt64):TyOf K H (.flt x) (.type "float")
 | lst {a:aG} {xs:List V} (e:H a=aA (.lst xs)):TyOf K H (.ref a) (.type "list")
 | frz {a:aG} {o:c9} {xs:List V} (e:H a=aA (.frz o (.lst xs))):TyOf K H (.ref a) (.type "list")
 | tup {a:aG} {xs:List V} (e:H a=aA (.tup xs)):TyOf K H (.ref a) (.type "tuple")
 | dK {a:aG} {jo:List (S6×V)} (e:H a=aA (.dK jo)):TyOf K H (.ref a) (.type "dict")
 | dT {a:aG} {jo:List (List S6×V)} (e:H a=aA (.dT jo)):TyOf K H (.ref a) (.type "dict")
 | ins {a C dx:aG} {fs:List (ah×V)} (e:H a=aA (.ins C dx fs)) (cl:Cls K C) (ha:j2 K (.ref C) "__class__" = aA (aA (.builtin "object.__class__")))
   (hn:PySem.W.specialIn K (.builtin "object.__class__") "__get__" = aA (aA (.builtin "getset_descriptor.__get__"))) (htk:PySem.W.takesIn K (.builtin "object.__class__")=aA aC)
   (hm:PySem.W.mroIn K C (.type "object")=aA aC):TyOf K H (.ref a) (.ref C)
theorem MC{x:V}{u t:aF}(I:Inv X jn σ H s)(d:RelV x u)(ty:TyOf X.K H x t)(e:cM X.K t c=aA b)(h:∀tk,Q (.bool b) { s with toks:=tk }) :
  az (model X.prog X.w) A (call (.builtin "isinstance") [u,c]) Q E s:=by
 cases ty with
 | non=>cases (d);exact bp PySem.W.kitx_none I.kIn cT e (λz=>nomatch z) h
 | bl y=>cases (d);exact bp PySem.W.kitx_bool I.kIn cT e (λz=>nomatch z) h
 | int i=>obtain⟨t,q⟩:=(d);cases q;exact bp PySem.W.kitx_int I.kIn cT e (λz=>nomatch z) h
 | str y=>obtain⟨t,q⟩:=(d);cases q;exact bp PySem.W.kitx_str I.kIn cT e (λz=>nomatch z) h
 | flt y=>obtain⟨t,q⟩:=(d);cases q;exact bp PySem.W.kitx_float I.kIn cT e (λz=>nomatch z) h
 | @lst a j ea=>
  cases (d);obtain⟨_,_,n,_,f⟩:=(I.hok a _ ea);exact bp il I.kIn ⟨_,f,rfl⟩ e (λz=>nomatch z) h
 | @frz a ob j ea=>
  cases (d);obtain⟨_,_,_,n,_,f⟩:=(I.hok a _ ea);exact bp il I.kIn ⟨_,f,rfl⟩ e (λz=>nomatch z) h
 | @tup a j ea=>
  cases (d);obtain⟨_,_,_,p⟩:=(I.hok a _ ea);obtain⟨o,f,g,_⟩:=p;exact bp PySem.W.kitx_tuple I.kIn ⟨o,f,g⟩ e (λz=>nomatch z) h
 | @dK a jo ea=>
  cases (d);obtain⟨_,_,vs,_,p⟩:=(I.hok a _ ea);obtain⟨o,k,ep,f,g,_⟩:=p;exact bp ip I.kIn ⟨o,f,g.1⟩ e (λz=>nomatch z) h
 | @dT a jo ea=>
  cases (d);obtain⟨_,_,j,_,o,k,ep,f,g,_⟩:=(I.hok a _ ea);exact bp ip I.kIn ⟨o,f,g.1⟩ e (λz=>nomatch z) h
 | @ins a C dx fs ea cl ha hn htk hm=>
  cases (d);obtain⟨m,O,_⟩:=Jn I.hok ea;obtain⟨l,J,_⟩:=O.look;exact bp (PySem.W.kitx_own (cl.get _) cl.hd ha hn htk hm) I.kIn J e (λz=>nomatch z) h
end
structure Room(k:Nat)(A:bc):Prop where
 hd:A.handled=none
 dp:A.depth+3*k+5<iB
 un:A.units+16*k+200<iT
 gd:A.guards=aA []
theorem Room.mono{j k:Nat}{A:bc}(r:Room k A)(h:j<=k):Room j A:=⟨r.hd,by have:=r.dp;omega,by have:=r.un;omega,r.gd⟩
theorem Room.deeper{k:Nat}{A:bc}(r:Room (k+1) A)(env:jG):Room k (A.deeper env):=
 ⟨r.hd,by have:=r.dp;show A.depth+1+3*k+5<_;omega,by have:=r.un;show A.units+3+16*k+200<_;omega,r.gd⟩
theorem Room.depth{k:Nat}{A:bc}(r:Room k A):A.depth<iB:=by have:=r.dp;omega
theorem Room.units{k:Nat}{A:bc}(r:Room k A):A.units+64<iT:=by have:=r.un;omega
noncomputable def HY:TA:=λ_ H Q=>Q [] H
noncomputable def Pe(ta:TE)(tr:TA):TA:=λσ H Q=>ta σ H λx H1=>tr σ H1 λxs H2=>Q (x::xs) H2
section
variable {X:Cx} {e:au} {es:List au} {te:TE} {t:TA} {pos:dk}
theorem Uk:PA X [] HY:=λ_ _ _ _ H Q I h=>Calls.spliced_nil ⟨[],H,I,.nil,h⟩
theorem Xp(q:PE X e te)(g:PA X es t)(l:aT (e::es) X.env=(aB,eval e X.env)::aT es X.env:=by rfl):PA X (e::es) (Pe te t):=by intro a b s c H Q I h;rw[l];refine Calls.spliced_cons (Ym (q b s c H _ I h) λu s1 ⟨x,f,k,d,i⟩=>?_);exact Ym (g a b s1 c f _ k i) λr s2 ⟨n,p,m,o,j⟩=>⟨x::n,p,m,.cons d o,j⟩
noncomputable def EV(t:TA):TE:=λσ H Q=>t σ H λxs H1=>xs.length<=sizeLine/\∀p,H1 p=none->Q (.ref p) (upd H1 p (.tup xs))
noncomputable def EW(t:TA):TE:=λσ H Q=>t σ H λxs H1=>xs.length<=sizeLine/\∀p,H1 p=none->Q (.ref p) (upd H1 p (.lst xs))
theorem HZ{x1}(h:PA X es t):PE X (.Tuple es x1 pos) (EV t):=by intro c s j H Q I f;refine wpAny_Tuple_spliced (Ym (h pos c s j H _ I f) λi s1 ⟨k,d,a,r,z,q⟩=>⟨by rw[<-r.length];exact z,?_⟩);have g:=a.hok.fresh (aH _);refine⟨.ref s1.heap.objs.size,upd d s1.heap.objs.size (.tup k),a.laid (λb u e=>aE _ e) (aH _) ?_,rfl,q _ g⟩;exact⟨⟨z,λo e=>Qc e⟩,i,r,⟨_,aY _ rfl,rfl,_,rfl⟩⟩
theorem LA(h:PA X es t):PE X (.List es pos) (EW t):=by intro c s j H Q I f;refine wpAny_List_spliced (Ym (h pos c s j H _ I f) λi s1 ⟨k,d,a,r,z,q⟩=>⟨by rw[<-r.length];exact z,?_⟩);have g:=a.hok.fresh (aH _);refine⟨.ref s1.heap.objs.size,upd d s1.heap.objs.size (.lst k),a.laid (λb u e=>aE _ e) (aH _) ?_,rfl,q _ g⟩;exact⟨z,i,0,r,aY _ rfl⟩
end
abbrev Sp:=List V->Hp->VK->XK->Prop
abbrev Jo:=List jG->Hp->aL->XK->aF->aL->Prop
structure Jp(P:bH)(w:bu)(K:aD)(mg:ah->Option aF)(base:bP)(A:bc)(outer:List jG)(s:aL)(H:Hp):Prop where
 frames:A.frames=aA outer
 mod:Mod K mg base
 bs:∀b o,base.get? b=aA o->s.heap.get? b=aA o/\H b=none
 bsz:base.objs.size<=s.heap.objs.size
 funs:s.heap.FunFrames base outer
 frf:∀b∈Ox outer,H b=none
 tab:TabsH K mg base H
 hok:HOk P w H s.heap
 bare:g7 s.gens
noncomputable def CE(outer:List jG)(P:bH)(w:bu)(H:Hp)(s:aL)(Q:VK)(u:aF)(s':aL):Prop:=
 ∃v H',s'.os=s.os/\g7 s'.gens/\Un (Ox outer) [] H H' s.heap s'.heap/\HOk P w H' s'.heap/\RelV v u/\Q v H'
noncomputable def CR(CX:Jo)(outer:List jG)(P:bH)(w:bu)(H:Hp)(s:aL)(Q:VK)(E:XK)(r:ji)(s':aL):Prop:=
 match r with
 | .ok (.ret u)=>CE outer P w H s Q u s'
 | .ok _=>False
 | .error e=>CX outer H s E e s'
structure Ta(P:bH)(w:bu)(K:aD)(mg:ah->Option aF)(base:bP)(CX:Jo)(k:Nat)(f:aG)(fd:dJ)(ps:List ah)(sp:Sp):Prop where
 len:∀vs H Q E,sp vs H Q E->vs.length=ps.length
 run:∀(A:bc)(outer:List jG)(s:aL)(H:Hp)(args:Args)(us:List aF)(vs:List V)(Q:VK)(E:XK),Room k A->Jp P w K mg base A outer s H->ir s fd args (ps.zip us)->Vals vs us->sp vs H Q E->
  g9 (model P w) A (.call (.ref f) args) (CR CX outer P w H s Q E) s
section
variable {X:Cx} {jn:List (aG×c9)} {σ:St} {H:Hp} {s s':aL}
theorem Inv.env0(I:Inv X jn σ H s):Jp X.prog X.w X.K X.mg X.base X.A X.stack s H:=
 ⟨I.ok.frames,I.ok.mod,I.bs,aQ I.ok.bsz I.sz,I.stack,I.stkFree,I.ok.tab.un I.base,I.hok,I.bare⟩
theorem Inv.after{Q:VK}{u:aF}(I:Inv X jn σ H s)(h:CE X.stack X.prog X.w H s Q u s'):EP X jn σ Q u s':=by obtain⟨v,e,os,a,un,c,r,q⟩:=h;obtain⟨i,g,d,t,f⟩:=s';obtain rfl:=os;exact⟨v,e,I.call un c a (λb z=>absurd z (by simp)),r,q⟩
end
noncomputable def LB(sp:Sp)(dvs:List V)(E:XK)(t:TA):TE:=λσ H Q=>t σ H λvs H1=>sp (vs++dvs) H1 Q E
noncomputable def Binds(K:aD)(fd:dJ)(ps:List ah)(ds:List aF):Prop:=
 ∀(s:aL)(us:List aF),K.In s.heap->(us++ds).length=ps.length->ir s fd ⟨us,[]⟩ (ps.zip (us++ds))
theorem Binds.all{K:aD}{d:dJ}{b:List ah}(h:∀a:List aF,a.length=b.length->gW d ⟨a,[]⟩=pure (b.zip a)):Binds K d b []:=λs a _ c=>by rw[dA] at c ⊢;exact .of_eq (h a c)
noncomputable def OF(CX:Jo)(X:Cx)(E:XK):Prop:=∀(jn:List (aG×c9))(σ:St)(H:Hp)(s:aL)(e:aF)(s':aL),Inv X jn σ H s->CX X.stack H s E e s'->X.xe e s'
section
variable {X:Cx} {CX:Jo} {k:Nat} {f C:aG} {fd:dJ} {ps:List ah} {sp:Sp} {dvs:List V} {ds:List aF} {E:XK} {x m:ah} {p pos apos:dk} {e o:au} {es:List au} {ta:TE} {t:TA}
theorem H9{c:List (aG×c9)}{d:St}{H:Hp}{s:aL}{Q:VK}{a:List aF}{vs:List V}(F:Ta X.prog X.w X.K X.mg X.base CX k f fd ps sp)(l:Room k X.A)(j:Binds X.K fd ps ds)(o:Vals dvs ds)(m:OF CX X E)
  (I:Inv X c d H s) (r:Vals vs a) (h:sp (vs++dvs) H Q E):az (model X.prog X.w) X.A (call (.ref f) a) (EP X c d Q) X.xe s:=by
 have g:=r.append o;have n:(a++ds).length=ps.length:=by rw[<-g.length];exact F.len _ _ _ _ h
 refine wpAny_call (iu (F.run X.A X.stack s H ⟨a,[]⟩ (a++ds) (vs++dvs) Q E l I.env0 (j s a I.kIn n) g h) λr i b=>?_)
 cases r with
 | error e=>exact m c d H s e i I b
 | ok fl=>
  cases fl with
  | ret u=>exact I.after b
  | next=>exact dQ b
  | brk=>exact dQ b
  | cont=>exact dQ b
theorem Jq(F:Ta X.prog X.w X.K X.mg X.base CX k f fd ps sp)(i:Room k X.A)(o:Gl X x)(m:X.mg x=aA (.ref f))(u:eV X.K (.ref f)=aC)(d:Binds X.K fd ps ds)(n:Vals dvs ds)(j:OF CX X E)
  (w:PA X (e::es) t) (a:(x==("__debug__" : ah))=aB:=by decide) (v:aT (e::es) X.env=(aB,eval e X.env)::aT es X.env:=by rfl) (b:(dh pos (aT es X.env)).any (·.1)=aB:=by rfl) :
  PE X (.Call (.Name x p) (e::es) [] pos) (LB sp dvs E t):=by
 intro g s l H Q I h;refine fX (Jd I o m ?_ a);refine PySem.W.callWith_K I.ok.mod.kin u (Ym (w pos g s l H _ I h) λz s1 ⟨vs,y,c,r,q⟩=>⟨c.kIn,?_⟩) v b;exact H9 F i d n j c r q
end
structure Zn(N P:List ah)(sc:cq):Prop where
 kind:sc.kind = .function
 co:sc.isCoroutine=aB
 gen:sc.isGenerator=aB
 nd:N.Nodup
 pre:N.take P.length=P
 par:∀x∈P,sc.names.lookup x=aA .local\/sc.names.lookup x=aA .cell
 nofree:∀y∈sc.names,y.2≠.free
theorem Ry{kindOf:ah->Option cu}{x:ah}:∀{binds:List (ah×aF)}{m:ah->Option aF},(∀v,(x,v)∉binds)->j3 kindOf binds m x=m x
 | [],_,_=>rfl
 | (n,v)::r,m,h=>by
  unfold j3;rw[Ry λw a=>h w (aV _ a)];split
  ·have:x≠n:=by rintro rfl;exact h v a0
   simp[this]
  ·rfl
theorem Rz{kindOf:ah->Option cu}{x:ah}:∀{binds:List (ah×aF)}{m:ah->Option aF},(∀v,(x,v)∉binds)->j4 kindOf binds m x=m x
 | [],_,_=>rfl
 | (n,v)::r,m,h=>by
  unfold j4;rw[Rz λw a=>h w (aV _ a)];split
  ·rfl
  ·have:x≠n:=by rintro rfl;exact h v a0
   simp[this]
theorem RA{kindOf:ah->Option cu}{x:ah}{v:aF}:∀{P:List ah}{vs:List aF}{i:Nat}{m:ah->Option aF},P.Nodup->P[i]?=aA x->vs[i]?=aA v->kindOf x=aA .local->
  j3 kindOf (P.zip vs) m x=aA v
 | [],_,_,_,_,h,_,_=>by simp at h
 | _::_,[],_,_,_,_,h,_=>by simp at h
 | p::P,w::vs,0,m,nd,h1,h2,hk=>by simp at h1 h2;subst h1;subst h2;show j3 kindOf ((p,w)::P.zip vs) m p=_;unfold j3;rw[Ry λv a=>(bM.mp nd).1 (gs a).1,ju hk];simp
 | p::P,w::vs,i+1,m,nd,h1,h2,hk=>by show j3 kindOf ((p,w)::P.zip vs) m x=_;unfold j3;exact RA (i:=i) (bM.mp nd).2 (by simpa using h1) (by simpa using h2) hk
theorem RD{kindOf:ah->Option cu}{x:ah}{v:aF}:∀{P:List ah}{vs:List aF}{i:Nat}{m:ah->Option aF},P.Nodup->P[i]?=aA x->vs[i]?=aA v->kindOf x≠aA .local->
  j4 kindOf (P.zip vs) m x=aA v
 | [],_,_,_,_,h,_,_=>by simp at h
 | _::_,[],_,_,_,_,h,_=>by simp at h
 | p::P,w::vs,0,m,nd,h1,h2,hk=>by simp at h1 h2;subst h1;subst h2;show j4 kindOf ((p,w)::P.zip vs) m p=_;unfold j4;rw[Rz λv a=>(bM.mp nd).1 (gs a).1,jv hk];simp
 | p::P,w::vs,i+1,m,nd,h1,h2,hk=>by show j4 kindOf ((p,w)::P.zip vs) m x=_;unfold j4;exact RD (i:=i) (bM.mp nd).2 (by simpa using h1) (by simpa using h2) hk
noncomputable def start(N:List ah)(vs:List V):St:=vs.map aA++aU (N.length-vs.length) none
noncomputable def TV(CX:Jo)(P:bH)(w:bu)(K:aD)(mg:ah->Option aF)(base:bP)(N:List ah)(qual:ah)(scope:cq)(f:aG)(cd:aF)(A:bc)(outer:List jG)(s:aL)(H:Hp)(E:XK):Cx where
 prog:=P
 w:=w
 K:=K
 mg:=mg
 base:=base
 A:=A.deeper (fB qual scope s.heap.objs.size f cd)
 N:=N
 s₀:=s
 H₀:=H
 env:=fB qual scope s.heap.objs.size f cd
 outer:=outer
 stack:=fB qual scope s.heap.objs.size f cd::outer
 ex:=[]
 calm:=aC
 fn:=λ_=>aC
 pn:=[]
 xe:=λe s'=>az (model P w) (A.deeper (fB qual scope s.heap.objs.size f cd)) (leaving (fB qual scope s.heap.objs.size f cd) e) (λ_ s''=>CX outer H s E e s'') (λe' s''=>CX outer H s E e' s'') s'
theorem Pf{a:cq}{n:Nat}{x:ah}(h:a.names.lookup x=aA .cell):∃c,(fT n a.names []).lookup x=aA c:=by have q:=gg a.names n [] (.inl h);exact bW.mp q
theorem Jr{a b c:ah}(h:a++c=b++c):a=b:=by
 obtain⟨a⟩:=a;obtain⟨b⟩:=b;have d:a++c.cps=b++c.cps:=congrArg ah.cps h;have f:a.toList++c.cps.toList=b.toList++c.cps.toList:=by rw[<-iP,<-iP,d]
 have e:=Array.toList_inj.mp (List.append_cancel_right f);rw[e]
theorem MD{M:Jo}{P:bH}{w:bu}{K:aD}{I:ah->Option aF}{base:bP}{N o:List ah}{g:ah}{d:cq}{f:aG}{D:aF}{A:bc}{j:List jG}{s s1:aL}{H:Hp}{E:XK}{L:List aF}{vs:List V}
  (J:cJ K D g=aC) (S:Zn N o d) (U:A.handled=none) (m:Jp P w K I base A j s H) (Z:vs.length=o.length) (r:Vals vs L)
  (x:InCallC s s.heap.objs.size (j3 (fB g d s.heap.objs.size f D).kindOf (o.zip L) λ_=>none) (fT (s.heap.objs.size+1) d.names []) (j4 (fB g d s.heap.objs.size f D).kindOf (o.zip L) λ_=>none) s1) :
  Inv (TV M P w K I base N g d f D A j s H E) [] (start N vs) H s1:=by
 have W:o.length<=N.length:=by have:=congrArg fE S.pre;rw[fC] at this;omega
 obtain⟨F,tk,rfl,Q⟩:=x.done;have t:∀b:aG,b∉(TV M P w K I base N g d f D A j s H E).ex:=λb z=>absurd (show b∈([]:List aG) from z) (by simp)
 refine⟨⟨m.mod,S.kind,rfl,rfl,aH _,λy z c F l=>?_,λy n=>?_,λy c _ h=>?_,λ_=>U,bc.frames_deeper m.frames,.inr ⟨rfl,rfl⟩,λb z=>absurd z (t b),m.bs,m.bsz,λb _ _=>t b,λb z=>absurd z (t b),m.funs,m.frf,m.tab,λq _ T _=>by rw[<-Jr T];exact J⟩,
  rfl,m.bare,Un.kept Q,⟨_,x.toInCall.ns,λi y v F l Y=>?_⟩,λy c h=>⟨_,x.cell y c h⟩,m.hok.fresh (aH _),λy c h=>?_,λp C=>absurd (show p∈([]:List (aG×c9)) from C) (by simp),m.hok.kept Q,?_⟩
 ·exact name_of_addr x.apart (cQ F) (cQ l)
 ·have n:=n;rcases n with n | n
  ·exact Pf n
  ·exact absurd rfl (S.nofree _ (cQ n))
 ·exact cV (x.above y c (cQ h))
 ·have G:i<vs.length:=by
   unfold start at l;by_cases G:i<vs.length
   ·exact G
   ·rw[bQ (by simpa using G)] at l;rw[bZ] at l;split at l<;>cases l
  have X:vs[i]?=aA v:=by
   unfold start at l;rw[ay (by simpa using G),aR] at l
   cases e:vs[i]? with
   | none=>rw[e] at l;cases l
   | some a=>rw[e] at l;cases l;rfl
  obtain⟨u,O,R⟩:=r.get X;have C:o[i]?=aA y:=by rw[<-S.pre,List.getElem?_take_of_lt (by omega)];exact F
  have B:o.Nodup:=by rw[<-S.pre];exact S.nd.sublist (List.take_sublist _ _)
  refine⟨u,R,?_⟩;rcases S.par y (dD C) with k | k
  ·exact .inl ⟨k,RA B C O k⟩
  ·obtain⟨c,e⟩:=Pf k;refine .inr ⟨.inl k,c,e,?_⟩;have q:=x.cell y c e;rw[RD B C O (by show d.names.lookup y≠_;rw[k];decide)] at q;exact q
 ·exact m.hok.fresh (cV (x.above y c (cQ h)))
 ·unfold start;show _=N.length;rw[bX,aS,cS];omega
theorem YU{R:Jo}{P:bH}{w:bu}{K:aD}{M:ah->Option aF}{base:bP}{k:Nat}{f:aG}{l d:ah}{h:Arguments}{i:List bb}{a:cq}{dV kV F Z g ct oc:aF}{an od:Option aG}
  {U:Array (Option aF)} {N O:List ah} {sp:Sp} (lk:K.lookup f=aA ⟨oc,od,.func (cN l d h i a dV kV F Z an g ct),U⟩) (D:cJ K g d=aC) (S:Zn N O a)
  (len:∀vs H Q E,sp vs H Q E->vs.length=O.length)
  (p:∀(A:bc)(c:List jG)(s:aL)(H:Hp)(vs:List V)(Q:VK)(E:XK),Room k (A.deeper (fB d a s.heap.objs.size f g))->sp vs H Q E->
   ∃t,PSs (TV R P w K M base N d a f g A c s H E) i t/\t { nx:=λ_ m=>Q .non m,rt:=Q } (start N vs) H) :
  Ta P w K M base R (k+1) f (cN l d h i a dV kV F Z an g ct) O sp:=by
 refine⟨len,λA c s H args us vs Q E X G hb r L=>?_⟩;have hl:=len _ _ _ _ L;have KX:=G.mod.kin.keeps λb o e=>(G.bs b o e).1;have Y:=G.mod.nolimit.keeps λb o e=>(G.bs b o e).1
 have z:∀y∈O.zip us,a.names.lookup y.1=aA .local\/(a.names.lookup y.1=aA .cell/\((fT (s.heap.objs.size+1) a.names []).lookup y.1).isSome=aC):=λ⟨n,v⟩ hy=>by
  rcases S.par n (gs hy).1 with q | q
  ·exact .inl q
  ·exact .inr ⟨q,gg _ _ _ (.inl q)⟩
 refine codeAny_call_function X.depth (KX _ _ lk) rfl S.co S.gen rfl (PySem.W.codeRec_of KX D) (hb _ _ _ _ ?_);refine wpAny_newFunctionEnv_cells S.kind z λenv he s1 x=>?_;subst he;refine⟨Y.keeps x.toInCall.keep,codeAny_func ?_⟩;obtain⟨t,ht,hq⟩:=p A c s H vs Q E (X.deeper _) L;have I:Inv (TV R P w K M base N d a f g A c s H E) [] (start N vs) H s1:=MD D S X.hd G hl r x;refine cK (ht [] s1 (start N vs) H _ I hq) (λfl T B=>?_) λe T B=>B
 have C:∀{j:St}{m:Hp}{v:V}{u:aF},Inv (TV R P w K M base N d a f g A c s H E) [] j m T->RelV v u->Q v m->CE c P w H s Q u T:=
  λ{j m v u} J W q=>⟨v,m,J.os,J.bare,J.base,J.hok,W,q⟩
 cases fl with
 | ret u=>
  obtain⟨v,j,m,J,W,q⟩:=B;exact C J W q
 | next=>
  obtain⟨j,m,J,q⟩:=B;exact C (v:=V.non) J rfl q
 | brk=>
  obtain⟨_,_,_,q⟩:=B;exact dQ q
 | cont=>
  obtain⟨_,_,_,q⟩:=B;exact dQ q
section
variable {X:Cx} {x:ah} {p pos:dk} {e:au} {es:List au} {t:TA} {id T:String} {r:List V->Hp->VK->Prop}
noncomputable def Er(r:List V->Hp->VK->Prop)(t:TA):TE:=λσ H Q=>t σ H λvs H1=>r vs H1 Q
theorem LC(n:YT X (.builtin id) r)(j:Gl X x)(l:X.mg x=none)(o:cU x=aA (.builtin id))(v:PA X (e::es) t)(q:x≠"__name__":=by decide)(a:(x==("__debug__" : ah))=aB:=by decide)
  (u:aT (e::es) X.env=(aB,eval e X.env)::aT es X.env:=by rfl) (b:(dh pos (aT es X.env)).any (·.1)=aB:=by rfl):PE X (.Call (.Name x p) (e::es) [] pos) (Er r t):=by
 intro c s d H Q I h;refine fX (Vi I j l o ?_ q a);exact PyProof.Rows.callWith_builtin1 (Ym (v pos c s d H _ I h) λk s1 ⟨vs,g,m,f,i⟩=>n c s1 d g vs k Q m f i) u b
theorem RE(n:YT X (.type T) r)(j:Gl X x)(l:X.mg x=none)(o:cU x=aA (.type T))(v:PA X (e::es) t)(q:x≠"__name__":=by decide)(a:(x==("__debug__" : ah))=aB:=by decide)
  (u:aT (e::es) X.env=(aB,eval e X.env)::aT es X.env:=by rfl) (b:(dh pos (aT es X.env)).any (·.1)=aB:=by rfl):PE X (.Call (.Name x p) (e::es) [] pos) (Er r t):=by
 intro c s d H Q I h;refine fX (Vi I j l o ?_ q a);exact cI (Ym (v pos c s d H _ I h) λk s1 ⟨vs,g,m,f,i⟩=>n c s1 d g vs k Q m f i) u b
end
end L2
namespace HT
open PySem PyProof.Rows
section
variable {prog:bH} {w:bu} {A:bc} {E:aF->aL->Prop} {s:aL}
noncomputable def sIx(n d:Nat):Option Int->Nat
 | none=>d
 | some v=>if v<0 then(v+(n:Int)).toNat else min v.toNat n
theorem sIx_none(n d:Nat):sIx n d none=d:=rfl
theorem sIx_nat(n d k:Nat):sIx n d (aA (k:Int))=min k n:=rfl
theorem NF(v:Int)(n d:Nat):(if v<0 then max (v+(n:Int)) 0 else min v (n:Int))=((sIx n d (aA v):Nat):Int):=by
 show(if v<0 then max (v+(n:Int)) 0 else min v (n:Int))=(((if v<0 then(v+(n:Int)).toNat else min v.toNat n):Nat):Int);by_cases a:v<0
 ·simp only[ju a];omega
 ·simp only[jv a];omega
theorem OG(lo a:Option Int)(n:Nat):gC lo a 1 (n:Int)=(((sIx n 0 lo:Nat):Int),((sIx n n a:Nat):Int)):=by
 refine Prod.ext ?_ ?_
 ·cases lo with
  | none=>rfl
  | some v=>exact NF v n 0
 ·cases a with
  | none=>rfl
  | some v=>exact NF v n n
theorem OH(i j:Nat):cy (i:Int) (j:Int) 1=j-i:=by
 unfold cy;split<;>omega
theorem TX{v:aF}{o:Option Int}{Q:Option Int->aL->Prop}(p:iX v o)(h:Q o s):az (model prog w) A (iO.Slice.slicePartIndex v) Q E s:=by
 cases p with
 | none=>exact slicePart_none h
 | int i t=>exact slicePart_int h
theorem Ul{f:aG}{e d:aF}{lo b:Option Int}{n:Nat}{Q:Int×Int×Nat->aL->Prop}(g:s.heap.IsSliceOf f e d .none)(i:iX e lo)(j:iX d b)
  (h:Q (((sIx n 0 lo:Nat):Int),1,sIx n n b-sIx n 0 lo) s):az (model prog w) A (iO.Slice.sliceApplied (.ref f) (pure (n:Int))) Q E s:=by
 obtain⟨os,c,k,a⟩:=id g;refine aI (aI (cA c a rfl (aI (cA c a rfl (aI (cA c a rfl (ag ?_)))))));refine aI (slicePart_none ?_);refine aI (TX i (aI (TX j (aI (ag ?_)))));show az _ _ (match gC lo b 1 (n:Int) with | (lo,b)=>pure (lo,(1:Int),cy lo b 1)) _ _ s;rw[OG lo b n];show az _ _ (pure (((sIx n 0 lo:Nat):Int),(1:Int),cy ((sIx n 0 lo:Nat):Int) ((sIx n n b:Nat):Int) 1)) _ _ s;rw[OH];exact ag h
theorem LD(a:Array aF)(i k:Nat):((aJ k).filterMap λ(m:Nat)=>a[((i:Int)+(m:Int)*1).toNat]?).toArray=((a.toList.drop i).take k).toArray:=by
 have e:(λ(m:Nat)=>a[((i:Int)+(m:Int)*1).toNat]?)=λm=>a[i+m]?:=by
  funext m;have:((i:Int)+(m:Int)*1).toNat=i+m:=by omega
  rw[this]
 rw[e];have:=pick_run a i k;rw[List.filterMap_map] at this;have b:((λx=>a[x]?) ∘ λx=>i+x)=λm=>a[i+m]?:=rfl;rw[b] at this;rw[this]
theorem getItem_tuple_cut{t f:aG}{a:Array aF}{l k:aF}{lo c:Option Int}{Q:aF->aL->Prop}(d:IsTup s.heap t a)(m:s.heap.IsSliceOf f l k .none)(p:iX l lo)(u:iX k c)
  (n:¬(sIx a.size 0 lo=0/\sIx a.size a.size c=a.size))
  (h:Q (.ref s.heap.objs.size) { s with heap:=s.heap.push { cls:=.type "tuple",data:=.seq ((a.toList.drop (sIx a.size 0 lo)).take (sIx a.size a.size c-sIx a.size 0 lo)).toArray } })
  (r:a.size<=sizeLine):az (model prog w) A (jX (.ref t) (.ref f)) Q E s:=by
 have b:sizeOk (.seq ((a.toList.drop (sIx a.size 0 lo)).take (sIx a.size a.size c-sIx a.size 0 lo)).toArray):=by show((a.toList.drop (sIx a.size 0 lo)).take (sIx a.size a.size c-sIx a.size 0 lo)).toArray.size<=sizeLine;rw[aO,fC,dq,dy];omega
 obtain⟨os,j,g,o⟩:=id m;have e:s.TypeIs (.ref f) "slice":=⟨os,j,g⟩;unfold jX
 try with_reducible refine gM ?_
 first | refine aI (ag ?_) | skip
 refine aI (wpAny_sequenceKey d.typeIs rfl ?_)
 refine aI (cX d.typeIs dI
  (dt dI d.typeIs entry_tuple_getitem ?_ (args_tuple_getitem _ _)))
 show az _ _ (iO.Tuple.tupleItemsOf (.ref t) >>= _) _ _ s;refine aI (tupleItemsOf_ d ?_);refine aI (wpAny_typeOf e ?_);refine aI (Ul m p u ?_);have i:¬((((sIx a.size 0 lo:Nat):Int)==0&&(1:Int)==1&&(sIx a.size a.size c-sIx a.size 0 lo)==a.size)=aC):=by intro q;rw[bU,bU] at q;have v:=eq_of_beq q.1.1;have x:=eq_of_beq q.2;exact n ⟨by omega,by omega⟩
 show az _ _ (if(((sIx a.size 0 lo:Nat):Int)==0&&(1:Int)==1&&(sIx a.size a.size c-sIx a.size 0 lo)==a.size)=aC then _ else _) _ _ s;rw[jv i,LD]
 first
  | exact aI (cY (ag ⟨_,rfl,ag h⟩) b)
  | exact aI (cY (aI (ag (ag ⟨_,rfl,ag h⟩))) b)
  | exact aI (aI (cY (ag (ag ⟨_,rfl,ag h⟩)) b))
  | exact aI (aI (cY (ag ⟨_,rfl,ag h⟩) b))
end
end HT
namespace L2
open PySem PySem.Spec PyProof.Rows
abbrev TO:=St->Hp->(Option Int->Hp->Prop)->Prop
noncomputable def PO(X:Cx)(e:Option au)(t:TO):Prop:=
 ∀(jn:List (aG×c9))(s:aL)(σ:St)(H:Hp)(Q:Option Int->Hp->Prop),Inv X jn σ H s->t σ H Q->
  az (model X.prog X.w) X.A (evalPart e X.env) (λu s'=>∃o H',Inv X jn σ H' s'/\iX u o/\Q o H') X.xe s
noncomputable def Js:TO:=λ_ H Q=>Q none H
noncomputable def FK(t:TE):TO:=λσ H Q=>t σ H λx H1=>∃i,x = .int i/\Q (aA i) H1
section
variable {X:Cx} {e:au} {te:TE} {lo hi:Option au} {tl th:TO} {pos p2:dk}
theorem Jt:PO X none Js:=by intro b s a H Q I h;exact ag ⟨none,H,I,.none,h⟩
theorem Ju(h:PE X e te):PO X (aA e) (FK te):=by intro g s f H Q I c;refine Ym (h g s f H _ I c) λu s1 ⟨x,j,b,d,a⟩=>?_;obtain⟨i,rfl,q⟩:=a;obtain⟨t,rfl⟩:=d;exact⟨aA i,j,b,.int i t,q⟩
noncomputable def EX(X:Cx)(r:V->Option Int->Option Int->Hp->VK->Prop):Prop:=
 ∀(jn:List (aG×c9))(s:aL)(σ:St)(H:Hp)(x:V)(v vl vu:aF)(lo hi:Option Int)(sl:aG)(Q:VK),Inv X jn σ H s->RelV x v->s.heap.IsSliceOf sl vl vu .none->iX vl lo->iX vu hi->r x lo hi H Q->
  ∃T id,typeLookup (.type T) "__getitem__" = pure (aA (.builtin id))/\s.TypeIs v T/\az (model X.prog X.w) X.A (jX v (.ref sl)) (EP X jn σ Q) X.xe s
noncomputable def DQ(r:V->Option Int->Option Int->Hp->VK->Prop)(te:TE)(tl th:TO):TE:=λσ H Q=>te σ H λx H1=>tl σ H1 λl H2=>th σ H2 λu H3=>r x l u H3 Q
theorem Pg{r:V->Option Int->Option Int->Hp->VK->Prop}(m:EX X r)(L:PE X e te)(w:PO X lo tl)(A:PO X hi th):PE X (.Subscript e (.Slice lo hi none p2) pos) (DQ r te tl th):=by intro a s c H Q I h;refine Subscript_ (Ym (L a s c H _ I h) λv s1 ⟨x,k,B,j,n⟩=>?_);refine wpAny_Slice (Ym (w a s1 c k _ B n) λg s2 ⟨l,J,C,D,o⟩=>Ym (A a s2 c J _ C o) λf d ⟨u,i,y,E,p⟩=>?_);refine ag ?_;have z:Inv X a c i { d with heap:=d.heap.push { cls:=.type "slice",data:=.fields #[g,f,.none] } }:=y.kept λb M q=>aE _ q;obtain⟨T,id,G,t,F⟩:=m a { d with heap:=d.heap.push { cls:=.type "slice",data:=.fields #[g,f,.none] } } c i x v g f l u d.heap.objs.size Q z j (bP.IsSliceOf.new ..) D E p;exact tail_any t G F rfl
noncomputable def ME(xs:List V)(lo hi:Option Int):List V:=(xs.drop (HT.sIx xs.length 0 lo)).take (HT.sIx xs.length xs.length hi-HT.sIx xs.length 0 lo)
theorem U3(a:List V)(lo b:Option Int):(ME a lo b).length<=a.length:=by unfold ME;rw[fC,dq];omega
noncomputable def EY(K:aD):V->Option Int->Option Int->Hp->VK->Prop:=λx lo hi H Q=>∃a xs,x = .ref a/\SqT K H a xs/\
 ¬(HT.sIx xs.length 0 lo=0/\HT.sIx xs.length xs.length hi=xs.length)/\∀p,H p=none->Q (.ref p) (upd H p (.tup (ME xs lo hi)))
theorem Ga:EX X (EY X.K):=by
 intro u s B H x v A y lo i w Q I k n p t h;obtain⟨a,d,rfl,m,j,q⟩:=h;cases k;obtain⟨l,r,f,g⟩:=I.tuple m;have c:l.toArray.size=d.length:=by rw[aO];exact r.length.symm
 refine⟨"tuple",_,dI.lookup,f.typeIs,?_⟩;refine HT.getItem_tuple_cut f n p t (by rw[c];exact j) ?_ (by rw[c];exact g);rw[c];refine⟨.ref s.heap.objs.size,_,I.laid (λb z q=>aE _ q) (aH _) ?_,rfl,q _ (I.hok.fresh (aH _))⟩;exact⟨⟨aQ (U3 d lo i) g,λo e=>Qc e⟩,_,(r.drop (HT.sIx d.length 0 lo)).take (HT.sIx d.length d.length i-HT.sIx d.length 0 lo),je _ _⟩
theorem Vals.nil_iff{b:List V}{a:List aF}(r:Vals b a):a=[]↔b=[]:=by
 cases r with
 | nil=>simp
 | cons _ _=>simp
end
noncomputable def Oy(n:Nat)(i:Int):Option Nat:=if 0<=i then(if i<n then aA i.toNat else none) else if -(n:Int)<=i then aA (i+n).toNat else none
noncomputable def Um{α:Type}(xs:List α)(i:Int):Option α:=(Oy xs.length i).bind λj=>xs[j]?
theorem NG{n:Nat}{i:Int}{j:Nat}(h:Oy n i=aA j):seqIndex? i n=aA j/\j<n/\-(n:Int)<=i/\i<n:=by
 unfold Oy at h;by_cases b:0<=i
 ·rw[ju b] at h;by_cases a:i<n
  ·rw[ju a] at h;have e:=aq h;exact⟨by rw[jO b a,e],by omega,by omega,a⟩
  ·rw[jv a] at h;cases h
 ·rw[jv b] at h;by_cases a : -(n:Int)<=i
  ·rw[ju a] at h;have e:=aq h;exact⟨by rw[iz (by omega) a,e],by omega,a,by omega⟩
  ·rw[jv a] at h;cases h
theorem Qh{b:Type}{a:List b}{i:Int}{v:b}(h:Um a i=aA v):∃j,seqIndex? i a.length=aA j/\a[j]?=aA v/\j<a.length/\-(a.length:Int)<=i/\i<a.length:=by
 unfold Um at h
 cases e:Oy a.length i with
 | none=>rw[e] at h;cases h
 | some j=>
  rw[e] at h;obtain⟨f,d,g,c⟩:=NG e;exact⟨j,f,h,d,g,c⟩
theorem WT{b:Type}{a:List b}{j:Nat}{v:b}(h:a[j]?=aA v):Um a (j:Int)=aA v:=by
 have c:=(aW.mp h).1;have e:Oy a.length (j:Int)=aA j:=by unfold Oy;rw[ju (by omega),ju (by omega)];simp
 unfold Um;rw[e];exact h
noncomputable def Qi(b:au):Prop:=∀o i,subscripted b aB o i=operate [o,i] (jX o i)
noncomputable def IxR(X:Cx)(r:R2):Prop:=
 ∀(value slice:au)(jn:List (aG×c9))(s:aL)(σ:St)(H:Hp)(x y:V)(v u:aF)(Q:VK),Inv X jn σ H s->RelV x v->RelV y u->r x y H Q->
  subscripted slice aB v u=operate [v,u] (jX v u)->az (model X.prog X.w) X.A (subscriptTail value slice v u) (EP X jn σ Q) X.xe s
noncomputable def DR(X:Cx)(id:String)(r:V->List V->Hp->VK->Prop):Prop:=
 ∀(jn:List (aG×c9))(s:aL)(σ:St)(H:Hp)(x:V)(xs:List V)(v:aF)(us:List aF)(Q:VK),Inv X jn σ H s->RelV x v->Vals xs us->r x xs H Q->
  az (model X.prog X.w) X.A (call (.builtin id) (v::us)) (EP X jn σ Q) X.xe s
section
variable {X:Cx} {a b:au} {ta tb:TE} {pos:dk}
theorem IxR.or{r g:R2}(h:IxR X r)(j:IxR X g):IxR X (λx y H Q=>r x y H Q\/g x y H Q):=by
 intro a b d s f H x y v u Q I e c q i;rcases q with q | q
 ·exact h a b d s f H x y v u Q I e c q i
 ·exact j a b d s f H x y v u Q I e c q i
theorem LF{r:R2}(g:IxR X r)(m:PE X a ta)(d:PE X b tb)(j:Qi b):PE X (.Subscript a b pos) (Fg r ta tb):=by intro e s i H Q I h;exact Subscript_ (HM m d I h λv u s2 x y l k f c q=>g a b e s2 i l x y v u Q k f c q (j _ _))
noncomputable def Gb(K:aD):R2:=λx y H Q=>∃p xs i v,x = .ref p/\y = .int i/\SqL K H p xs/\Um xs i=aA v/\Q v H
noncomputable def FL(K:aD):R2:=λx y H Q=>∃p xs i v,x = .ref p/\y = .int i/\SqT K H p xs/\Um xs i=aA v/\Q v H
noncomputable def FN:R2:=λx y H Q=>∃z i c,x = .str z/\y = .int i/\z.length<=sizeLine/\Um z.cps.toList i=aA c/\Q (.str ⟨#[c]⟩) H
theorem ix_list:IxR X (Gb X.K):=by
 intro c e n s E H x y v u Q I o m h l;obtain⟨p,O,i,z,rfl,rfl,A,J,q⟩:=h;cases o;obtain⟨t,rfl⟩:=m;obtain⟨B,r,f,N⟩:=I.list A;obtain⟨j,b,G,M,C,F⟩:=Qh J;obtain⟨w,g,ZM⟩:=r.get G;have D:=r.length;have L:=Qg;have a:EP X n E Q w s:=⟨z,H,I,ZM,q⟩;by_cases k:0<=i
 ·have d:i.toNat=j:=by rw[jO k F] at b;exact aq b
  exact item_listR f.isList k (by omega) (by rw[d];simpa using g) a l
 ·have d:(i+(B.toArray.size:Int)).toNat=j:=by rw[iz (by omega) C] at b;rw[aO,<-D];exact aq b
  exact gh f.isList.typeIs slot_list_getitem.lookup
   (wpAny_getItem_list_neg f.isList (by omega) (by rw[aO]<;>omega) (by omega) (by rw[d];simpa using g) ⟨rfl,a⟩) l
theorem ix_tup:IxR X (FL X.K):=by
 intro b c f s o H x y v u Q I g e h A;obtain⟨p,M,i,z,rfl,rfl,k,C,q⟩:=h;cases g;obtain⟨t,rfl⟩:=e;obtain⟨D,r,d,J⟩:=I.tuple k;obtain⟨j,l,B,G,E,L⟩:=Qh C;obtain⟨w,m,ZM⟩:=r.get B;have n:=r.length;have F:=Qg;have a:EP X f o Q w s:=⟨z,H,I,ZM,q⟩
 exact gh d.typeIs slot_tuple_getitem.lookup
  (getItem_tuple d (by omega) (by omega) (by rw[aO,<-n];exact l) (by simpa using m) ⟨rfl,a⟩) A
theorem Gd:IxR X FN:=by
 intro a b w s C H x y v u Q I f e h o;obtain⟨z,i,c,rfl,rfl,B,r,q⟩:=h;obtain⟨t,rfl⟩:=f;obtain⟨t',rfl⟩:=e;obtain⟨j,d,p,A,g,m⟩:=Qh r;have l:z.cps.toList.length=z.length:=by simp[ah.length]
 rw[l] at d g m;have D:=Qg
 exact tail_any (typeIs_str s z t) slot_str_getitem.lookup (getItem_str (by
  have k:decide (i < -(2^63:Int))=aB:=decide_eq_false (by omega);have n:decide (i ≥ 2^63)=aB:=decide_eq_false (by omega);rw[k,n,Bool.or_false]) (by rw[d];simpa using p) ⟨.str ⟨#[c]⟩,H,I.tok _,⟨_,rfl⟩,q⟩) o
noncomputable def DB(K:aD):R2:=λx y H Q=>Gb K x y H Q\/FL K x y H Q\/FN x y H Q
theorem Ge:IxR X (DB X.K):=ix_list.or (ix_tup.or Gd)
theorem OI(a:List aF)(n j:Nat)(u:aF):iY (·.setIfInBounds j u) { cls:=.type "list",data:=.seq a.toArray n }={ cls:=.type "list",data:=.seq (a.set j u).toArray n }:=by simp[iY]
theorem Inv.lst{c:List (aG×c9)}{d:St}{H:Hp}{s:aL}{p:aG}{b:List V}(I:Inv X c d H s)(h:H p=aA (.lst b)) :
  ∃(a:List aF) (n:Nat),Vals b a/\s.heap.get? p=aA { cls:=.type "list",data:=.seq a.toArray n }/\b.length<=sizeLine:=by
 obtain⟨z,a,n,r,e⟩:=I.hok p _ h;exact⟨a,n,r,e,z⟩
theorem Inv.lstUpd{g:List (aG×c9)}{k:St}{H:Hp}{s:aL}{p:aG}{v d:List V}{i a:List aF}{n c:Nat}{f:c9->c9}(I:Inv X g k H s)(h:H p=aA (.lst v))
  (o:s.heap.get? p=aA { cls:=.type "list",data:=.seq i.toArray n }) (j:f { cls:=.type "list",data:=.seq i.toArray n }={ cls:=.type "list",data:=.seq a.toArray c }) (r:Vals d a) (m:d.length<=sizeLine) (t:Nat) :
  Inv X g k (upd H p (.lst d)) { s with heap:=s.heap.update p f,toks:=t }:=by
 have e:(s.heap.update p f).get? p=aA { cls:=.type "list",data:=.seq a.toArray c }:=by rw[gz f o (by rw[j]<;>rfl),j]
 refine I.write (by rw[h];trivial) (.inl rfl) (λb u l q=>(gi _ _ (ao l)).trans q) ⟨_,e⟩ ?_;exact⟨m,a,c,r,e⟩
noncomputable def LG:V->V->V->Hp->(Hp->Prop)->Prop:=λo i v H Q=>∃p xs k j,o = .ref p/\i = .int k/\H p=aA (.lst xs)/\Oy xs.length k=aA j/\Q (upd H p (.lst (xs.set j v)))
theorem YV:Fw X LG:=by
 intro C s E H o i v G F u Q I B y x h;obtain⟨p,L,k,j,rfl,rfl,m,z,q⟩:=h;cases B;obtain⟨t,rfl⟩:=y;obtain⟨e,n,r,c,A⟩:=I.lst m;obtain⟨a,J,l,f⟩:=NG z;have b:=r.length;have D:=Qg
 have g:=
  I.lstUpd m c (OI e n j u) (r.set x j) (by rw[bq];exact A) s.toks
 by_cases w:0<=k
 ·have d:k.toNat=j:=by rw[jO w f] at a;exact aq a
  exact PySem.W.ki_setAt c w (by omega) (by rw[aO,<-b];exact f) (by rw[d];exact⟨_,g,q⟩)
 ·have d:(k+(e.toArray.size:Int)).toNat=j:=by rw[iz (by omega) l] at a;rw[aO,<-b];exact aq a
  exact PySem.W.ki_setBack c (by omega) (by rw[aO,<-b];exact l) (by omega) (by rw[d];exact⟨_,g,q⟩)
theorem Qj(lo a:Option Int)(n:Nat):(eQ lo a none n).1=((HT.sIx n 0 lo:Nat):Int)/\(eQ lo a none n).2.1=((HT.sIx n n a:Nat):Int)/\(eQ lo a none n).2.2=1:=by
 refine⟨?_,?_,rfl⟩
 ·cases lo with
  | none=>simp[eQ,HT.sIx]
  | some i=>
   simp only[eQ,HT.sIx,jJ];by_cases h:i<0
   ·simp only[h,if_true]<;>omega
   ·simp only[h,if_false]<;>omega
 ·cases a with
  | none=>simp[eQ,HT.sIx]
  | some i=>
   simp only[eQ,HT.sIx,jJ];by_cases h:i<0
   ·simp only[h,if_true]<;>omega
   ·simp only[h,if_false]<;>omega
theorem S8(a:List aF)(lo b:Option Int):slicePick a.toArray lo b none=((a.drop (HT.sIx a.length 0 lo)).take (HT.sIx a.length a.length b-HT.sIx a.length 0 lo)).toArray:=by
 obtain⟨d,c,e⟩:=Qj lo b a.toArray.size;unfold slicePick;rw[d,c,e];simp only[sliceRange_one,pick_run]<;>rfl
noncomputable def EZ(K:aD):V->Option Int->Option Int->Hp->VK->Prop:=λx lo hi H Q=>∃a xs,x = .ref a/\SqL K H a xs/\∀p,H p=none->Q (.ref p) (upd H p (.lst (ME xs lo hi)))
theorem Jw:EX X (EZ X.K):=by intro n s y H x v w p lo f o Q I g k l m h;obtain⟨a,d,rfl,i,q⟩:=h;cases g;obtain⟨t,r,e,j⟩:=I.list i;have c:=r.length;refine⟨"list",_,slot_list_getitem.lookup,e.isList.typeIs,?_⟩;refine wpAny_getItem_list_slice e.isList k l m .none (by simp) ?_ (by rw[aO]<;>omega);rw[S8,<-c];refine⟨.ref s.heap.objs.size,_,I.laid (λb u q=>aE _ q) (aH _) ?_,rfl,q _ (I.hok.fresh (aH _))⟩;exact⟨aQ (U3 d lo f) j,_,0,(r.drop (HT.sIx d.length 0 lo)).take (HT.sIx d.length d.length f-HT.sIx d.length 0 lo),aY _ rfl⟩
theorem VC:YT X (.type "list") (λz H Q=>∃p g,z=[.ref p]/\(SqL X.K H p g\/SqT X.K H p g)/\∀l,H l=none->Q (.ref l) (upd H l (.lst g))):=by
 intro A s C H z D Q I r h;obtain⟨p,g,rfl,j,q⟩:=h;obtain⟨u,rfl,B⟩:=Vc r;cases B
 have i:∀(c:List aF),Vals g c->g.length<=sizeLine->∀(a:bP)(d:Nat),(∀b o',s.heap.get? b=aA o'->a.get? b=aA o')->
   a.get? s.heap.objs.size=aA { cls:=.type "list",dict:=none,data:=.seq c.toArray d,slots:=#[] }->EP X A C Q (.ref s.heap.objs.size) { s with heap:=a }:=λc f t a d k e=>
  ⟨.ref s.heap.objs.size,_,I.laid k (aH _) (show ObjOk X.prog X.w _ a _ (.lst g) from⟨t,c,d,f,e⟩),rfl,q _ (I.hok.fresh (aH _))⟩
 rcases j with j | j
 ·obtain⟨c,f,y,t⟩:=I.list j;have m:=f.length;obtain⟨o,w,x,n,v⟩:=y.isList;exact call_list_seq p (.inl rfl) w x v (λa d k e=>i c f t a d k e) (by simp only[aO]<;>omega)
 ·obtain⟨c,f,y,t⟩:=I.tuple j;have m:=f.length;obtain⟨o,w,x,n,v⟩:=y;exact call_list_seq p (.inr rfl) w x v (λa d k e=>i c f t a d k e) (by simp only[aO]<;>omega)
theorem Zl:YT X (.type "tuple") (λm H Q=>∃p a,m=[.ref p]/\((SqL X.K H p a/\∀l,H l=none->Q (.ref l) (upd H l (.tup a)))\/(SqT X.K H p a/\Q (.ref p) H))):=by
 intro x s z H m y Q I r h;obtain⟨p,a,rfl,h⟩:=h;obtain⟨u,rfl,n⟩:=Vc r;cases n;rcases h with⟨c,q⟩ | ⟨c,q⟩
 ·obtain⟨g,d,f,j⟩:=I.list c;have i:=d.length;refine call_tuple_list f.isList (λt v=>?_) (by simp only[aO]<;>omega);have k:=I.kept (t':=s.toks) v
  have w:=
   k.laid (t':=s.toks) (λb o e=>aE _ e) (aH _) (show ObjOk X.prog X.w _ _ _ (.tup a) from⟨⟨j,λo e=>Qc e⟩,g,d,je _ _⟩)
  exact⟨.ref t.objs.size,_,w,rfl,q _ (k.hok.fresh (aH _))⟩
 ·obtain⟨g,d,f,j⟩:=I.tuple c;exact call_tuple_same f ⟨.ref p,H,I,rfl,q⟩
noncomputable def E4(K:aD)(T:String)(x:V)(H:Hp):Prop:=match x with
 | .str _=>T = "str"
 | .int _=>T = "int"
 | .ref p=>(T = "list"/\∃xs,SqL K H p xs)\/(T = "tuple"/\∃o,K.lookup p=aA o/\o.cls = .type "tuple"/\o.dict=none)\/
   (T = "dict"/\((∃jo,H p=aA (.dK jo))\/∃jo,H p=aA (.dT jo)))\/(T = "set"/\∃S n,H p=aA (.set S n))\/(T = "tuple"/\∃xs,H p=aA (.tup xs))
 | _=>False
theorem Gg{l:List (aG×c9)}{u:St}{H:Hp}{s:aL}{T:String}{x:V}{v:aF}(I:Inv X l u H s)(r:RelV x v)(ty:E4 X.K T x H) :
  s.TypeIs v T/\∀a,v = .ref a->∃ob,s.heap.get? a=aA ob/\ob.dict=none:=by
 cases x with
 | str z=>
  obtain⟨t,rfl⟩:=r;cases (ty);exact⟨typeIs_str s z t,λ_ e=>nomatch e⟩
 | int i=>
  obtain⟨t,rfl⟩:=r;cases (ty);exact⟨gj s i t,λ_ e=>nomatch e⟩
 | ref p=>
  cases r;rcases ty with⟨rfl,y,m⟩ | ⟨rfl,o,b,w,h⟩ | ⟨rfl,b⟩ | ⟨rfl,S,n,b⟩ | ⟨rfl,y,b⟩;rotate_left 4
  ·obtain⟨z,q,_,o,g,f,_⟩:=(I.hok p _ b);refine⟨⟨o,g,f⟩,λa e=>?_⟩;cases e;exact⟨o,g,z.2 o g⟩
  ·obtain⟨q,_,j,_⟩:=I.list m;refine⟨j.isList.typeIs,λa e=>?_⟩;cases e;obtain⟨o,n,e,c,h,_⟩:=j;exact⟨o,e,h⟩
  ·refine⟨⟨o,I.kIn p o b,w⟩,λa e=>?_⟩;cases e;exact⟨o,I.kIn _ o b,h⟩
  ·have z:∃o,s.heap.get? p=aA o/\o.ExactDict:=by
    rcases b with⟨k,b⟩ | ⟨k,b⟩
    ·obtain⟨_,_,_,_,o,_,_,e,d,_⟩:=I.hok p _ b;exact⟨o,e,d⟩
    ·obtain⟨_,_,_,_,o,_,_,e,d,_⟩:=I.hok p _ b;exact⟨o,e,d⟩
   obtain⟨o,e,d⟩:=z;refine⟨⟨o,e,d.1⟩,λa f=>?_⟩;cases f;exact⟨o,e,d.2.1⟩
  ·obtain⟨o,_,_,_,e,d,_⟩:=I.hok p _ b;refine⟨⟨o,e,d.1⟩,λa f=>?_⟩;cases f;exact⟨o,e,d.2.1⟩
 | _=>exact dQ ty
noncomputable def E5(K:aD)(T:String)(r:V->List V->Hp->VK->Prop)(to:TE)(t:TA):TE:=λσ H Q=>to σ H λx H1=>E4 K T x H1/\t σ H1 λxs H2=>r x xs H2 Q
variable {o e:au} {es:List au} {to:TE} {t:TA} {name:ah} {apos cpos:dk} {T id:String} {r:V->List V->Hp->VK->Prop}
theorem NH(F:PlainAttrs T)(d:Slot T name id)(g:typeOf (.builtin id)=pure (.type "method_descriptor"))(y:DR X id r)(z:PE X o to)(G:PA X (e::es) t)
  (c:attributeBase o name X.env (eval o X.env)=eval o X.env:=by rfl)
  (f:((dh cpos (aT (e::es) X.env)).all (λx=>!x.1)&&(backToKw cpos (keywordEach [] X.env)).all (λx=>x.1.isSome)
   &&decide ((e::es).length+([]:List Keyword).length+(if([]:List Keyword).isEmpty then 0 else 1)<30))=aC:=by rfl)
  (b:(apos.endLine==cpos.line)=aC:=by rfl) (A:aT (e::es) X.env=(aB,eval e X.env)::aT es X.env:=by rfl) (a:(dh cpos (aT es X.env)).any (·.1)=aB:=by rfl) :
  PE X (.Call (.Attribute o name apos) (e::es) [] cpos) (E5 X.K T r to t):=by
 intro i s j H Q I h;refine wpAny_Call_method_late c f b rfl (Ym (z i s j H _ I h) λv s1 ⟨x,n,l,k,ty,p⟩=>?_);obtain⟨q,C⟩:=Gg l k ty;refine⟨T,id,F,d,g,q,C,?_⟩;have m:=G cpos i s1 j n _ l p;rw[A] at m ⊢;refine Calls.callWith_builtin (by show(aB || (dh cpos (aT es X.env)).any (·.1))=aB;rw[a]<;>rfl) (Calls.evalArgs_plain ?_);exact Ym m λw s2 ⟨vs,E,B,D,u⟩=>y i s2 j E x vs v w Q B k D u
end
noncomputable def E6(X:Cx)(id:String)(r:V->List V->Hp->VK->Prop):Prop:=
 ∀(jn:List (aG×c9))(s:aL)(σ:St)(H:Hp)(x:V)(xs:List V)(v:aF)(us:List aF)(Q:VK),Inv X jn σ H s->RelV x v->Vals xs us->r x xs H Q->
  az (model X.prog X.w) X.A (call (.builtin id) (v::us)) (EP X jn σ Q) X.xe s
theorem Vals.one:∀{x:V}{us:List aF},Vals [x] us->∃u,us=[u]/\RelV x u
 | _,_,.cons r .nil=>⟨_,rfl,r⟩
theorem Vals.two:∀{x y:V}{us:List aF},Vals [x,y] us->∃u v,us=[u,v]/\RelV x u/\RelV y v
 | _,_,_,.cons r (.cons q .nil)=>⟨_,_,rfl,r,q⟩
theorem Vals.dropLast{b:List V}{a:List aF}(h:Vals b a):Vals b.dropLast a.dropLast:=by
 induction h with
 | nil=>exact .nil
 | cons r t ih=>
  cases t with
  | nil=>exact .nil
  | cons q t'=>exact .cons r ih
theorem Vals.rep{b:List V}{a:List aF}(h:Vals b a):∀k:Nat,Vals (aU k b).flatten (aU k a).flatten
 | 0=>.nil
 | k+1=>by rw[cb,cb,dc,dc];exact Vals.append h (Vals.rep h k)
theorem Uo(a:List aF):∀(k:Nat)(acc:List aF),
  iZ (λc d=>c++d) acc.toArray (aU k a.toArray)=(acc++(aU k a).flatten).toArray
 | 0,acc=>by simp
 | k+1,acc=>by
  have e:acc.toArray++a.toArray=(acc++a).toArray:=by simp
  have b:(acc++a)++(aU k a).flatten=acc++(aU (k+1) a).flatten:=by rw[cb,dc,eY]
  rw[<-b,<-Uo a k (acc++a),<-e,cb,List.foldl_cons]
section
variable {X:Cx} {jn:List (aG×c9)} {σ:St} {H:Hp} {s:aL} {l b:aG} {xs ys zs:List V}
theorem Inv.lset{b a:List aF}{n:Nat}{f:Array aF->Array aF}{t':Nat}(I:Inv X jn σ H s)(d:H l=aA (.lst xs))
  (e:s.heap.get? l=aA { cls:=.type "list",data:=.seq b.toArray n }) (j:f b.toArray=a.toArray) (i:Vals ys a) (h:ys.length<=sizeLine) :
  Inv X jn σ (upd H l (.lst ys)) { s with heap:=s.heap.update l (iY f),toks:=t' }:=by
 have q:=PySem.IsL.update e f;rw[j] at q;refine I.write (by rw[d];exact trivial) (.inl rfl) (λk u g c=>(gi s.heap (iY f) (ao g)).trans c) ⟨_,q⟩ ?_;exact⟨h,a,_,i,q⟩
theorem Inv.lnew{a:List aF}{t':Nat}(I:Inv X jn σ H s)(c:Vals ys a)(b:ys.length<=sizeLine) :
  Inv X jn σ (upd H s.heap.objs.size (.lst ys)) { s with heap:=s.heap.push { cls:=.type "list",data:=.seq a.toArray },toks:=t' }:=
 I.laid (λ_ _ q=>aE _ q) (aH _) ⟨b,a,0,c,aY _ rfl⟩
theorem Inv.fresh(I:Inv X jn σ H s):H s.heap.objs.size=none:=I.hok.fresh (aH _)
theorem Inv.lstM(I:Inv X jn σ H s)(b:H l=aA (.lst xs)):xs.length<=sizeLine/\∃(a:List aF) (n:Nat),Vals xs a/\xs.length=a.length/\s.heap.get? l=aA { cls:=.type "list",data:=.seq a.toArray n }:=by obtain⟨z,a,n,r,e⟩:=I.hok l _ b;exact⟨z,a,n,r,r.length,e⟩
theorem Ph{n:Nat}(h:n<=sizeLine):eA n=aB:=by exact decide_eq_false (by omega)
end
section
variable {X:Cx}
noncomputable def NI:V->List V->Hp->VK->Prop:=λx vs H Q=>∃l xs y,x = .ref l/\vs=[y]/\H l=aA (.lst xs)/\xs.length<sizeLine/\Q .non (upd H l (.lst (xs++[y])))
theorem Up:E6 X "list.append" NI:=by intro g s m H x vs v i Q I c b h;obtain⟨l,o,y,rfl,rfl,a,k,q⟩:=h;cases c;obtain⟨u,rfl,f⟩:=b.one;obtain⟨z,d,n,r,j,e⟩:=I.lstM a;refine eK F.slot_list_append ⟨_,e,rfl⟩ F.entry_list_append (F.args_list_append_2 _ _) (PySem.list_append l d.toArray n u (by rw[aO];omega)) ⟨e,?_⟩;refine⟨.non,_,I.lset a e (by simp) (r.append (.cons f .nil)) ?_,rfl,q⟩;rw[bX,List.length_singleton];omega
noncomputable def Jx:V->List V->Hp->VK->Prop:=λx vs H Q=>∃l b xs zs,x = .ref l/\vs=[.ref b]/\H l=aA (.lst xs)/\H b=aA (.lst zs)/\xs.length+zs.length<=sizeLine/\Q .non (upd H l (.lst (xs++zs)))
theorem mt_extend:E6 X "list.extend" Jx:=by
 intro y s D H x vs v A Q I k i h;obtain⟨l,b,J,G,rfl,rfl,g,j,C,q⟩:=h;cases k;obtain⟨u,rfl,o⟩:=i.one;cases o;obtain⟨z,d,n,r,B,e⟩:=I.lstM g;obtain⟨E,a,p,w,m,t⟩:=I.lstM j;have f:d.toArray.size+a.toArray.size<=sizeLine:=by rw[aO,aO];omega
 have c:¬(!d.toArray.isEmpty&&eA (d.toArray.size+a.toArray.size))=aC:=by rw[Ph f,Bool.and_false];exact bK
 refine eK F.slot_list_extend ⟨_,e,rfl⟩ F.entry_list_extend (F.args_list_extend_2 _ _)
  (AutoSeq1.list_extend_list_list_0 l d.toArray n b a.toArray p c (by omega) (by omega)) ⟨e,t,?_⟩
 refine⟨.non,_,I.lset g e (by simp) (r.append w) ?_,rfl,q⟩;rw[bX];omega
noncomputable def E7:R2:=λx y H Q=>∃l b xs zs,x = .ref l/\y = .ref b/\H l=aA (.lst xs)/\H b=aA (.lst zs)/\xs.length+zs.length<=sizeLine/\∀p,H p=none->Q (.ref p) (upd H p (.lst (xs++zs)))
theorem Gh:U2 X (dC .Add) E7:=by
 intro o s A H x y v u Q I g d h;obtain⟨l,b,D,C,rfl,rfl,m,f,w,q⟩:=h;cases g;cases d;obtain⟨z,c,n,r,p,e⟩:=I.lstM m;obtain⟨B,a,t,k,i,j⟩:=I.lstM f;refine PySem.P.add_list e j ?_ (by rw[aO,aO];omega);have ea:c.toArray++a.toArray=(c++a).toArray:=by simp
 rw[ea];exact⟨.ref _,_,I.lnew (r.append k) (by rw[bX];omega),rfl,q _ I.fresh⟩
noncomputable def E8:R2:=λx y H Q=>∃l k xs,x = .ref l/\y = .int k/\H l=aA (.lst xs)/\-(2^63)<=k/\k<2^63/\xs.length*k.toNat<=sizeLine/\
 ∀p,H p=none->Q (.ref p) (upd H p (.lst (aU k.toNat xs).flatten))
theorem Qk{b:Type}(a:List b)(k:Nat):(aU k a).flatten.length=k*a.length:=by simp
theorem Gi:U2 X (dC .Mult) E8:=by
 intro L s M H x y v u Q I A p h;obtain⟨l,k,N,rfl,rfl,J,B,E,j,q⟩:=h;cases A;obtain⟨t,rfl⟩:=p;obtain⟨z,b,n,r,D,e⟩:=I.lstM J;have g:b.toArray.size*k.toNat<=sizeLine:=by rw[aO,<-D];exact j
 have i:¬b.toArray.size*k.toNat>(2^63-1)/8:=by
  have:(sizeLine:Nat)<=(2^63-1)/8:=by decide
  omega
 have f:¬(!Builtin.List.listFitsIndex k)=aC:=by rw[fitsIndex_both B E];exact bK
 have c:¬eA (b.toArray.size*k.toNat)=aC:=by rw[Ph g];exact bK
 have d:iZ (λw G=>w++G) #[] (aU (if b.toArray.isEmpty=aC then 0 else k.toNat) b.toArray)=(aU k.toNat b).flatten.toArray:=by
  have C:=λm=>by have:=Uo b m [];rw[List.nil_append] at this;exact this
  rw[C]
  cases b with
  | nil=>simp
  | cons a r'=>rw[jv (by simp)]
 refine gD rfl ⟨_,e,rfl⟩ (λo=>gj o k t) noFill_list_mul F.fills_int_mul F.slot_int_rmul repeat_list F.slot_int_index.lookup
  (eK F.slot_int_rmul (gj s k t) F.entry_int_rmul (F.args_int_rmul_2 _ _) (int___rmul___int_list k t l b.toArray n)
   ⟨e,rfl,⟨_,e,rfl⟩,eK F.slot_list_mul ⟨_,e,rfl⟩ F.entry_list_mul (F.args_list_mul_2 _ _) (AutoListH.list___mul___list_int_3 l b.toArray n k t f i c) ⟨e,?_⟩⟩)
 rw[d];exact⟨.ref _,_,I.lnew (r.rep k.toNat) (by rw[Qk,br];exact j),rfl,q _ I.fresh⟩
end
end L2
namespace Att
open PySem PySem.W PySem.Calls PyProof.Rows
theorem Tb{P:Params}{h:bP}:∀(c:List Int)(vs:List aF),WellAll P h vs (c.map jK)->IntsAre vs c:=by
 intro c
 induction c with
 | nil=>
  intro vs w;cases w;exact .nil
 | cons n c ih=>
  intro vs w
  cases w with
  | cons a b=>
   cases a;exact .cons _ _ (ih _ b)
theorem script_of{l:OpenLaw}{n:Nat}(t:l.most=aA n){P:Params}{h:bP}{b:List WData}{f:List aF}
  (c:l.row.toRowW.claim.pre b=aC) (j:WellAll P h f b) :
  ∃a vs e,f=[jF a]/\b=[WData.list (e.map jK)]/\h.get? a=aA { cls:=.type "list",data:=.seq vs.toArray }/\IntsAre vs e/\e.length<=n:=by
 have k:=(pre_splitW c).1;have q:=(pre_splitW c).2;obtain⟨d,r,rfl,o,s⟩:=hasAllW_cons k;obtain rfl:=hasAllW_nil s;obtain⟨u,rfl,p⟩:=hasW_list o;obtain⟨e,rfl⟩:=items_int p
 have g:e.length<=n:=by
  have i:(WTm.not (.lt (.lit (.int (n:Int))) (.len (.arg 0)))).holds [] { args:=[.list (e.map .int)] }=aC:=by have i:=(holds_andW q).1;rw[t] at i;exact i
  have m:=condW_of i (w_not (w_lt w_lit (w_len_list (w_arg rfl))))
  first
   | (rw[decide_eq_true q'] at m;exact absurd m rfl)
   | (simp at m;omega)
 cases j with
 | cons w1 w2=>
  cases w2
  cases w1 with
  | list ho hall=>exact⟨_,_,e,rfl,rfl,ho,Tb e _ hall,g⟩
theorem post_true(l:OpenLaw)(a:List WData):l.row.toRowW.claim.post a (.bool aC) a=aC:=
 postW_of
  (show WShape.has [] (.bool aC) .bool=aC by first | rfl | decide | simp[WShape.arms])
  (w_eq_bool (w_res rfl) w_lit) rfl
end Att
namespace L2
open PySem PySem.Spec PyProof.Rows
structure M2(X:Cx)(o:au)(m:ah)(apos:dk)(e f:au)(cpos:dk):Prop where
 base:attributeBase o m X.env (eval o X.env)=eval o X.env
 few:((dh cpos (aT [e,f] X.env)).all (λx=>!x.1)&&(backToKw cpos (keywordEach [] X.env)).all (λx=>x.1.isSome)
  &&decide (([e,f]:List au).length+([]:List Keyword).length+(if([]:List Keyword).isEmpty then 0 else 1)<30))=aC
 line:(apos.endLine==cpos.line)=aC
 trees:dh cpos (aT [e,f] X.env)=[(aB,eval e X.env),(aB,eval f X.env)]
theorem RF:∀{vs:List aF}{ns:List Int},IntsAre vs ns->Vals (ns.map V.int) vs
 | _,_,.nil=>.nil
 | _,_,.cons n t h=>.cons ⟨t,rfl⟩ (RF h)
noncomputable def Gj(H:Hp):Prop:=∀b,H b=none\/∃o xs,H b=aA (.frz o (.lst xs))
theorem law_call{P:bH}{w:bu}{K:aD}{I W:ah->Option aF}{CX:Jo}{k:Nat}{X a:aG}{fd:dJ}{x:ah}{sp:Sp}{f:aL}{vs:List aF}{C:List Int}
  (N:∀(q:ah)(c:aG),Mr q=aC->cJ K (.ref c) q=aC->False) (KX:K.In f.heap) (D:f.heap.Ns cE I) (j:f.heap.Ns iU W) (T:∀x:ah,x≠"__name__"->W x=cU x) (J:f.heap.NoLimit) (p:f.heap.NoSeer) (hg:f.gens = #[])
  (G:f.heap.get? a=aA { cls:=.type "list",data:=.seq vs.toArray }) (hi:IntsAre vs C) (hl:C.length<=sizeLine) (hr:Room k jA)
  (F:∀base:bP,K.In base->base.Ns cE I->Ta P w K I base CX k X fd [x] sp) (B:∀(s:aL)(u:aF),ir s fd ⟨[u],[]⟩ [(x,u)])
  (hsp:∀H:Hp,Gj H->SqL K H a (C.map V.int)->sp [.ref a] H (λv _=>v = .bl aC) λ_ _ _=>False)
  (Z:∀H e l,CX [] H f (λ_ _ _=>False) e l->False) :
  g9 (model P w) jA (.call (.ref X) ⟨[.ref a],[]⟩) (λr l=>r = .ok (.ret (.bool aC))/\OldK f.heap l.heap/\l.os=f.os/\g7 l.gens) f:=by
 have rv:=RF hi;have S:=hi.length
 -- from an abstract heap in which nothing but the script may be tracked
 have A:∀H:Hp,Gj H->SqL K H a (C.map V.int)->HOk P w H f.heap->(∀b,H b≠none->b=a)->(H a≠none->K.lookup a=none)->
   g9 (model P w) jA (.call (.ref X) ⟨[.ref a],[]⟩) (λr l=>r = .ok (.ret (.bool aC))/\OldK f.heap l.heap/\l.os=f.os/\g7 l.gens) f:=by
  intro H hO hS R hA hK;have g:∀{b:aG}{o:c9},f.heap.get? b=aA o->H b=none->(Qd f.heap H).get? b=aA o:=λe n=>Lr e n
  have noA:∀{b:aG}{o:c9}{M:Array DictEntry}{ep:Nat},f.heap.get? b=aA o->o.data = .dict M ep->H b=none:=λ{b o M ep} e d=>by
   cases q:H b with
   | none=>rfl
   | some u=>
    have O:b=a:=hA b (by rw[q];simp);subst O;rw[G] at e;cases e;have d':Data.seq vs.toArray _=Data.dict M ep:=d;cases d'
  have i:∀{b:aG}{m:ah->Option aF},f.heap.Ns b m->(Qd f.heap H).Ns b m:=λ{b m} ⟨o,M,ep,e,d,r⟩=>⟨o,M,ep,g e (noA e d),d,r⟩
  have Q:K.In (Qd f.heap H):=λb o e=>g (KX b o e) (by
   cases q:H b with
   | none=>rfl
   | some u=>
    have O:b=a:=hA b (by rw[q];simp);subst O;rw[hK (by rw[q];simp)] at e;cases e)
  have hbm:∀{b:aG}{o:c9},f.heap.get? b=aA o->o.cls = .type "module"->H b=none:=λ{b o} e d=>by
   cases q:H b with
   | none=>rfl
   | some u=>
    have O:b=a:=hA b (by rw[q];simp);subst O;rw[G] at e;cases e;injection d with d
    exact absurd d (by decide)
  have hM:Mod K I (Qd f.heap H):=⟨Q,i D,⟨W,i j,T⟩,let⟨mc,t,y⟩:=J;⟨mc,i t,y⟩,⟨let⟨mc,t,y⟩:=p.statics;⟨mc,i t,y⟩,let⟨mm,t,y⟩:=p.mods;⟨mm,i t,y⟩,⟨W,i j,T⟩,let⟨mg',bm,Y,t,y,h3,h4,h5⟩:=p.main;⟨mg',bm,Y,i t,y,g h3 (hbm h3 h4),h4,h5⟩⟩⟩;have e0:Jp P w K I (Qd f.heap H) jA [] f H:=⟨rfl,hM,λb o e=>Ja e,Nat.le_of_eq (Ms _ _),trivial,λb j=>absurd (show b∈([]:List aG) from j) (by simp),λq c t y=>(N q c t y).elim,R,.of_eq hg⟩;refine iu ((F _ Q (i D)).run jA [] f H ⟨[.ref a],[]⟩ [.ref a] [.ref a] _ _ hr e0 (B f (.ref a)) (.cons rfl .nil) (hsp H hO hS)) λr l h=>?_
  cases r with
  | error e=>exact(Z H e l h).elim
  | ok fl=>
   cases fl with
   | next=>exact dQ h
   | brk=>exact dQ h
   | cont=>exact dQ h
   | ret u=>
    obtain⟨v,H',os,E,un,L,r',q⟩:=h;have q':v = .bl aC:=q;subst q';obtain rfl:u=aF.bool aC:=r';refine⟨rfl,OldK.of_keep λb o e=>?_,os,E⟩
    cases q:H b with
    | none=>exact un.keep b o e q (by intro z;exact absurd (show b∈([]:List aG) from z) (by simp)) (by simp)
    | some u=>
     rcases hO b with z | ⟨Y,xs,z⟩
     ·rw[q] at z;cases z
     ·have z2:=un.frzs b Y _ z;obtain⟨e1,_⟩:=R b _ z;obtain⟨e2,_⟩:=L b _ z2;rw[e] at e1;cases e1;exact e2
 cases hk:K.lookup a with
 | some o=>
  -- the script is one of the module's own objects
  have e:=KX a o hk;rw[G] at e;cases e;refine A (λ_=>none) (λ_=>.inl rfl) (.inr ⟨_,vs.toArray,_,hk,rfl,rfl,rfl,by rw[aO,S];exact hl,by simpa using rv⟩) (λb u z=>by have U:(none:Option HO)=aA u:=z;cases U) (λb z=>absurd rfl z) λz=>absurd rfl z
 | none=>
  refine A (λb=>if b=a then aA (.frz { cls:=.type "list",data:=.seq vs.toArray } (.lst (C.map V.int))) else none) (λb=>?_) (.inl (.inr ⟨{ cls:=.type "list",data:=.seq vs.toArray },ju rfl⟩)) (λb u z=>?_) (λb z=>?_) λ_=>hk
  ·by_cases j:b=a
   ·exact .inr ⟨_,_,ju j⟩
   ·exact .inl (jv j)
  ·by_cases j:b=a
   ·have U:=(ju j).symm.trans z;cases U;subst j;exact⟨G,by rw[aS];exact hl,vs,_,rv,G⟩
   ·have U:=(jv j).symm.trans z;cases U
  ·by_cases j:b=a
   ·exact j
   ·exact absurd (jv j) z
noncomputable def YN(s:bb):Arguments:=match s with
 | .FunctionDef _ a _ _ _ _ _ _ _ _=>a
 | _=>{ posonlyargs:=[],args:=[],vararg:=none,kwonlyargs:=[],kw_defaults:=[],kwarg:=none,defaults:=[] }
noncomputable def Z9(s:bb):List bb:=match s with
 | .FunctionDef _ _ b _ _ _ _ _ _ _=>b
 | _=>[]
noncomputable def Zf(s:bb):cq:=match s with
 | .FunctionDef _ _ _ _ _ _ sc _ _ _=>sc
 | _=>{ kind:=.function,names:=[],isGenerator:=aB,isCoroutine:=aB }
abbrev OJ:Jo:=λ_ _ _ _ _ _=>False
abbrev E0:XK:=λ_ _ _=>False
theorem FO{X:Cx}:OF OJ X E0:=λ_ _ _ _ _ _ _ h=>h.elim
structure Fun(K:aD)(x qual:ah)(st:bb)(f:aG)(fd:dJ):Prop where
 ex:∃(oc:aF) (od:Option aG) (kV doc pm:aF) (an:Option aG) (cdv ct:aF) (osl:Array (Option aF)),
  fd=cN x qual (YN st) (Z9 st) (Zf st) .none kV doc pm an cdv ct/\K.lookup f=aA ⟨oc,od,.func fd,osl⟩/\cJ K cdv qual=aC
 kp:eV K (.ref f)=aC
section
variable {P:bH} {w:bu} {K:aD} {mg:ah->Option aF} {base:bP}
theorem Fun.ok{x b:ah}{st:bb}{f:aG}{j:dJ}{N e:List ah}{k:Nat}{sp:Sp}(F:Fun K x b st f j)(S:Zn N e (Zf st))(len:∀vs H Q E,sp vs H Q E->vs.length=e.length)
  (d:∀(c:aF)(A:bc)(a:List jG)(s:aL)(H:Hp)(vs:List V)(Q:VK)(E:XK),Room k (A.deeper (fB b (Zf st) s.heap.objs.size f c))->sp vs H Q E->
   ∃t,PSs (TV OJ P w K mg base N b (Zf st) f c A a s H E).nox (Z9 st) t/\t { nx:=λ_ p=>Q .non p,rt:=Q } (start N vs) H):Ta P w K mg base OJ (k+1) f j e sp:=by
 obtain⟨v,u,kV,o,r,y,c,ct,l,rfl,m,g⟩:=F.ex;refine YU m g S len λA a s H vs Q E n i=>?_;obtain⟨t,h,q⟩:=d c A a s H vs Q E n i;exact⟨t,h.nox,q⟩
theorem Fun.binds{x a:ah}{st:bb}{f:aG}{i:dJ}{e:List ah}(F:Fun K x a st f i)
  (h:∀(kV c d:aF)(g:Option aG)(b ct:aF)(us:List aF),us.length=e.length->gW (cN x a (YN st) (Z9 st) (Zf st) .none kV c d g b ct) ⟨us,[]⟩=pure (e.zip us)):Binds K i e []:=by
 obtain⟨n,m,kV,c,d,g,b,ct,j,rfl,l,k⟩:=F.ex;exact .all (h kV c d g b ct)
theorem Gk{x a:ah}{st:bb}{f:aG}{i:aF}{j g:Option aG}{e:Array (Option aF)}{kV d h b ct:aF}(l:K.lookup f=aA ⟨i,j,.func (cN x a (YN st) (Z9 st) (Zf st) .none kV d h g b ct),e⟩)
  (c:cJ K b a=aC) (k:eV K (.ref f)=aC):Fun K x a st f (cN x a (YN st) (Z9 st) (Zf st) .none kV d h g b ct):=⟨⟨i,j,kV,d,h,g,b,ct,e,rfl,l,c⟩,k⟩
end
section
variable {X:Cx}
theorem pv(i:Nat){x:ah}{a:dk}(c:X.N[i]?=aA x:=by rfl)(d:Eo X.env.scope x:=by first | exact i5 rfl | exact gO (i5 rfl) | exact gO (gO rfl))(e:(x==("__debug__" : ah))=aB:=by decide)
  (b:(x==("__classdict__" : ah))=aB:=by decide):PE X (.Name x a) (Qe i):=Hv c d e b
end
theorem FP{A B:Prop}(h:B):if aB=aC then A else B:=by rw[jv bK];exact h
theorem FQ{A B:Prop}(h:A):if aC=aC then A else B:=by rw[ju rfl];exact h
noncomputable def Same(H H':Hp):Prop:=∀b o,H b=aA o->H' b=aA o
theorem Same.refl(H:Hp):Same H H:=λ_ _ h=>h
theorem Same.trans{H d e:Hp}(a:Same H d)(b:Same d e):Same H e:=λc o h=>b c o (a c o h)
theorem Same.free{H a:Hp}(e:Same H a){l:aG}(h:a l=jj):H l=jj:=by
 cases q:H l with
 | none=>rfl
 | some o=>
  rw[e l o q] at h;cases h
end L2
set_option maxHeartbeats 4000000
namespace L2
open PySem PySem.Spec PyProof.Rows
noncomputable def YW(cells:List (ah×aG)):List (ah×cu)->List (ah×aG)->List (ah×aG)
 | [],acc=>acc
 | (n,k)::r,acc=>YW cells r (if(k==bC)=aC then(n,(cells.lookup n).getD 0)::acc else acc)
theorem Vd{env:jG}:∀(names:List (ah×cu))(acc:List (ah×aG)),(∀y∈names,y.2 = .free->(env.cells.lookup y.1).isSome=aC)->
  (forIn (m:=Sem) names acc λ(x:ah×cu) (e:List (ah×aG))=>
   match x with
   | (name,kind)=>if(kind==bC)=aC then do
     let c <-cellOf env name
     pure (dS ((name,c)::e))
    else pure (dS e))=pure (YW env.cells names acc)
 | [],acc,_=>rfl
 | (n,k)::r,acc,h=>by
  rw[List.forIn_cons];have d:=λa=>Vd r a λy f=>h y (aV _ f)
  cases hk:(k==bC) with
  | true=>
   have g:=h (n,k) a0 (by simpa using hk);obtain⟨c,b⟩:=bW.mp g;have b:env.cells.lookup n=aA c:=b;have i:cellOf env n=pure c:=by unfold cellOf;rw[b]
   dsimp only
   rw[hk,ju rfl,i];refine dU (d ((n,c)::acc)) ?_;show _=pure (YW env.cells r (if(k==bC)=aC then(n,(env.cells.lookup n).getD 0)::acc else acc));rw[ju hk,b];rfl
  | false=>
   dsimp only
   rw[hk,jv bK];refine dU (d acc) ?_;show _=pure (YW env.cells r (if(k==bC)=aC then(n,(env.cells.lookup n).getD 0)::acc else acc));rw[jv (by rw[hk];exact bK)]
theorem XA{a:cq}{env:jG}(h:∀y∈a.names,y.2 = .free->(env.cells.lookup y.1).isSome=aC):closureFor a env=pure (YW env.cells a.names []):=by
 have e:=Vd a.names [] h;unfold closureFor
 dsimp only
 rw[e];rfl
theorem XU{cells:List (ah×aG)}{x:ah}{c:aG}:∀(names:List (ah×cu))(acc:List (ah×aG)),(∀y∈names,y.2 = .free->(cells.lookup y.1).isSome=aC)->(acc.lookup x=aA c->cells.lookup x=aA c)->
  (YW cells names acc).lookup x=aA c->cells.lookup x=aA c
 | [],_,_,h,e=>h e
 | (n,k)::r,acc,hf,h,e=>by
  refine XU r _ (λy g=>hf y (aV _ g)) ?_ e;intro q;by_cases f:(k==bC)=aC
  ·rw[ju f,bF] at q
   cases hx:x==n with
   | true=>
    rw[hx] at q;have b:x=n:=by simpa using hx
    obtain⟨d,a⟩:=bW.mp (hf (n,k) a0 (by simpa using f));have a:cells.lookup n=aA d:=a;rw[a] at q;rw[b,a];exact q
   | false=>rw[hx] at q;exact h q
  ·rw[jv f] at q;exact h q
theorem TY{cells:List (ah×aG)}{x:ah}:∀(names:List (ah×cu))(acc:List (ah×aG)),(acc.lookup x).isSome=aC->((YW cells names acc).lookup x).isSome=aC
 | [],_,h=>h
 | (n,k)::r,acc,h=>by
  refine TY r _ ?_;split
  ·rw[bF];split<;>simp_all
  ·exact h
theorem XW{cells:List (ah×aG)}{x:ah}:∀(names:List (ah×cu))(acc:List (ah×aG)),(x,bC)∈names->((YW cells names acc).lookup x).isSome=aC
 | (n,k)::r,acc,h=>by
  rcases aa.mp h with e | h
  ·cases e;refine TY r _ ?_;rw[ju (by decide),bF];simp
  ·exact XW r _ h
structure CompScope(N:List ah)(around scope:cq)(own fr:List ah)(ix:List Nat):Prop where
 kind:scope.kind = .function
 nocell:∀y∈scope.names,y.2≠.cell
 names:∀y∈scope.names,y.2 = .local->scope.names.lookup y.1=aA .local
 frees:∀y∈scope.names,y.2 = .free->(around.names.lookup y.1=aA .cell\/around.names.lookup y.1=aA .free)
 slots:fr.map aA=ix.map (λi=>N[i]?)
 outs:∀x∈fr,(x,bC)∈scope.names
 apart:∀x∈fr,scope.names.lookup x≠aA .local
noncomputable def Zv(X:Cx)(N':List ah)(scope:cq)(cl:List (ah×aG))(C:aG)(s:aL)(H:Hp)(ex:List aG):Cx:=
 { X with N:=N',s₀:=s,H₀:=H,env:=iC scope cl C X.env,outer:=X.stack,ex:=ex,fn:=λ_=>aB,pn:=[],xe:=λ_ _=>False }
noncomputable def ZL(n:Nat)(ix:List Nat)(σ:St):St:=aU n none++ix.map (λi=>(σ[i]?).join)
theorem Yi{env:jG}{x:ah}:∀{names:List (ah×cu)}{k:cu},names.lookup x=aA k->
  (names.map λ(n,k)=>if(k==bC&&env.scope.kind==.function&&env.kindOf n==aA .cell) then(n,bY) else(n,k)).lookup x =
   aA (if(k==bC&&env.scope.kind==.function&&env.kindOf x==aA .cell)=aC then bY else k)
 | [],_,h=>by simp at h
 | (n,k')::r,k,h=>by
  show List.lookup x ((if(k'==bC&&env.scope.kind==.function&&env.kindOf n==aA .cell)=aC then(n,bY) else(n,k'))::_)=_
  cases hx:x==n with
  | true=>
   simp only[bF,hx] at h;cases h;have e:x=n:=by simpa using hx
   subst e;split
   ·simp[bF]
   ·simp[bF]
  | false=>
   simp only[bF,hx] at h;split
   ·simp only[bF,hx];exact Yi h
   ·simp only[bF,hx];exact Yi h
theorem Y8{env:jG}{x:ah}:∀{names:List (ah×cu)}{k':cu},
  (names.map λ(n,k)=>if(k==bC&&env.scope.kind==.function&&env.kindOf n==aA .cell) then(n,bY) else(n,k)).lookup x=aA k'->∃k,names.lookup x=aA k
 | [],_,h=>by simp at h
 | (n,k0)::r,k',h=>by
  have h:List.lookup x ((if(k0==bC&&env.scope.kind==.function&&env.kindOf n==aA .cell)=aC then(n,bY) else(n,k0))::_)=aA k':=h
  cases hx:x==n with
  | true=>exact⟨k0,by simp[bF,hx]⟩
  | false=>
   have:∃k,r.lookup x=aA k:=by
    apply Y8 (env:=env) (k':=k');split at h<;>simpa [bF,hx] using h
   obtain⟨k,e⟩:=this;exact⟨k,by simp[bF,hx,e]⟩
section
variable {X:Cx} {jn:List (aG×c9)} {σ:St} {H:Hp} {s:aL} {own fr:List ah} {ix:List Nat} {scope:cq}
theorem CompScope.clos(S:CompScope X.N X.env.scope scope own fr ix)(I:Inv X jn σ H s):∀y∈scope.names,y.2 = .free->(X.env.cells.lookup y.1).isSome=aC:=λy a b=>by obtain⟨c,e⟩:=I.ok.has y.1 (S.frees y a b);rw[e];rfl
end
theorem Ql{prog:bH}{w:bu}{A:bc}{R:ji->aL->Prop}{s:aL}{F a u:au}{E:List au}{p:cq}{C:dk}{D z:aF}{env:jG}(I:Nat->aL->Prop)
  (turn:∀n s,I n s->az (model prog w) A (jh D) (λr i=>match r with
   | none=>R (.ok .next) i
   | some v=>az (model prog w) A (gq a D v) (λ_ f=>az (model prog w) A (assign a env v) (λ_ k=>
     az (model prog w) A (forIn E aC λc r=>if r=aC then do let ok <-jZ c env (eval c env);pure (dS ok) else pure (dS r)) (λok d=>
      if ok=aC then az (model prog w) A (eval F env) (λx o=>
       az (model prog w) A (call (.builtin "list.append") [z,x]) (λ_ l=>∃m,m<n/\I m l) (iN (model prog w) A env λe b=>R (.error e) b) o) (iN (model prog w) A env λe b=>R (.error e) b) d
      else ∃m,m<n/\I m d) (iN (model prog w) A env λe b=>R (.error e) b) k) (iN (model prog w) A env λe b=>R (.error e) b) f) (iN (model prog w) A env λe b=>R (.error e) b) i) (iN (model prog w) A env λe b=>R (.error e) b) s)
  (n:Nat) (h:I n s) :
  g9 (model prog w) A (.compLoop (.ListComp F [⟨a,u,E,0⟩] p C) 0 D z env) R s:=by
 refine codeAny_loop rfl I (λn s G=>?_) n h;refine wpAny_noted ?_;refine aI (iS (aI (cK (turn n s G) (λr i h₁=>?_) λ_ _ g=>g)))
 cases r with
 | none=>exact ag h₁
 | some v=>
  refine aI (cK h₁ (λ_ f q=>?_) λ_ _ g=>g);refine aI (cK q (λ_ k t=>aI (cK t (λok d j=>?_) λ_ _ g=>g)) λ_ _ g=>g)
  cases ok with
  | false=>exact ag ⟨rfl,j⟩
  | true=>
   exact aI (aI (cK j (λx o B=>aI (cK B (λ_ l y=>ag (ag ⟨rfl,y⟩)) λ_ _ g=>g)) λ_ _ g=>g))
noncomputable def Oz(X:Cx)(jr:List au)(t:TT):Prop:=
 ∀(jn:List (aG×c9))(s:aL)(σ:St)(H:Hp)(Q:Bool->Hp->Prop),Inv X jn σ H s->t σ H Q->
  az (model X.prog X.w) X.A (forIn jr aC λc r=>if r=aC then do let ok <-jZ c X.env (eval c X.env);pure (dS ok) else pure (dS r)) (TP X jn σ Q) X.xe s
noncomputable def FR:TT:=λ_ H Q=>Q aC H
theorem Jy{X:Cx}:Oz X [] FR:=λ_ _ _ H _ I h=>wpAny_tests_nil ⟨H,I,h⟩
theorem Jz{X:Cx}{c:au}{t:TT}(h:PT X c t):Oz X [c] t:=λb s a H Q I d=>wpAny_tests_one (h b s a H Q I d)
noncomputable def FT(n:Nat)(ix:List Nat)(g:TG)(tt:TT)(te:TE)(σ:St)(Q:VK)(J:It)(H1:Hp):Prop:=
 ∃W:Nat->Nat->List V->Hp->Prop,(∃m,W 0 m [] H1)/\∀i m ys H,W i m ys H->ys.length<=sizeLine/\
  ((J.stop i H/\∀p,H p=none->Q (.ref p) (upd H p (.lst ys)))\/
   (J.go i H/\∃N:List V->Hp->Prop,(∀ys' H',N ys' H'->∃m',m'<m/\W (i+1) m' ys' H')/\
    ∀x H',J.yld i H x H'->g x (ZL n ix σ) H' λσ2 H2=>σ2.drop n=(ZL n ix σ).drop n/\tt σ2 H2 λb H3=>if b=aC then te σ2 H3 λy H4=>N (ys++[y]) H4 else N ys H3))
noncomputable def TZ(n:Nat)(ix:List Nat)(wi:TI)(g:TG)(tt:TT)(te:TE):TE:=λσ H Q=>wi σ H λJ H1=>FT n ix g tt te σ Q J H1
theorem MF{n:Nat}{ix:List Nat}{b a:St}(d:a.drop n=(ZL n ix b).drop n):∀(i:Nat) v,(ZL n ix b)[i]?=aA (aA v)->a[i]?=aA (aA v):=λi v e=>by
 by_cases c:i<n
 ·unfold ZL at e;rw[ay (by simpa using c),bZ] at e;rw[ju c] at e;cases e
 ·have q:=congrArg (λl=>l[i-n]?) d;simp only[fY] at q;rw[show n+(i-n)=i by omega] at q;rw[q];exact e
section
variable {X:Cx} {tg js iter:au} {jr:List au} {scope:cq} {pos:dk} {own fr:List ah} {ix:List Nat} {wi:TI} {g:TG} {tt:TT} {te:TE}
theorem LH{W:List (aG×c9)}{B:St}{G:Hp}{s2:aL}{F:List aG}{h₁:bP}{tk:Nat}{C:aG}(S:CompScope X.N X.env.scope scope own fr ix)(d:Inv X W B G s2)(f2:∀b∈F,X2 X W G b)(T:∀b∈F,b<s2.heap.objs.size)
  (N:s2.heap.objs.size<=C) (P:h₁.Ns C λ_=>none) (s:∀b o,s2.heap.get? b=aA o->h₁.get? b=aA o) :
  Inv (Zv X (own++fr) scope (YW X.env.cells scope.names []) C s2 G F) [] (ZL own.length ix B) G { s2 with heap:=h₁,toks:=tk }:=by
 have cs:=S.clos d;have sub:∀x c,(YW X.env.cells scope.names []).lookup x=aA c->X.env.cells.lookup x=aA c:=λx c e=>XU scope.names [] cs (λh=>by simp at h) e;have L:=d.stkSub
 have J:(Zv X (own++fr) scope (YW X.env.cells scope.names []) C s2 G F).Ok:=by
  refine⟨d.ok.mod,S.kind,d.ok.glob,d.ok.blt,N,λx y c t f=>d.ok.inj x y c (sub x c t) (sub y c f),λx hx=>?_,λx c h _=>?_,d.ok.hd,d.ok.frames,.inl rfl,λb w=>⟨?_,λx c e=>?_⟩,d.bs,?_,λb o e w=>?_,λb w z=>?_,d.stack,d.stkFree,d.ok.tab.un d.base,λ_ z=>absurd rfl z⟩
  ·-- the cells of the block's free names
   have M:(x,bC)∈scope.names:=by
    have:∃k',(relabel scope X.env).names.lookup x=aA k'/\(k' = .cell\/k' = .free):=by
     rcases hx with h | h
     ·exact⟨_,h,.inl rfl⟩
     ·exact⟨_,h,.inr rfl⟩
    obtain⟨k',e,I⟩:=this;obtain⟨k,E⟩:=Y8 e;have O:=Yi (env:=X.env) E;have e:(scope.names.map λ(n,k)=>if(k==bC&&X.env.scope.kind==.function&&X.env.kindOf n==aA .cell) then(n,bY) else(n,k)).lookup x=aA k':=e;rw[O] at e;have m:=cQ E
    cases k with
    | free=>exact m
    | cell=>exact absurd rfl (S.nocell _ m)
    | _=>simp at e;subst e;rcases I with z | z<;>cases z
   exact bW.mp (XW _ _ M)
  ·cases h
  ·-- F differs from the frame
   exact aw (aZ (T b w) N)
  ·exact(f2 b w).2.2.2.2.1 x c (sub x c e)
  ·exact aQ d.ok.bsz d.sz
  ·rcases(f2 b w).2.2.2.1 with z | z
   ·exact d.ok.noex b o e z
   ·exact absurd (aZ (aP (d.ok.bs b o e).1) z) (bh _)
  ·rcases aa.mp (L b z) with e | e
   ·exact(f2 b w).2.1 e
   ·exact(f2 b w).2.2.1 e
 have sl:fr.length=ix.length:=by simpa using congrArg fE S.slots
 refine⟨J,rfl,d.bare,Un.kept s,⟨_,P,λi x v t f g=>?_⟩,λx c e=>?_,d.hok.fresh N,λx c e=>d.freeC x c (sub x c e),λp hp=>absurd (show p∈([]:List (aG×c9)) from hp) (by simp),d.hok.kept s,?_⟩
 ·-- a name of the def around
  have t:(own++fr)[i]?=aA x:=t;have H:¬i<own.length:=λH=>by unfold ZL at f;rw[ay (by simpa using H),bZ,ju H] at f;cases f
  rw[bQ (by omega)] at t;unfold ZL at f;rw[bQ (by simpa using H),cS,aR] at f
  cases ej:ix[i-own.length]? with
  | none=>rw[ej] at f;cases f
  | some j=>
   rw[ej] at f;have f:(B[j]?).join=aA v:=by simpa using f
   have f:B[j]?=aA (aA v):=by
    cases q:B[j]? with
    | none=>rw[q] at f;cases f
    | some z=>rw[q] at f;exact congrArg aA f
   have hN:X.N[j]?=aA x:=by have q:=congrArg (λl=>l[i-own.length]?) S.slots;simp only[aR,t,ej] at q;exact(aq q).symm
   have hm:=S.outs x (dD t);have hk:=S.frees _ hm rfl;obtain⟨m,hn,hl⟩:=d.loc;obtain⟨u,r,l⟩:=hl j x v hN f (by rcases hk with k | k;exact .inr (.inl k);exact .inr (.inr k));refine⟨u,r,?_⟩;rcases l with⟨k,_⟩ | ⟨_,c,hc,A⟩
   ·have k:X.env.scope.names.lookup x=aA .local:=k;rcases hk with q | q<;>rw[k] at q<;>cases q
   ·obtain⟨c',D⟩:=bW.mp (XW _ [] hm);have Z:=sub x c' D;rw[hc] at Z;cases Z;refine .inr ⟨?_,c,D,?_⟩
    ·have g:=g;rcases g with g | g
     ·obtain⟨Y,E⟩:=Y8 g;have O:=Yi (env:=X.env) E;have g:(scope.names.map λ(n,k)=>if(k==bC&&X.env.scope.kind==.function&&X.env.kindOf n==aA .cell) then(n,bY) else(n,k)).lookup x=aA .local:=g;rw[O] at g
      have U:Y = .local:=by
       cases Y<;>simp at g ⊢
       split at g<;>cases g
      subst U;exact absurd E (S.apart x (dD t))
     ·exact g
    ·obtain⟨o,R,Q⟩:=A;exact⟨o,s _ _ R,Q⟩
 ·obtain⟨v,o,R,Q⟩:=d.cell x c (sub x c e);exact⟨v,o,s _ _ R,Q⟩
 ·show(ZL own.length ix B).length=(own++fr).length;unfold ZL;rw[bX,cS,aS,bX,sl]
noncomputable def T2(fv:ah->Bool)(X:Cx)(N':List ah)(scope:cq)(cl:List (ah×aG))(C:aG)(s:aL)(H:Hp)(ex:List aG):Cx:=
 { X with N:=N',s₀:=s,H₀:=H,env:=iC scope cl C X.env,outer:=X.stack,ex:=ex,fn:=fv,pn:=[],xe:=λ_ _=>False }
theorem RG{fv:ah->Bool}{N:List ah}{cl:List (ah×aG)}{kk:Nat}{C D:aG}{h₁:bP}{tk:Nat}{jn:List (aG×c9)}{σ:St}{w:Hp}{s2:aL}{k:List aG}{it:aG}{tn:Nat->bP->Prop}{J:It}{Fin:List V->Hp->Prop}{RR:aF->aG->ji->aL->Prop}
  (G:X.calm=aC) (hg:PG (T2 fv X N scope cl C s2 w k) tg g) (ht:Oz (T2 fv X N scope cl C s2 w k) jr tt) (he:PE (T2 fv X N scope cl C s2 w k) js te)
  (I2:Inv X jn σ w s2) (T:Qf X.prog X.w X.K tg J k it tn) (st2:tn 0 s2.heap) (f2:∀b∈k,X2 X jn w b)
  {W:Nat->Nat->List V->Hp->Prop} {m0:Nat} (w0:W 0 m0 [] w)
  (turn:∀i m f H,W i m f H->f.length<=sizeLine/\
   ((J.stop i H/\Fin f H)\/
    (J.go i H/\∃N:List V->Hp->Prop,(∀ys' h,N ys' h->∃m',m'<m/\W (i+1) m' ys' h)/\
     ∀x h,J.yld i H x h->g x (ZL kk ix σ) h λσ2 w=>σ2.drop kk=(ZL kk ix σ).drop kk/\tt σ2 w λb t=>if b=aC then te σ2 t λy H4=>N (f++[y]) H4 else N f t)))
  (hRR:∀(D C:aG)(oC:c9)(m:ah->Option aF)(L:aL)(h:Hp)(f:List V),Inv X (jn++[(C,oC)]) σ (upd h D (.lst f)) L->L.heap.get? C=aA oC->L.heap.Ns C m->X2 X jn (upd h D (.lst f)) C->h D=none->Fin f h->RR (.ref D) C (.ok .next) L)
  (hfp:∀b∈k,b<s2.heap.objs.size) (hC:@Eq Nat C (D+1)) (hDD:@Eq Nat s2.heap.objs.size D) (old:∀b o,s2.heap.get? b=aA o->h₁.get? b=aA o) (hacc:h₁.get? D=aA { cls:=.type "list",data:=.seq ([]:List aF).toArray 0 })
  (I0:∀tk,Inv (T2 fv X N scope cl C s2 w k) [] (ZL kk ix σ) w { s2 with heap:=h₁,toks:=tk }) (hcl:∀x c,cl.lookup x=aA c->c≠D) :
  g9 (model X.prog X.w) X.A (.compStart (.ListComp js [⟨tg,iter,jr,0⟩] scope pos) 0 (.ref it) (.ref D) (iC scope cl C X.env)) (RR (.ref D) C) { s2 with heap:=h₁,toks:=tk }:=by
 have hDC:@Ne Nat D C:=by omega
 have j:∀b,b<s2.heap.objs.size->b≠C/\b≠D:=λb a=>by rw[hDD] at a;exact⟨aw (by omega),aw a⟩
 have loop:g9 (model X.prog X.w) X.A (.compLoop (.ListComp js [⟨tg,iter,jr,0⟩] scope pos) 0 (.ref it) (.ref D) (iC scope cl C X.env)) (RR (.ref D) C) { s2 with heap:=h₁,toks:=tk }:=by
  generalize l:T2 fv X N scope cl C s2 w k=Y at I0 hg ht he
  have F:∀{h:Hp}{pn:List (aG×c9)},(∀b∈k,h b=none)->(∀p∈pn,∀b∈k,p.1≠b)->∀b∈k,X2 Y pn h b:=λ{h pn} hn B b a=>by
   subst l;refine⟨hn b a,(j b (hfp b a)).1,λz=>?_,.inl a,λx c e=>?_,λp hp'=>B p hp' b a⟩
   ·exact(I0 0).ok.exfs b a z
   ·exact((I0 0).ok.exf b a).2 x c e
  have dfp:=λb a=>ao (j b (hfp b a)).2;have O:∀x c,Y.env.cells.lookup x=aA c->c≠D:=by subst l;exact hcl
  have hfsD:D∉Y.fs:=λz=>by subst l;obtain⟨_,o,ho,_⟩:=(I0 0).ok.funs.mem z;have:=aP ho;have:D<s2.heap.objs.size:=this;exact bh _ (Nat.lt_of_lt_of_eq this hDD)
  have eL:Y.env.locals=C:=by subst l;rfl
  have eS:Y.s₀=s2:=by subst l;rfl
  have eP:Y.pn=[]:=by subst l;rfl
  refine Ql (λn L=>∃i f A E h,Inv Y [] (ZL kk ix σ) h L/\tn i L.heap/\(∀b∈k,h b=none)/\L.heap.get? D=aA { cls:=.type "list",data:=.seq A E }/\Vals f A.toList/\h D=none/\W i n f h) ?_ m0
   ⟨0,[],#[],0,w,I0 _,T.keep _ _ _ st2 λb _ o e=>old b o e,λb a=>(f2 b a).1,hacc,.nil,I2.hok.fresh (by omega),w0⟩
  rintro n s3 ⟨i,f,A,E,t,I3,st3,fr3,oD,vD,nD,w3⟩;obtain⟨hlen,R⟩:=turn i n f t w3;have hsize:A.size<=sizeLine:=by have:=vD.length;simp only[dy] at this;omega
  have pD:Inv Y [(D,{ cls:=.type "list",data:=.seq A E })] (ZL kk ix σ) t s3:=I3.pins_of λp B=>by rw[av.mp B];exact⟨oD,nD,by rw[eL];exact hDC,hfsD,λv z=>by cases z⟩
  have YP:Y.prog=X.prog:=by subst l;rfl
  have Yw:Y.w=X.w:=by subst l;rfl
  have YK:Y.K=X.K:=by subst l;rfl
  have YA:Y.A=X.A:=by subst l;rfl
  have Yx:Y.xe=λ_ _=>False:=by subst l;rfl
  have Ye:Y.env=iC scope cl C X.env:=by subst l;rfl
  have ne1:∀p∈[((D,{ cls:=.type "list",data:=.seq A E }):aG×c9)],∀b∈k,p.1≠b:=λp B b a=>by rw[av.mp B];exact dfp b a
  rcases R with⟨stop,qn⟩ | ⟨go,N,hN,step⟩
  ·have d:=T.done Y YP Yw YK (by subst l;exact G) i _ s3 _ t (iN (model X.prog X.w) X.A (iC scope cl C X.env) λe L=>RR (.ref D) C (.error e) L) pD (F fr3 ne1) st3 stop;rw[YA] at d;refine Ym d λr s4 ⟨hr,I4⟩=>?_;subst hr;obtain⟨oD4,s,_⟩:=I4.pin (D,_) (by rw[eP];exact a0);obtain⟨m,hn,_⟩:=I4.loc;rw[eL] at hn;obtain⟨oC,es,ep,hoC,hdC,hrest⟩:=id hn;have P:t C=none:=by have:=I4.free;rw[eL] at this;exact this
   have un:Un (Ox X.stack) k w t s2.heap s4.heap:=by have:=I4.base;subst l;exact this
   have lt2:∀b o,s2.heap.get? b=aA o->b≠D:=λb o e=>(j b (aP e)).2
   have un':Un (Ox X.stack) k w (upd t D (.lst f)) s2.heap s4.heap:=by
    refine⟨un.keep,un.slot,λb o e n hx=>?_,un.there,λb xs e=>?_,λb o u e=>?_,λb ps e=>?_⟩
    ·rw[upd_ne (lt2 b o e)];exact un.free b o e n hx
    ·have q:=un.tups b xs e;rw[upd_ne (Zm q s)];exact q
    ·have q:=un.frzs b o u e;rw[upd_ne (Zm q s)];exact q
    ·obtain⟨more,q⟩:=un.tbls b ps e;exact⟨more,by rw[upd_ne (Zm q s)];exact q⟩
   have hok4:HOk X.prog X.w t s4.heap:=by have:=I4.hok;rw[YP,Yw] at this;exact this
   have hok':HOk X.prog X.w (upd t D (.lst f)) s4.heap:=λb u q=>by
    by_cases a:b=D
    ·subst a;rw[Zp] at q;cases q;exact⟨hlen,A.toList,E,vD,by simpa using oD4⟩
    ·rw[upd_ne a] at q;exact(hok4 b u q).stay (λc v _ z=>z) (λc z=>by rw[upd_ne (Zm z s)];exact z) (λc xs z=>by rw[upd_ne (Zm z s)];exact z) λc u z=>by rw[upd_ne (Zm z s)];exact z
   have os4:s4.os=s2.os:=by rw[I4.os,eS]
   have I5:=I2.call' os4 un' hok' I4.bare λb a=>⟨(f2 b a).2.2.2.1,(f2 b a).2.1,(f2 b a).2.2.2.2.1,(f2 b a).2.2.2.2.2⟩;have CL:C≠X.env.locals:=λz=>by exact(j _ I2.lt).1 z.symm
   have U:X2 X jn (upd t D (.lst f)) C:=I2.fpOk (by omega) (by rw[upd_ne (ao hDC)];exact P);refine hRR D C oC m s4 t f (I5.pins_of λp B=>?_) hoC hn U s qn;rcases bj.mp B with z | z
   ·exact I5.pin p (af _ z)
   ·rw[av.mp z];exact⟨hoC,U.1,U.2.1,U.2.2.1,λv z=>by rw[hdC] at z;cases z⟩
  ·have d:=T.item Y YP Yw YK (by subst l;exact G) i _ s3 _ t (λ_ _=>False) pD (F fr3 ne1) st3 go;rw[YA] at d;refine cK d (λr s4 ⟨u,hr,h4⟩=>?_) λ_ _ z=>z.elim;subst hr;refine cK h4 (λ_ s5 ⟨x,H5,I5,r5,y5,st5,fr5⟩=>?_) λ_ _ z=>z.elim;have I5':=I5.pinned (F fr5 ne1) (T.obj _ _ st5);have a6:=hg _ s5 _ H5 x u _ I5' r5 (step x H5 y5);rw[YP,Yw,YA,Ye,Yx] at a6;refine cK a6 (λ_ s6 ⟨S,H6,I6,dr,q6⟩=>?_) λ_ _ z=>z.elim;have a7:=ht _ s6 S H6 _ I6 q6;rw[YP,Yw,YA,Ye,Yx] at a7;refine cK a7 (λok s7 ⟨H7,I7,q7⟩=>?_) λ_ _ z=>z.elim
   have back:∀{M:Hp}{I:aL},Inv Y ([((D,{ cls:=.type "list",data:=.seq A E }):aG×c9)]++Ui k s5.heap) S M I->
     I.heap.get? D=aA { cls:=.type "list",data:=.seq A E }/\M D=none/\tn (i+1) I.heap/\(∀b∈k,M b=none):=λ{M I} Q=>by
    obtain⟨e1,Z,_⟩:=Q.pin (D,{ cls:=.type "list",data:=.seq A E }) (by simp);refine⟨e1,Z,T.keep _ _ _ st5 λb a o e=>(Q.pin (b,o) (by rw[eP];exact aV _ (X3 a e))).1,λb a=>?_⟩;obtain⟨o,e,_⟩:=T.obj _ _ st5 b a;exact(Q.pin (b,o) (by rw[eP];exact aV _ (X3 a e))).2.1
   have unp:∀{M:Hp}{I:aL},Inv Y ([((D,{ cls:=.type "list",data:=.seq A E }):aG×c9)]++Ui k s5.heap) S M I->Inv Y [] (ZL kk ix σ) M I:=λ{M I} Q=>
    (Q.pins_of λp B=>absurd B (by simp)).weak (by
     have e1:=(I0 0).len;have Z:=Q.len;rw[e1,Z]) (MF dr)
   cases ok with
   | false=>
    obtain⟨e1,Z,e3,e4⟩:=back I7;obtain⟨m',hm,w7⟩:=hN _ _ q7;exact⟨m',hm,i+1,f,A,E,H7,unp I7,e3,e4,e1,vD,Z,w7⟩
   | true=>
    have a8:=he _ s7 S H7 _ I7 q7;rw[YP,Yw,YA,Ye,Yx] at a8;refine cK a8 (λyv I ⟨y,M,Q,ry,q8⟩=>?_) λ_ _ z=>z.elim;obtain⟨e1,Z,e3,e4⟩:=back Q;obtain⟨m',hm,w8⟩:=hN _ _ q8;refine append_at e1 (λh9 hs9 hD9=>?_) hsize;have I9:=(unp Q).turned (t':=I.toks) (λb o a e=>hs9.extBut b o a e) Z (by rw[eL];exact hDC) (.inr (by rw[eS];omega)) O (λp B=>absurd (show p∈([]:List (aG×c9)) by rw[eP] at B;exact B) (by simp));refine⟨m',hm,i+1,f++[y],A.push yv,E+1,M,I9,T.keep _ _ _ e3 λb a o e=>hs9.extBut b o (ao (dfp b a)) e,e4,hD9,?_,Z,w8⟩;rw[Array.toList_push];exact vD.append (.cons ry .nil)
 exact codeAny_compStart_list loop (T.self X.A 0 _ _ _ (T.keep _ _ _ st2 λb _ o e=>old b o e) loop)
theorem T3{M:List (aG×c9)}{O:St}{I:Hp}{s2:aL}{Y:List aG}{it:aG}{tn:Nat->bP->Prop}{J:It}{Fin:List V->Hp->Prop}{RR:aF->aG->ji->aL->Prop}{E:aF->aL->Prop}
  (n:X.calm=aC) (S:CompScope X.N X.env.scope scope own fr ix)
  (hg:∀cl C s H ex,PG (Zv X (own++fr) scope cl C s H ex) tg g) (ht:∀cl C s H ex,Oz (Zv X (own++fr) scope cl C s H ex) jr tt) (he:∀cl C s H ex,PE (Zv X (own++fr) scope cl C s H ex) js te)
  (P:Inv X M O I s2) (T:Qf X.prog X.w X.K tg J Y it tn) (A:tn 0 s2.heap) (f2:∀b∈Y,X2 X M I b)
  {W:Nat->Nat->List V->Hp->Prop} {m0:Nat} (w0:W 0 m0 [] I)
  (turn:∀i m ys H,W i m ys H->ys.length<=sizeLine/\
   ((J.stop i H/\Fin ys H)\/
    (J.go i H/\∃N:List V->Hp->Prop,(∀ys' H',N ys' H'->∃m',m'<m/\W (i+1) m' ys' H')/\
     ∀x H',J.yld i H x H'->g x (ZL own.length ix O) H' λl I=>l.drop own.length=(ZL own.length ix O).drop own.length/\tt l I λb Z=>if b=aC then te l Z λy H4=>N (ys++[y]) H4 else N ys Z)))
  (Q:∀(D C:aG)(oC:c9)(m:ah->Option aF)(s':aL)(H':Hp)(ys:List V),Inv X (M++[(C,oC)]) O (upd H' D (.lst ys)) s'->s'.heap.get? C=aA oC->s'.heap.Ns C m->X2 X M (upd H' D (.lst ys)) C->H' D=none->Fin ys H'->RR (.ref D) C (.ok .next) s') :
  az (model X.prog X.w) X.A (newList []) (λw t=>az (model X.prog X.w) X.A (fZ scope X.env.globals (YW X.env.cells scope.names []) [] X.env.qual none .none (aA X.env)) (λk G=>
   g9 (model X.prog X.w) X.A (.compStart (.ListComp js [⟨tg,iter,jr,0⟩] scope pos) 0 (.ref it) w { k with scope:=relabel scope X.env }) (RR w k.locals) G) E t) E s2:=by
 have F:∀b∈Y,b<s2.heap.objs.size:=λb L=>by obtain⟨o,e,_⟩:=T.obj 0 s2.heap A b L;exact aP e
 refine cY (wpAny_newFunctionEnv S.nocell (by simp) (λh₁ d a=>?_) S.kind);generalize r:s2.heap.push { cls:=.type "list",dict:=none,data:=.seq ([]:List aF).toArray }=G2 at d a ⊢;have R:G2.objs.size=s2.heap.objs.size+1:=by rw[<-r,bg]
 generalize hCC:G2.objs.size=C at d a R ⊢;generalize p:s2.heap.objs.size=D at R ⊢;have U:D≠C:=by omega
 have f:∀b,b<s2.heap.objs.size->b≠C/\b≠D:=λb L=>by rw[p] at L;exact⟨aw (by omega),aw L⟩
 have B:=λb o e=>a.extBut b o (f b (aP e)).1 (aE _ (r▸aE _ e))
 have u:h₁.get? D=aA { cls:=.type "list",data:=.seq ([]:List aF).toArray 0 }:=by
  have e0:G2.get? D=aA { cls:=.type "list",data:=.seq ([]:List aF).toArray 0 }:=by rw[<-r,<-p];exact aY _ rfl
  exact a.extBut _ _ U (aE _ e0)
 have j:h₁.Ns C λ_=>none:=by simpa using d
 have I0:=λtk=>LH (tk:=tk) S P f2 F (by omega) j B;refine RG (s2:=s2) (h₁:=h₁) (fv:=λ_=>aB) (N:=own++fr) (C:=C) (D:=D) (cl:=YW X.env.cells scope.names []) n (hg _ _ _ _ _) (ht _ _ _ _ _) (he _ _ _ _ _) P T A f2 w0 turn Q F R p B u I0 λx c e z=>?_;obtain⟨v,q⟩:=P.cell x c (XU scope.names [] (S.clos P) (λh=>by simp at h) e);exact(f c q.lt).2 z
theorem JA(c:X.calm=aC)(y:PI X tg iter wi)(S:CompScope X.N X.env.scope scope own fr ix)
  (L:∀cl C s H ex,PG (Zv X (own++fr) scope cl C s H ex) tg g) (t:∀cl C s H ex,Oz (Zv X (own++fr) scope cl C s H ex) jr tt) (M:∀cl C s H ex,PE (Zv X (own++fr) scope cl C s H ex) js te)
  (B:∀x,bI iter X.env x=pure x:=by intro _;rfl):PE X (.ListComp js [⟨tg,iter,jr,0⟩] scope pos) (TZ own.length ix wi g tt te):=by
 intro l s z H Q I h;refine eD rfl B (XA (S.clos I)) S.kind S.names (Ym (y l s z H _ I h) λv s1 q=>Ym q λp s2 F=>?_);obtain⟨U,Z,Y,J,H2,e,E,T,i,f2,W,⟨O,j⟩,turn⟩:=F;subst e;refine T3 c S L t M E T i f2 j turn ?_;intro D C P m N G r u A n a w d;refine⟨m,n,λR f=>⟨.ref D,upd G D (.lst r),?_,rfl,d D w⟩⟩;exact(u.unpinned).turned (λb o k e=>f.extBut b o k e) a.1 a.2.1 a.2.2.2.1 a.2.2.2.2.1 a.2.2.2.2.2
theorem JB{i:Nat}{y:ah}{u d:dk}(hN:X.N.Nodup)(w:X.N[i]?=aA y)(c:X.env.scope.names.lookup y=aA .local)(f:X.calm=aC)(Y:PI X tg iter wi)(S:CompScope X.N X.env.scope scope own fr ix)
  (hg:∀cl C s H ex,PG (Zv X (own++fr) scope cl C s H ex) tg g) (Q:∀cl C s H ex,Oz (Zv X (own++fr) scope cl C s H ex) jr tt) (he:∀cl C s H ex,PE (Zv X (own++fr) scope cl C s H ex) js te)
  (l:fS (.ListComp js [⟨tg,iter,jr,0⟩] scope pos) (aA (.Name y u)) d.line X.env=pure aC:=by rfl)
  (hs:∀x,bI iter X.env x=pure x:=by intro _;rfl):PS X (.Assign [.Name y u] (.ListComp js [⟨tg,iter,jr,0⟩] scope pos) d) (Pb (TZ own.length ix wi g tt te) (VB i)):=by
 intro G s Z H D0 I h;rw[exec_Assign_Name_used _ _ _ _ l];refine aI (iS (aI ?_))
 refine aI (cK (eD rfl hs (XA (S.clos I)) S.kind S.names
  (Ym (Y G s Z H _ I h) λv s1 O=>Ym O λN s2 h2=>?_)) (λ_ A L=>ag (ag L)) λ_ _ e=>e)
 obtain⟨it,fp,tn,J,H2,e,I2,T,q,f2,W,⟨m0,z⟩,turn⟩:=h2;subst e;refine T3 f S hg Q he I2 T q f2 z turn ?_;intro D C r m A H' P R p M a U k;refine wpAny_assign_Name (TR R hN w (.inl c) (v:=.ref D) rfl (λs6 t=>?_) (.inr c));obtain⟨E,_⟩:=t.pin (C,r) (af _ (af _ a0));obtain⟨o',B,ep,j,r'⟩:=M;rw[p] at j;cases j;refine⟨m,⟨r,B,ep,E,r'⟩,λh' n=>⟨_,upd H' D (.lst P),?_,k D U⟩⟩;exact(t.unpinned).turned (λb o F e=>n.extBut b o F e) a.1 a.2.1 a.2.2.2.1 a.2.2.2.2.1 a.2.2.2.2.2
end
open AutoSeq1 (wpAny_loadPart')
section
variable {prog:bH} {w:bu} {A:bc} {E:aF->aL->Prop} {s:aL}
theorem VD{b l:aG}{i:Nat}{items}{x:aF}{Q:aF->aL->Prop}(a:s.heap.IsTupleIter b l i)
  (g:s.heap.IsTuple l items) (k:items[i]?=aA x)
  (h:∀h',h'.IsTupleIter b l (i+1)->cC b s.heap h'->Q x { s with heap:=h' }) :
  az (model prog w) A (gE (.ref b)) Q E s:=by
 obtain⟨o,d,j,c⟩:=id a;obtain⟨n,e,_,m,f⟩:=g
 refine aI (cX a.typeIs F.slot_tuple_iterator_next
  (dt F.slot_tuple_iterator_next a.typeIs F.entry_tuple_iterator_next ?_ (F.args_tuple_iterator_next_1 _)))
 show az _ _ (field (.ref b) 0 >>= _) _ _ s;refine aI (cA d c rfl ?_);refine aI (cA d c rfl ?_);refine aI (cv e f ?_);simp only[eZ,k];refine aI (wpAny_setField d c (by simp) (ag ⟨x,rfl,ag (h _ ?_ (iQ ..))⟩));exact⟨_,gz _ d (c9.isFreed_of_fields (i6 c _)),(c9.cls_mapFields ..).trans j,by rw[i6 c];simp[hV]⟩
theorem Uq{b l:aG}{i:Nat}{items}{Q:aF->aL->Prop}(h:A.handled=none)
  (a:s.heap.IsTupleIter b l i) (j:s.heap.IsTuple l items) (n:items[i]?=none)
  (k:∀h' e,jP b s.heap h'->(∃o,h'.get? e=aA o/\o.cls = .type "StopIteration")->E (.ref e) { s with heap:=h' }) :
  az (model prog w) A (gE (.ref b)) Q E s:=by
 obtain⟨o,g,q,f⟩:=id a;obtain⟨r,c,_,p,d⟩:=j
 refine aI (cX a.typeIs F.slot_tuple_iterator_next
  (dt F.slot_tuple_iterator_next a.typeIs F.entry_tuple_iterator_next ?_ (F.args_tuple_iterator_next_1 _)))
 show az _ _ (field (.ref b) 0 >>= _) _ _ s;refine aI (cA g f rfl ?_);refine aI (cA g f rfl ?_);refine aI (cv c d ?_);simp only[eZ,n];refine aI (j5 (aI (wpAny_setField g f (by simp) ?_)));refine aI ?_;refine aI (m:=firstArgMember _ _) (wpAny_of_eq rfl ?_);refine cY ?_ (by size_fits);refine aI (wpAny_handled ?_)
 first | rw[h] | rw[h]
 refine aI (ag (wpAny_throw ?_));exact k _ _ (((iQ ..).extBut.push _).push _) ⟨_,aY _ rfl,rfl⟩
end
noncomputable def SeqB(b:Bool)(h:bP)(a:aG)(jt:Array aF):Prop:=if b=aC then h.IsList a jt else h.IsTuple a jt
noncomputable def IterB(b:Bool)(h:bP)(it a:aG)(i:Nat):Prop:=if b=aC then h.IsListIter it a i else h.IsTupleIter it a i
noncomputable def Tc(b:Bool)(K:aD)(H:Hp)(a:aG)(xs:List V):Prop:=if b=aC then SqL K H a xs else SqT K H a xs
noncomputable def Wm(b:Bool)(a:aG):c9:={ cls:=.type (if b=aC then "list_iterator" else "tuple_iterator"),data:=.fields #[.ref a,.int 0 0] }
theorem SeqB.at{b:Bool}{h d:bP}{a:aG}{c:Array aF}(x:SeqB b h a c)(k:∀o,h.get? a=aA o->d.get? a=aA o):SeqB b d a c:=by
 cases b with
 | true=>obtain⟨o,e,r⟩:=(x);exact⟨o,k o e,r⟩
 | false=>obtain⟨o,e,r⟩:=(x);exact⟨o,k o e,r⟩
theorem SeqB.has{b:Bool}{h:bP}{a:aG}{c:Array aF}(x:SeqB b h a c):∃o,h.get? a=aA o:=by
 cases b with
 | true=>obtain⟨o,e,r⟩:=(x);exact⟨o,e⟩
 | false=>obtain⟨o,e,r⟩:=(x);exact⟨o,e⟩
theorem IterB.at{b:Bool}{h d:bP}{c a:aG}{i:Nat}(x:IterB b h c a i)(k:∀o,h.get? c=aA o->d.get? c=aA o):IterB b d c a i:=by
 cases b with
 | true=>obtain⟨o,e,r⟩:=(x);exact⟨o,k o e,r⟩
 | false=>obtain⟨o,e,r⟩:=(x);exact⟨o,k o e,r⟩
theorem IterB.has{b:Bool}{h:bP}{c a:aG}{i:Nat}(x:IterB b h c a i):∃o,h.get? c=aA o/\∀v,o.data≠.cell v:=by
 cases b with
 | true=>obtain⟨o,e,_,d⟩:=(x);exact⟨o,e,λv z=>by rw[d] at z;cases z⟩
 | false=>obtain⟨o,e,_,d⟩:=(x);exact⟨o,e,λv z=>by rw[d] at z;cases z⟩
theorem IterB.new{b:Bool}{h:bP}{c a:aG}(e:h.get? c=aA (Wm b a)):IterB b h c a 0:=by
 cases b with
 | true=>exact⟨_,e,rfl,rfl⟩
 | false=>exact⟨_,e,rfl,rfl⟩
section
variable {X:Cx} {jn:List (aG×c9)} {σ:St} {H:Hp} {s:aL} {a:aG} {xs ys:List V} {b:Bool}
theorem Inv.seqB(I:Inv X jn σ H s)(h:Tc b X.K H a xs):∃c:List aF,Vals xs c/\SeqB b s.heap a c.toArray/\xs.length<=sizeLine:=by
 cases b with
 | true=>
  obtain⟨c,r,p,z⟩:=I.list (h);exact⟨c,r,p.isList,z⟩
 | false=>
  obtain⟨c,r,p,z⟩:=I.tuple (h);exact⟨c,r,p,z⟩
theorem Inv.seqB_inj(I:Inv X jn σ H s)(h:Tc b X.K H a xs)(c:Tc b X.K H a ys):xs=ys:=by
 cases b with
 | true=>exact I.list_inj (h) (c)
 | false=>exact I.tuple_inj (h) (c)
end
theorem Draws.seq{prog:bH}{w:bu}{A:bc}(b:Bool)(p:A.handled=none)(f l:aG)(g:l≠f)(a:Array aF) :
  Draws prog w A f [f,l] a.size (λi v=>a[i]?=aA v) (λi h=>IterB b h f l i/\SeqB b h l a) where
 live:=λ_ _ st=>let⟨o,r,_⟩:=st.1.has;⟨o,r⟩
 frame:=λ_ _ _ st q=>⟨st.1.at λo e=>q f (by simp) o e,st.2.at λo e=>q l (by simp) o e⟩
 item:=λi s Q E j st m=>by
  cases b with
  | true=>
   refine wpAny_nextOf_list_item (st.1) (st.2) (x:=a[i]) (by simp[j]) λk d c=>?_;exact m _ k s.toks (by simp[j]) ⟨d,st.2.at λo e=>c.extBut l o g e⟩ c
  | false=>
   refine VD (st.1) (st.2) (x:=a[i]) (by simp[j]) λk d c=>?_;exact m _ k s.toks (by simp[j]) ⟨d,st.2.at λo e=>c.extBut l o g e⟩ c
 done:=λs Q E st n=>by
  cases b with
  | true=>exact wpAny_nextOf_list_end p (st.1) (st.2) (by simp) n
  | false=>exact Uq p (st.1) (st.2) (by simp) n
theorem Z4{prog:bH}{w:bu}{A:bc}{E:aF->aL->Prop}{s:aL}{b:Bool}{a:aG}{d:Array aF}{Q:aF->aL->Prop}(h:SeqB b s.heap a d)
  (c:Q (.ref s.heap.objs.size) { s with heap:=s.heap.push (Wm b a) }):az (model prog w) A (pyIter (.ref a)) Q E s:=by
 cases b with
 | true=>exact wpAny_pyIter_list (h) c
 | false=>exact iV (h) c
set_option maxHeartbeats 4000000 in
theorem T4(b:Bool)(l:aG)(a:Array aF) :
  Meets (iO.«enumerate.__new__» ⟨[.type "enumerate",.ref l],[]⟩) (λ_ R s=>SeqB b s.heap l a/\
   R (.ok (.ret (.ref (s.heap.push (Wm b l)).objs.size)))
    { s with heap:=(s.heap.push (Wm b l)).push { cls:=.type "enumerate",data:=.fields #[.none,.bool aB,.ref s.heap.objs.size,hV 0,.none,.none] } }):=
 .of_wp λprog w A R s h=>by
  obtain⟨k,g,d,tk,os⟩:=s;obtain⟨j,h⟩:=h;have i:=sub_enumerate;obtain⟨o,e⟩:=j.has;have f:SeqB b (jl ⟨k,g,d,tk,os⟩) l a:=j
  wp_walk using fL e
  refine wpAny_stack_any λst=>ag ?_;split
  ·rename_i c _ _ _ _ _;cases (c==jY "enumerate")
   ·wp_walk using fL e,Z4 f
    exact⟨_,rfl,h⟩
   ·wp_walk using fL e,Z4 f
    exact⟨_,rfl,h⟩
  ·wp_walk using fL e,Z4 f
   exact⟨_,rfl,h⟩
section
variable {prog:bH} {w:bu} {A:bc} {E:aF->aL->Prop} {s:aL}
theorem S9{b:Bool}{l:aG}{a:Array aF}{Q:aF->aL->Prop}(f:SeqB b s.heap l a)
  (h:∀h',IsEnum h' (s.heap.objs.size+1) s.heap.objs.size 0 .none->IterB b h' s.heap.objs.size l 0->h'.objs.size=s.heap.objs.size+2->
   (∀b o,s.heap.get? b=aA o->h'.get? b=aA o)->Q (.ref (s.heap.objs.size+1)) { s with heap:=h' }) :
  az (model prog w) A (call (.type "enumerate") [.ref l]) Q E s:=by
 refine callType_new F.called_enumerate rfl (F.typeCall_enumerate_1 _) (F.newCall_enumerate_1 _) (λc=>F.args_object_init_2 c _) F.entry_enumerate_new
  (T4 b l a) ⟨f,?_⟩
 have d:(s.heap.push (Wm b l)).objs.size=s.heap.objs.size+1:=bg ..;rw[d]
 have e:IsEnum ((s.heap.push (Wm b l)).push
   { cls:=.type "enumerate",data:=.fields #[.none,.bool aB,.ref s.heap.objs.size,hV 0,.none,.none] }) (s.heap.objs.size+1) s.heap.objs.size 0 .none:=by
  have:=aY (s.heap.push (Wm b l))
   (o:={ cls:=.type "enumerate",data:=.fields #[.none,.bool aB,.ref s.heap.objs.size,hV 0,.none,.none] }) rfl
  rw[d] at this;exact this
 refine⟨⟨_,e,rfl⟩,h _ e (IterB.new (aE _ (aY _ rfl))) (by simp) λb o x=>aE _ (aE _ x)⟩
end
noncomputable def DC(b:Bool)(K:aD)(a:aG):It:=
  ⟨λi H=>∃xs x,Tc b K H a xs/\xs[i]?=aA x,
   λi H v H'=>∃p x,H p=none/\v = .ref p/\H'=upd H p (.tup [.int i,x])/\∀xs,Tc b K H a xs->xs[i]?=aA x,
   λi H=>∃xs,Tc b K H a xs/\xs.length=i⟩
theorem MG{P:bH}{w:bu}{K:aD}{elts:List au}{k:Nat}{pos:dk}(b:Bool)(a e r:aG)(J:e≠r) :
  Qf P w K (.Tuple elts k pos) (DC b K a) [e,r] e (λi h=>(∃t,IsEnum h e r i t)/\IterB b h r a i) where
 mem:=by simp
 obj:=λi h st c R=>by
  rcases aa.mp R with rfl | R
  ·obtain⟨⟨t,q⟩,_⟩:=st;exact⟨_,q,λv z=>by cases z⟩
  ·rw[av.mp R];exact st.2.has
 keep:=λi h h' st kk=>⟨let⟨t,q⟩:=st.1;⟨t,kk e (by simp) _ q⟩,st.2.at λo q=>kk r (by simp) o q⟩
 item:=by
  intro X hP hw hK R i jn s σ H E I M st hg;subst hP hw hK;obtain⟨xs,x,hq,hx⟩:=hg;obtain⟨S,rv,p,hz⟩:=I.seqB hq;obtain⟨u,hu,ru⟩:=rv.get hx;obtain⟨⟨t,G⟩,l⟩:=st;have fe:=M e (by simp);have fi:=M r (by simp);obtain⟨oa,O⟩:=p.has
  -- the sequence is neither record
  have j:∀c,X2 X jn H c->(∃oc,s.heap.get? c=aA oc/\∃n vs,oc.cls = .type n/\oc.data = .fields vs)->a≠c:=λc _ ⟨oc,Z,n,vs,hn,hv⟩ z=>by
   subst z;rw[O] at Z;cases Z
   cases b with
   | true=>obtain⟨o,F,_,m,d⟩:=(p);rw[O] at F;cases F;rw[hv] at d;cases d
   | false=>obtain⟨o,F,_,m,d⟩:=(p);rw[O] at F;cases F;rw[hv] at d;cases d
  have ae:=j e fe ⟨_,G,_,_,rfl,rfl⟩
  have ai:=j r fi (by
   cases b with
   | true=>obtain⟨o,F,c1,d1⟩:=(l);exact⟨o,F,_,_,c1,d1⟩
   | false=>obtain⟨o,F,c1,d1⟩:=(l);exact⟨o,F,_,_,c1,d1⟩)
  have D:=Draws.seq (prog:=X.prog) (w:=X.w) (A:=X.A.in1) b (I.ok.hd R) r a ai S.toArray;have hlt:i<S.toArray.size:=by have:=(aW.mp hu).1;simpa using this
  refine wpAny_pyNext_enum_itemD D G ⟨l,p⟩ hlt J (by simp[J,ao ae]) λy h' tk hPy ho hs' hT hsz hk=>?_
  have ey:y=u:=by
   have q1:=hPy;have q2:S.toArray[i]?=aA u:=by simpa using hu
   rw[q1] at q2;exact aq q2
  subst ey;refine⟨_,rfl,wpAny_letOwnedTupleGo_enum ho λh2 he2 L=>?_⟩;have Tne:=dm (aP G);have B:=I.hok.fresh (aH _);have kk:∀c o,c∉[e,r]->s.heap.get? c=aA o->h2.get? c=aA o:=λc o g q=>L.extBut c o (λz=>g (by simp[z])) (hk c o (λz=>g (by simp[z])) (λz=>g (by simp[z])) q);have T:=L.extBut _ _ Tne hT;have hcs:∀c∈[e,r],(c∈X.ex\/X.s₀.heap.objs.size<=c)/\c≠X.env.locals/\(∀x d,X.env.cells.lookup x=aA d->d≠c)/\∀p∈X.pn++jn,p.1≠c:=λc g=>by have f:=M c g;exact⟨f.2.2.2.1,f.2.1,f.2.2.2.2.1,f.2.2.2.2.2⟩
  have Y:∀c N,H c=aA N->c∉[e,r]:=λc N q g=>by rw[(M c g).1] at q;cases q
  have hok0:=λc N q=>(I.hok c N q).stay (λd v hd q'=>kk d v (by
    rcases hd with z | z
    ·rw[z];exact Y c N q
    ·exact Y d _ z) q') (λ_ z=>z) (λ_ _ z=>z) λ_ _ z=>z
  have new:ObjOk X.prog X.w (upd H s.heap.objs.size (.tup [.int i,x])) h2 s.heap.objs.size (.tup [.int i,x]):=
   ⟨⟨by show 2<=sizeLine;decide,λo e=>by rw[T] at e;cases e;rfl⟩,[.int i tk,y],.cons ⟨tk,rfl⟩ (.cons ru .nil),⟨_,T,rfl,_,rfl⟩⟩
  have W:HOk X.prog X.w (upd H s.heap.objs.size (.tup [.int i,x])) h2:=λc N q=>by
   by_cases hb:c=s.heap.objs.size
   ·subst hb;rw[Zp] at q;cases q;exact new
   ·rw[upd_ne hb] at q;exact(hok0 c N q).stay (λd v _ q'=>q') (λd z=>by rw[upd_ne (Zm z B)];exact z) (λd zs z=>by rw[upd_ne (Zm z B)];exact z) λd u z=>by rw[upd_ne (Zm z B)];exact z
  have un:Un (Ox X.stack) [e,r] H (upd H s.heap.objs.size (.tup [.int i,x])) s.heap h2:=by
   refine⟨λc o q _ _ C=>kk c o C q,λc o q _ _ C=>⟨o.slots,kk c o C q⟩,λc o q n _=>?_,λc o q C=>⟨o,kk c o C q⟩,λc zs q=>?_,λc o zs q=>?_,λc ps q=>⟨#[],?_⟩⟩
   ·rw[upd_ne (aw (aP q))];exact n
   ·rw[upd_ne (Zm q B)];exact q
   ·rw[upd_ne (Zm q B)];exact q
   ·rw[upd_ne (Zm q B),q];simp
  have I2:Inv X jn σ (upd H s.heap.objs.size (.tup [.int i,x])) { s with heap:=h2,toks:=tk+1 }:=I.call un W I.bare hcs;refine⟨.ref s.heap.objs.size,upd H s.heap.objs.size (.tup [.int i,x]),I2,rfl,⟨_,x,B,rfl,rfl,λzs hzs=>by rw[I.seqB_inj hzs hq];exact hx⟩,⟨⟨y,by simpa using he2⟩,?_⟩,λc g=>?_⟩
  ·exact hs'.1.at λo q=>L.extBut r o (ao J) q
  ·rw[upd_ne (aw (by
    rcases aa.mp g with rfl | g
    ·exact aP G
    ·rw[av.mp g];obtain⟨o,q,_⟩:=l.has;exact aP q))]
   exact(M c g).1
 done:=by
  intro X hP hw hK R i jn s σ H E I M st hg;subst hP hw hK;obtain⟨xs,hq,hx⟩:=hg;obtain⟨S,rv,p,hz⟩:=I.seqB hq;obtain⟨⟨t,G⟩,l⟩:=st;have fi:=M r (by simp)
  have ai:a≠r:=λz=>by
   subst z
   cases b with
   | true=>
    obtain⟨o,F,_,m,d⟩:=(p);obtain⟨o',U,_,d2⟩:=(l);rw[F] at U;cases U;rw[d] at d2;cases d2
   | false=>
    obtain⟨o,F,_,m,d⟩:=(p);obtain⟨o',U,_,d2⟩:=(l);rw[F] at U;cases U;rw[d] at d2;cases d2
  have D:=Draws.seq (prog:=X.prog) (w:=X.w) (A:=X.A.in1) b (I.ok.hd R) r a ai S.toArray;have hl:=rv.length;have hi:i=S.toArray.size:=by simp;omega
  refine wpAny_pyNext_enum_endD D G (by rw[<-hi];exact⟨l,p⟩) λh' C=>⟨rfl,?_⟩;obtain⟨f0,f1,f2,f3,f4,f5⟩:=fi;exact I.turned (λc o hb q=>C c o hb q) f0 f1 f3 f4 f5
 self:=λA i s Q E st hQ=>by obtain⟨⟨t,G⟩,_⟩:=st;exact wpAny_pyIter_enum G hQ
end L2
namespace L2
open PySem PySem.Spec PyProof.Rows
section
variable {X:Cx}
noncomputable def FU(b:Bool)(K:aD)(ta:TA):TI:=λσ H R=>ta σ H λvs H1=>∃a,vs=[.ref a]/\(∃xs,Tc b K H1 a xs)/\R (DC b K a) H1
theorem JC{j:List au}{k:Nat}{i:dk}(b:Bool){a:au}{n:TA}{p f:dk}(D:Gl X "enumerate")(z:X.mg "enumerate" = none)(F:PA X [a] n)(A:aT [a] X.env=[(aB,eval a X.env)]:=by rfl) :
  PI X (.Tuple j k i) (.Call (.Name "enumerate" p) [a] [] f) (FU b X.K n):=by
 intro u s y H R I h;refine Call_ (Vi I D z rfl (cI (Ym (F f u s y H _ I h) λM s1 ⟨vs,v,d,t,x⟩=>?_) A rfl));obtain⟨a,e,⟨O,w⟩,q⟩:=x;subst e
 cases t with
 | cons r rr=>
  cases rr;cases r;obtain⟨J,G,g,N⟩:=d.seqB w;refine S9 g λL o l C E=>?_;refine wpAny_pyIter_enum o ?_;have B:=d.kept (t':=s1.toks) E;have ne:s1.heap.objs.size+1≠s1.heap.objs.size:=dm (gX _);refine⟨s1.heap.objs.size+1,[s1.heap.objs.size+1,s1.heap.objs.size],_,_,v,rfl,B,MG b a (s1.heap.objs.size+1) s1.heap.objs.size ne,⟨⟨.none,o⟩,l⟩,λc m=>?_,q⟩;rcases aa.mp m with rfl | m
  ·exact d.fpOk (iD _) (d.hok.fresh (iD _))
  ·rw[av.mp m];exact d.fpOk (aH _) (d.hok.fresh (aH _))
end
section
variable {prog:bH} {w:bu} {A:bc} {E:aF->aL->Prop} {s:aL}
structure RH(z TI TO i1 i2:aG)(fp1 fp2:List aG):Prop where
 TIz:TI≠z
 TOz:TO≠z
 i1z:i1≠z
 i2z:i2≠z
 TITO:TI≠TO
 TIi1:TI≠i1
 TIi2:TI≠i2
 TOi1:TO≠i1
 TOi2:TO≠i2
 i12:i1≠i2
 z1:z∉fp1
 TO1:TO∉fp1
 i21:i2∉fp1
 z2:z∉fp2
 TO2:TO∉fp2
 i12':i1∉fp2
theorem LI{z TI TO i1 Z:aG}{fp1 fp2:List aG}{n1 n2 k:Nat}{P1 P2:Nat->aF->Prop}{U O:Nat->bP->Prop}{a b:aF}{Q:aF->aL->Prop}(D:RH z TI TO i1 Z fp1 fp2)
  (D1:Draws prog w A i1 fp1 n1 P1 U) (D2:Draws prog w A Z fp2 n2 P2 O)
  (hz:gu s.heap z TI TO .none) (hTI:di s.heap TI (.ref i1) (.ref Z)) (hTO:di s.heap TO a b)
  (h1:U k s.heap) (h2:O k s.heap) (hx:k<n1) (hy:k<n2)
  (hQ:∀x y h' tk,P1 k x->P2 k y->gu h' z TI TO (hV s.heap.objs.size)->di h' TO x y->U (k+1) h'->O (k+1) h'->di h' s.heap.objs.size x y->h'.objs.size=s.heap.objs.size+1->
   (∀c o,c≠z->c≠TO->c≠i1->c≠Z->s.heap.get? c=aA o->h'.get? c=aA o)->Q (.ref s.heap.objs.size) { s with heap:=h',toks:=tk }) :
  az (model prog w) A (iO.«zip.__next__» ⟨[.ref z],[]⟩) (λfin s'=>∃v,fin = .done (.ret v)/\Q v s') E s:=by
 show az _ _ (field (.ref z) 2 >>= _) _ _ _;refine aI (cA hz rfl rfl ?_);refine aI (cA hz rfl rfl ?_);refine aI (cv hTI rfl ?_);refine aI ?_;refine aI (cA hz rfl rfl (ag ?_));refine aI (j5 ?_);refine aI (cA hz rfl rfl ?_);refine aI (cw hz (by simp) λh₁ B l=>?_)
 replace B:gu h₁ z TI TO .ellipsis:=B
 refine aI ?_;refine aI (aI (gP ?_));have st1:=D1.frame _ _ _ h1 λc u o e=>l.extBut c o (λq=>D.z1 (q▸u)) e;refine aI (D1.item k _ _ _ hx st1 λx M tk₂ hPx W g=>ag ?_)
 replace g:cC i1 h₁ M:=g
 have G:=g.extBut _ _ D.TOi1 (l.extBut _ _ D.TOz hTO);refine aI (cv G rfl ?_);refine aI (fF G λH n f=>?_)
 replace n:di H TO x b:=n
 replace f:cC TO M H:=f
 refine aI (jQ (ag ?_));refine aI (aI (gP ?_));have st2:=D2.frame _ _ _ h2 λc u o e=>f.extBut c o (λq=>D.TO2 (q▸u)) (g.extBut c o (λq=>D.i12' (q▸u)) (l.extBut c o (λq=>D.z2 (q▸u)) e));refine aI (D2.item k _ _ _ hy st2 λy L R hPy X d=>ag ?_)
 replace d:cC Z H L:=d
 have C:=d.extBut _ _ D.TOi2 n;refine aI (cv C rfl ?_);refine aI (fF C λi j h=>?_)
 replace j:di i TO x y:=j
 replace h:cC TO L i:=h
 refine aI (jQ (ag (ag ?_)));refine aI (cv j rfl ?_);refine aI (wpAny_newTuple ?_);have hsz:i.objs.size=s.heap.objs.size:=by rw[h.1,d.1,f.1,g.1,l.1]
 have J:=h.extBut _ _ D.TOz.symm (d.extBut _ _ D.i2z.symm (f.extBut _ _ D.TOz.symm (g.extBut _ _ D.i1z.symm B)))
 have P:∀c o,c≠z->c≠TO->c≠i1->c≠Z->s.heap.get? c=aA o->i.get? c=aA o:=λc o c1 c2 c3 c4 e=>
  h.extBut _ _ c2 (d.extBut _ _ c4 (f.extBut _ _ c2 (g.extBut _ _ c3 (l.extBut _ _ c1 e))))
 have S:=D1.frame _ _ _ W λc u o e=>h.extBut c o (λq=>D.TO1 (q▸u)) (d.extBut c o (λq=>D.i21 (q▸u)) (f.extBut c o (λq=>D.TO1 (q▸u)) e));have T:=D2.frame _ _ _ X λc u o e=>h.extBut c o (λq=>D.TO2 (q▸u)) e;have N:=aP J;refine aI ?_;have Y:gu (i.push { cls:=.type "tuple",data:=.seq #[x,y] }) z TI TO .ellipsis:=aE _ J;refine aI (cw Y (by simp) λh₇ t r=>?_)
 replace t:gu h₇ z TI TO (hV i.objs.size):=t
 refine cw t (by simp) λF m p=>?_
 replace m:gu F z TI TO (hV i.objs.size):=m
 have up:∀c o,c≠z->i.get? c=aA o->F.get? c=aA o:=λc o c1 e=>p.extBut _ _ c1 (r.extBut _ _ c1 (aE _ e));have I:=p.extBut _ _ (dm N) (r.extBut _ _ (dm N) (aY _ rfl));have hz8:F.objs.size=i.objs.size+1:=by rw[p.1,r.1,bg]
 rw[hsz] at m I hz8;refine ag ⟨_,rfl,?_⟩;rw[hsz];exact hQ x y F R hPx hPy m (up _ _ D.TOz j) (D1.frame _ _ _ S λc u o e=>up c o (λq=>D.z1 (q▸u)) e) (D2.frame _ _ _ T λc u o e=>up c o (λq=>D.z2 (q▸u)) e) I hz8 λc o c1 c2 c3 c4 e=>up c o c1 (P c o c1 c2 c3 c4 e)
theorem JD{z TI TO F M:aG}{G P:List aG}{S n2 k:Nat}{P1 P2:Nat->aF->Prop}{J H:Nat->bP->Prop}{a b:aF}{Q:PySem.Fin->aL->Prop}(D:RH z TI TO F M G P)
  (Y:Draws prog w A F G S P1 J) (D2:Draws prog w A M P n2 P2 H)
  (L:gu s.heap z TI TO .none) (W:di s.heap TI (.ref F) (.ref M)) (hTO:di s.heap TO a b)
  (h1:J k s.heap) (h2:H k s.heap) (I:k=S\/(k<S/\k=n2))
  (hE:∀h' tk e,(∀c o,c≠z->c≠TO->c≠F->c≠M->s.heap.get? c=aA o->h'.get? c=aA o)->(∃o,h'.get? e=aA o/\o.cls = .type "StopIteration")->E (.ref e) { s with heap:=h',toks:=tk }) :
  az (model prog w) A (iO.«zip.__next__» ⟨[.ref z],[]⟩) Q E s:=by
 show az _ _ (field (.ref z) 2 >>= _) _ _ _;refine aI (cA L rfl rfl ?_);refine aI (cA L rfl rfl ?_);refine aI (cv W rfl ?_);refine aI ?_;refine aI (cA L rfl rfl (ag ?_));refine aI (j5 ?_);refine aI (cA L rfl rfl ?_);refine aI (cw L (by simp) λh₁ j g=>?_)
 replace j:gu h₁ z TI TO .ellipsis:=j
 replace g:cC z s.heap h₁:=g
 refine aI ?_;refine aI (aI (gP ?_));have B:=Y.frame _ _ _ h1 λc O o e=>g.extBut c o (λq=>D.z1 (q▸O)) e;rcases I with Z | ⟨hx,Z⟩
 ·rw[Z] at B;refine aI (Y.done _ _ _ B λm e d he=>?_)
  replace d:jP F h₁ m:=d
  obtain⟨X,n,u⟩:=he;have t:=d _ _ D.i1z.symm j;have C:e≠z:=λx=>by subst x;rw[t] at n;cases n;simp at u
  refine cw t (by simp) λl _ f=>?_
  replace f:cC z m l:=f
  exact hE l _ e (λc o c1 _ c3 _ x=>f.extBut _ _ c1 (d _ _ c3 (g.extBut _ _ c1 x))) ⟨X,f.extBut _ _ C n,u⟩
 ·refine aI (Y.item k _ _ _ hx B λx m T hPx U d=>ag ?_)
  replace d:cC F h₁ m:=d
  have p:=d.extBut _ _ D.TOi1 (g.extBut _ _ D.TOz hTO);refine aI (cv p rfl ?_);refine aI (fF p λl R f=>?_)
  replace f:cC TO m l:=f
  refine aI (jQ (ag ?_));refine aI (aI (gP ?_));have N:=D2.frame _ _ _ h2 λc O o e=>f.extBut c o (λq=>D.TO2 (q▸O)) (d.extBut c o (λq=>D.i12' (q▸O)) (g.extBut c o (λq=>D.z2 (q▸O)) e));rw[Z] at N;refine aI (D2.done _ _ _ N λy e h he=>?_)
  replace h:jP M l y:=h
  obtain⟨X,n,u⟩:=he;have r:=h _ _ D.i2z.symm (f.extBut _ _ D.TOz.symm (d.extBut _ _ D.i1z.symm j));have C:e≠z:=λx=>by subst x;rw[r] at n;cases n;simp at u
  refine cw r (by simp) λv _ i=>?_
  replace i:cC z y v:=i
  exact hE v _ e (λc o c1 c2 c3 c4 x=>i.extBut _ _ c1 (h _ _ c4 (f.extBut _ _ c2 (d.extBut _ _ c3 (g.extBut _ _ c1 x))))) ⟨X,i.extBut _ _ C n,u⟩
theorem Td{z TI TO i j:aG}{g h:List aG}{n q k:Nat}{u p:Nat->aF->Prop}{f e:Nat->bP->Prop}{a b:aF}{Q:Option aF->aL->Prop}(D:RH z TI TO i j g h)
  (R:Draws prog w A.in1 i g n u f) (N:Draws prog w A.in1 j h q p e)
  (r:gu s.heap z TI TO .none) (l:di s.heap TI (.ref i) (.ref j)) (m:di s.heap TO a b)
  (L:f k s.heap) (S:e k s.heap) (M:k<n) (v:k<q)
  (C:∀x y d tk,u k x->p k y->gu d z TI TO (hV s.heap.objs.size)->di d TO x y->f (k+1) d->e (k+1) d->di d s.heap.objs.size x y->d.objs.size=s.heap.objs.size+1->
   (∀c o,c≠z->c≠TO->c≠i->c≠j->s.heap.get? c=aA o->d.get? c=aA o)->Q (aA (.ref s.heap.objs.size)) { s with heap:=d,toks:=tk }) :
  az (model prog w) A (jh (.ref z)) Q E s:=by
 have t:s.TypeIs (.ref z) "zip":=⟨_,r,rfl⟩
 exact aI (wpAny_attempt (cX t F.slot_zip_next
  (dt F.slot_zip_next t F.entry_zip_next
   (LI D R N r l m L S M v λx y d tk G p2 H I O P B T J=>ag (C x y d tk G p2 H I O P B T J)) (F.args_zip_next_1 _))))
theorem T5{z TI TO j l:aG}{d i:List aG}{m r k:Nat}{J y:Nat->aF->Prop}{h f:Nat->bP->Prop}{a b:aF}{Q:Option aF->aL->Prop}(D:RH z TI TO j l d i)
  (C:Draws prog w A.in1 j d m J h) (B:Draws prog w A.in1 l i r y f)
  (t:gu s.heap z TI TO .none) (p:di s.heap TI (.ref j) (.ref l)) (q:di s.heap TO a b)
  (x:h k s.heap) (I:f k s.heap) (g:k=m\/(k<m/\k=r))
  (v:∀n tk,(∀c o,c≠z->c≠TO->c≠j->c≠l->s.heap.get? c=aA o->n.get? c=aA o)->Q none { s with heap:=n,toks:=tk }):az (model prog w) A (jh (.ref z)) Q E s:=by
 have u:s.TypeIs (.ref z) "zip":=⟨_,t,rfl⟩
 refine aI (wpAny_attempt (cX u F.slot_zip_next
  (dt F.slot_zip_next u F.entry_zip_next (JD D C B t p q x I g λn tk e L M=>?_) (F.args_zip_next_1 _))))
 obtain⟨o,G,H⟩:=M;refine aI (wpAny_isInstance ⟨o,G,H⟩ isSubtype_stop ?_);exact ag (v _ tk L)
end
abbrev Es(h:bP)(b1:Bool)(l1:aG):bP:=h.push (Wm b1 l1)
abbrev Et(h:bP)(b1 b2:Bool)(l1 l2:aG):bP:=(Es h b1 l1).push (Wm b2 l2)
abbrev Eu(h:bP)(b1 b2:Bool)(l1 l2:aG):bP:=(Et h b1 b2 l1 l2).push { cls:=.type "tuple",data:=.seq #[.ref h.objs.size,.ref (Es h b1 l1).objs.size] }
abbrev Ew(h:bP)(b1 b2:Bool)(l1 l2:aG):bP:=(Eu h b1 b2 l1 l2).push { cls:=.type "tuple",data:=.seq #[.none,.none] }
abbrev Gm(h:bP)(b1 b2:Bool)(l1 l2:aG):bP:=(Ew h b1 b2 l1 l2).push { cls:=.type "zip",data:=.fields #[.none,.bool aB,.bool aB,.ref (Et h b1 b2 l1 l2).objs.size,.ref (Eu h b1 b2 l1 l2).objs.size] }
theorem Ra(c f:Bool)(b a:aG)(q n:Array aF) :
  Meets (iO.«zip.__new__» ⟨[.type "zip",.ref b,.ref a],[]⟩) (λ_ R s=>SeqB c s.heap b q/\SeqB f s.heap a n/\
   R (.ok (.ret (.ref (Ew s.heap c f b a).objs.size))) { s with heap:=Gm s.heap c f b a }):=
 .of_wp λprog w A R s h=>by
  obtain⟨p,g,d,tk,os⟩:=s;obtain⟨k,j,h⟩:=h;have m:=sub_zip;have l:=k;have i:SeqB f (jl ⟨p.push (Wm c b),g,d,tk,os⟩) a n:=j.at λo e=>aE _ e
  wp_walk using Z4 l,Z4 i
  exact⟨_,rfl,h⟩
section
variable {prog:bH} {w:bu} {A:bc} {E:aF->aL->Prop} {s:aL}
theorem Qm{b e:Bool}{a d:aG}{t u:Array aF}{Q:aF->aL->Prop}(k:SeqB b s.heap a t)(f:SeqB e s.heap d u)
  (h:∀h',gu h' (s.heap.objs.size+4) (s.heap.objs.size+2) (s.heap.objs.size+3) .none->di h' (s.heap.objs.size+2) (.ref s.heap.objs.size) (.ref (s.heap.objs.size+1))->
   di h' (s.heap.objs.size+3) .none .none->IterB b h' s.heap.objs.size a 0->IterB e h' (s.heap.objs.size+1) d 0->h'.objs.size=s.heap.objs.size+5->
   (∀c o,s.heap.get? c=aA o->h'.get? c=aA o)->Q (.ref (s.heap.objs.size+4)) { s with heap:=h' }) :
  az (model prog w) A (call (.type "zip") [.ref a,.ref d]) Q E s:=by
 refine callType_new F.called_zip rfl (F.typeCall_zip_2 _ _) (F.newCall_zip_2 _ _) (λm=>F.args_object_init_3 m _ _) F.entry_zip_new
  (Ra b e a d t u) ⟨k,f,?_⟩
 have n:(Es s.heap b a).objs.size=s.heap.objs.size+1:=bg ..;have l:(Et s.heap b e a d).objs.size=s.heap.objs.size+2:=by rw[bg,n]
 have j:(Eu s.heap b e a d).objs.size=s.heap.objs.size+3:=by rw[bg,l]
 have g:(Ew s.heap b e a d).objs.size=s.heap.objs.size+4:=by rw[bg,j]
 have v:(Gm s.heap b e a d).objs.size=s.heap.objs.size+5:=by rw[bg,g]
 have i:(Gm s.heap b e a d).get? (Ew s.heap b e a d).objs.size=aA _:=aY _ rfl;have r:(Gm s.heap b e a d).get? (Eu s.heap b e a d).objs.size=aA _:=aE _ (aY _ rfl);have q:(Gm s.heap b e a d).get? (Et s.heap b e a d).objs.size=aA _:=aE _ (aE _ (aY _ rfl));have p:(Gm s.heap b e a d).get? (Es s.heap b a).objs.size=aA (Wm e d):=aE _ (aE _ (aE _ (aY _ rfl)));have y:(Gm s.heap b e a d).get? s.heap.objs.size=aA (Wm b a):=aE _ (aE _ (aE _ (aE _ (aY _ rfl))));rw[l,j,g] at i;rw[n,l] at q;rw[j] at r;rw[n] at p;rw[g]
 exact⟨⟨_,i,rfl⟩,h _ i q r (IterB.new y) (IterB.new p) v λc o x=>
  aE _ (aE _ (aE _ (aE _ (aE _ x))))⟩
end
theorem Inv.newTup{X:Cx}{w:List (aG×c9)}{E:St}{H:Hp}{s:aL}{t:List aG}{k:bP}{tk n:Nat}{A:List aF}{j:List V}(I:Inv X w E H s)(D:∀b∈t,X2 X w H b)
  (kk:∀c o,c∉t->s.heap.get? c=aA o->k.get? c=aA o) (G:k.get? s.heap.objs.size=aA { cls:=.type "tuple",data:=.seq A.toArray n }) (J:Vals j A) (L:j.length<=sizeLine) :
  Inv X w E (upd H s.heap.objs.size (.tup j)) { s with heap:=k,toks:=tk }:=by
 have a:=I.hok.fresh (aH _);have y:∀c∈t,(c∈X.ex\/X.s₀.heap.objs.size<=c)/\c≠X.env.locals/\(∀x d,X.env.cells.lookup x=aA d->d≠c)/\∀p∈X.pn++w,p.1≠c:=λc i=>by have f:=D c i;exact⟨f.2.2.2.1,f.2.1,f.2.2.2.2.1,f.2.2.2.2.2⟩
 have l:∀c h,H c=aA h->c∉t:=λc h q i=>by rw[(D c i).1] at q;cases q
 have m:=λc h q=>(I.hok c h q).stay (λd v M B=>kk d v (by
   rcases M with z | z
   ·rw[z];exact l c h q
   ·exact l d _ z) B) (λ_ z=>z) (λ_ _ z=>z) λ_ _ z=>z
 have new:ObjOk X.prog X.w (upd H s.heap.objs.size (.tup j)) k s.heap.objs.size (.tup j):=
  ⟨⟨L,λo e=>by rw[G] at e;cases e;rfl⟩,A,J,⟨_,G,rfl,_,rfl⟩⟩
 have r:HOk X.prog X.w (upd H s.heap.objs.size (.tup j)) k:=λc h q=>by
  by_cases C:c=s.heap.objs.size
  ·subst C;rw[Zp] at q;cases q;exact new
  ·rw[upd_ne C] at q;exact(m c h q).stay (λd v _ B=>B) (λd z=>by rw[upd_ne (Zm z a)];exact z) (λd F z=>by rw[upd_ne (Zm z a)];exact z) λd u z=>by rw[upd_ne (Zm z a)];exact z
 have un:Un (Ox X.stack) t H (upd H s.heap.objs.size (.tup j)) s.heap k:=by
  refine⟨λc o q _ _ g=>kk c o g q,λc o q _ _ g=>⟨o.slots,kk c o g q⟩,λc o q n _=>?_,λc o q g=>⟨o,kk c o g q⟩,λc F q=>?_,λc o F q=>?_,λc N q=>⟨#[],?_⟩⟩
  ·rw[upd_ne (aw (aP q))];exact n
  ·rw[upd_ne (Zm q a)];exact q
  ·rw[upd_ne (Zm q a)];exact q
  ·rw[upd_ne (Zm q a),q];simp
 exact I.call un r I.bare y
theorem Inv.turnedL{X:Cx}{k:List (aG×c9)}{t:St}{H:Hp}{s:aL}{j:List aG}{m:bP}{tk:Nat}(I:Inv X k t H s)(r:∀b∈j,X2 X k H b)
  (kk:∀c o,c∉j->s.heap.get? c=aA o->m.get? c=aA o):Inv X k t H { s with heap:=m,toks:=tk }:=by
 have l:∀c∈j,(c∈X.ex\/X.s₀.heap.objs.size<=c)/\c≠X.env.locals/\(∀x d,X.env.cells.lookup x=aA d->d≠c)/\∀p∈X.pn++k,p.1≠c:=λc e=>by have f:=r c e;exact⟨f.2.2.2.1,f.2.1,f.2.2.2.2.1,f.2.2.2.2.2⟩
 have g:∀c h,H c=aA h->c∉j:=λc h q e=>by rw[(r c e).1] at q;cases q
 have i:=λc h q=>(I.hok c h q).stay (λd v u w=>kk d v (by
   rcases u with z | z
   ·rw[z];exact g c h q
   ·exact g d _ z) w) (λ_ z=>z) (λ_ _ z=>z) λ_ _ z=>z
 have un:Un (Ox X.stack) j H H s.heap m:=
  ⟨λc o q _ _ a=>kk c o a q,λc o q _ _ a=>⟨o.slots,kk c o a q⟩,λc o q n _=>n,λc o q a=>⟨o,kk c o a q⟩,λc y q=>q,λc o y q=>q,λc A q=>⟨#[],by rw[q];simp⟩⟩
 exact I.call un i I.bare l
theorem SeqB.ne_rec{b:Bool}{h:bP}{a c:aG}{j:Array aF}{o:c9}{vs:Array aF}(p:SeqB b h a j)(e:h.get? c=aA o)(d:o.data = .fields vs):a≠c:=λz=>by
 subst z
 cases b with
 | true=>obtain⟨i,g,_,m,f⟩:=(p);rw[e] at g;cases g;rw[d] at f;cases f
 | false=>obtain⟨i,g,_,m,f⟩:=(p);rw[e] at g;cases g;rw[d] at f;cases f
theorem IterB.rec{b:Bool}{h:bP}{c a:aG}{i:Nat}(x:IterB b h c a i):∃o,h.get? c=aA o/\∃vs,o.data = .fields vs:=by
 cases b with
 | true=>obtain⟨o,e,_,d⟩:=(x);exact⟨o,e,_,d⟩
 | false=>obtain⟨o,e,_,d⟩:=(x);exact⟨o,e,_,d⟩
structure Gn(a1 a2 TO TI:aG):Prop where
 a:a1≠TO
 b:a2≠TO
 c:a1≠TI
 d:a2≠TI
noncomputable def DD(b1 b2:Bool)(K:aD)(a1 a2:aG):It:=
  ⟨λi H=>∃xs ys x y,Tc b1 K H a1 xs/\Tc b2 K H a2 ys/\xs[i]?=aA x/\ys[i]?=aA y,
   λi H v H'=>∃p x y,H p=none/\v = .ref p/\H'=upd H p (.tup [x,y])/\(∀xs,Tc b1 K H a1 xs->xs[i]?=aA x)/\∀ys,Tc b2 K H a2 ys->ys[i]?=aA y,
   λi H=>∃xs ys,Tc b1 K H a1 xs/\Tc b2 K H a2 ys/\(i=xs.length\/(i<xs.length/\i=ys.length))⟩
theorem LJ{P:bH}{w:bu}{K:aD}{elts:List au}{k:Nat}{pos:dk}(b1 b2:Bool)(a1 a2 z TI TO G F:aG)(d:[z,TI,TO,G,F].Nodup) :
  Qf P w K (.Tuple elts k pos) (DD b1 b2 K a1 a2) [z,TI,TO,G,F] z
   (λi h=>gu h z TI TO .none/\di h TI (.ref G) (.ref F)/\(∃u v,di h TO u v/\Gn a1 a2 TO TI)/\IterB b1 h G a1 i/\IterB b2 h F a2 i) where
 mem:=by simp
 obj:=λi h st c Y=>by
  obtain⟨t,b,⟨u,v,n,_⟩,U,W⟩:=st;simp only[aa,cG,or_false] at Y;rcases Y with rfl | rfl | rfl | rfl | rfl
  ·exact⟨_,t,λv q=>by cases q⟩
  ·exact⟨_,b,λv q=>by cases q⟩
  ·exact⟨_,n,λv q=>by cases q⟩
  ·exact U.has
  ·exact W.has
 keep:=λi h h' st kk=>by obtain⟨t,b,⟨u,v,n,f⟩,U,W⟩:=st;exact⟨kk z (by simp) _ t,kk TI (by simp) _ b,⟨u,v,kk TO (by simp) _ n,f⟩,U.at λo q=>kk G (by simp) o q,W.at λo q=>kk F (by simp) o q⟩
 item:=by
  intro X hP hw hK Y i jn s σ H E I hf st hg;subst hP hw hK;obtain⟨xs,ys,x,y,R,M,hx,hy⟩:=hg;obtain⟨l,rv1,T,hz1⟩:=I.seqB R;obtain⟨g,rv2,p2,hz2⟩:=I.seqB M;obtain⟨u,hu,ru⟩:=rv1.get hx;obtain⟨v,hv,rv⟩:=rv2.get hy;obtain⟨t,b,⟨q1,q2,n,f⟩,U,W⟩:=st;obtain⟨o1,e1,vs1,d1⟩:=U.rec;obtain⟨o2,e2,vs2,d2⟩:=W.rec;have A1z:=T.ne_rec t rfl;have A2z:=p2.ne_rec t rfl;have Z:=T.ne_rec e1 d1;have A12:=T.ne_rec e2 d2;have A21:=p2.ne_rec e1 d1;have A22:=p2.ne_rec e2 d2;simp only[bM,aa,cG,not_or,cW,and_true,not_false_eq_true] at d;obtain⟨⟨m,r,C,B⟩,⟨N,O,S⟩,⟨J,L⟩,p⟩:=d;obtain⟨f1,f2,f3,f4⟩:=f;have D:RH z TI TO G F [G,a1] [F,a2]:=⟨ao m,ao r,ao C,ao B,N,O,S,J,L,p,by simp[C,ao A1z],by simp[J,ao f1],by simp[ao p,ao A12],by simp[B,ao A2z],by simp[L,ao f2],by simp[p,ao A21]⟩;have D1:=Draws.seq (prog:=X.prog) (w:=X.w) (A:=X.A.in1) b1 (I.ok.hd Y) G a1 Z l.toArray;have D2:=Draws.seq (prog:=X.prog) (w:=X.w) (A:=X.A.in1) b2 (I.ok.hd Y) F a2 A22 g.toArray;have l1:i<l.toArray.size:=by simpa using(aW.mp hu).1
  have l2:i<g.toArray.size:=by simpa using(aW.mp hv).1
  refine Td D D1 D2 t b n ⟨U,T⟩ ⟨W,p2⟩ l1 l2 λx' y' h' tk hPx hPy c1 c2 c3 c4 c5 c6 hk=>?_
  have ex':x'=u:=by
   have w1:=hPx;have w2:l.toArray[i]?=aA u:=by simpa using hu
   rw[w1] at w2;exact aq w2
  have ey':y'=v:=by
   have w1:=hPy;have w2:g.toArray[i]?=aA v:=by simpa using hv
   rw[w1] at w2;exact aq w2
  subst ex' ey';refine⟨_,rfl,wpAny_letOwnedTupleGo_zip c1 λh3 hz3 j=>?_⟩
  replace j:cC z h' h3:=j
  have kk:∀c o,c∉[z,TI,TO,G,F]->s.heap.get? c=aA o->h3.get? c=aA o:=λc o a q=>
   j.extBut c o (λe=>a (by simp[e])) (hk c o (λe=>a (by simp[e])) (λe=>a (by simp[e])) (λe=>a (by simp[e])) (λe=>a (by simp[e])) q)
  have hTn:=I.hok.fresh (aH _);have hT3:=j.extBut _ _ (dm (aP t)) c5;have I2:=I.newTup (tk:=tk) hf kk hT3 (.cons ru (.cons rv .nil)) (by show 2<=sizeLine;decide);refine⟨.ref s.heap.objs.size,_,I2,rfl,⟨_,x,y,hTn,rfl,rfl,λzs hzs=>by rw[I.seqB_inj hzs R];exact hx,λzs hzs=>by rw[I.seqB_inj hzs M];exact hy⟩,⟨hz3,j.extBut _ _ (ao m) (hk _ _ (ao m) N O S b),⟨_,_,j.extBut _ _ (ao r) c2,f1,f2,f3,f4⟩,c3.1.at λo q=>j.extBut _ o (ao C) q,c4.1.at λo q=>j.extBut _ o (ao B) q⟩,λc a=>?_⟩;rw[upd_ne (aw ?_)]
  ·exact(hf c a).1
  ·simp only[aa,cG,or_false] at a;rcases a with rfl | rfl | rfl | rfl | rfl
   ·exact aP t
   ·exact aP b
   ·exact aP n
   ·exact aP e1
   ·exact aP e2
 done:=by intro X hP hw hK Y i jn s σ H E I hf st hg;subst hP hw hK;obtain⟨xs,ys,R,M,hx⟩:=hg;obtain⟨l,rv1,T,hz1⟩:=I.seqB R;obtain⟨g,rv2,p2,hz2⟩:=I.seqB M;obtain⟨t,b,⟨q1,q2,n,f⟩,U,W⟩:=st;obtain⟨o1,e1,vs1,d1⟩:=U.rec;obtain⟨o2,e2,vs2,d2⟩:=W.rec;have A1z:=T.ne_rec t rfl;have A2z:=p2.ne_rec t rfl;have Z:=T.ne_rec e1 d1;have A12:=T.ne_rec e2 d2;have A21:=p2.ne_rec e1 d1;have A22:=p2.ne_rec e2 d2;simp only[bM,aa,cG,not_or,cW,and_true,not_false_eq_true] at d;obtain⟨⟨m,r,C,B⟩,⟨N,O,S⟩,⟨J,L⟩,p⟩:=d;obtain⟨f1,f2,f3,f4⟩:=f;have D:RH z TI TO G F [G,a1] [F,a2]:=⟨ao m,ao r,ao C,ao B,N,O,S,J,L,p,by simp[C,ao A1z],by simp[J,ao f1],by simp[ao p,ao A12],by simp[B,ao A2z],by simp[L,ao f2],by simp[p,ao A21]⟩;have D1:=Draws.seq (prog:=X.prog) (w:=X.w) (A:=X.A.in1) b1 (I.ok.hd Y) G a1 Z l.toArray;have D2:=Draws.seq (prog:=X.prog) (w:=X.w) (A:=X.A.in1) b2 (I.ok.hd Y) F a2 A22 g.toArray;have n1:=rv1.length;have n2:=rv2.length;refine T5 D D1 D2 t b n ⟨U,T⟩ ⟨W,p2⟩ (by simp only[aO];omega) λh' tk hk=>⟨rfl,?_⟩;exact I.turnedL hf λc o a q=>hk c o (λe=>a (by simp[e])) (λe=>a (by simp[e])) (λe=>a (by simp[e])) (λe=>a (by simp[e])) q
 self:=λA i s Q E st hQ=>wpAny_pyIter_zip st.1 hQ
section
variable {X:Cx}
noncomputable def E9(b1 b2:Bool)(K:aD)(ta:TA):TI:=λσ H R=>ta σ H λvs H1=>∃a1 a2,vs=[.ref a1,.ref a2]/\(∃xs,Tc b1 K H1 a1 xs)/\(∃ys,Tc b2 K H1 a2 ys)/\R (DD b1 b2 K a1 a2) H1
theorem Gp{t:List au}{k:Nat}{m:dk}(z J:Bool){a b:au}{C:TA}{p f:dk}(hg:Gl X "zip")(U:X.mg "zip" = none)(ha:PA X [a,b] C)
  (W:aT [a,b] X.env=[(aB,eval a X.env),(aB,eval b X.env)]:=by rfl) (l:aT [b] X.env=[(aB,eval b X.env)]:=by rfl) :
  PI X (.Tuple t k m) (.Call (.Name "zip" p) [a,b] [] f) (E9 z J X.K C):=by
 intro N s S H R I h;refine Call_ (Vi I hg U boot_zip (cI (Ym (ha f N s S H _ I h) λus s1 ⟨vs,O,o,L,Q⟩=>?_) (by rw[W,l]) (by rw[l];rfl)));obtain⟨v,w,e,⟨xs,y⟩,⟨ys,x⟩,q⟩:=Q;subst e
 cases L with
 | cons r rr=>
  cases rr with
  | cons r' rr=>
   cases rr;cases r;cases r';obtain⟨D,T,A,_⟩:=o.seqB y;obtain⟨B,Z,p2,_⟩:=o.seqB x;refine Qm A p2 λh' c1 c2 c3 c4 c5 c6 hk=>?_;refine wpAny_pyIter_zip c1 ?_;have Y:=o.kept (t':=s1.toks) hk;have E:=let⟨_,e⟩:=A.has;aP e;have G:=let⟨_,e⟩:=p2.has;aP e;generalize P:s1.heap.objs.size=n at *;have ne:∀(a:aG)(j:Nat),a<n->a≠n+j:=λa j h=>aw (aZ h (dM _ _));have M:([n+4,n+2,n+3,n,n+1]:List aG).Nodup:=by have d:∀(i j:Nat),i≠j->(n+i:Nat)≠n+j:=λi j h e=>h (iR e);have u:∀(i:Nat),i≠0->(n+i:Nat)≠n:=λi h e=>h (iR (e.trans (Nat.add_zero n).symm));simp only[bM,aa,cG,not_or,cW,and_true,not_false_eq_true];exact⟨⟨d 4 2 (by decide),d 4 3 (by decide),u 4 (by decide),d 4 1 (by decide)⟩,⟨d 2 3 (by decide),u 2 (by decide),d 2 1 (by decide)⟩,⟨u 3 (by decide),d 3 1 (by decide)⟩,(u 1 (by decide)).symm⟩
   refine⟨n+4,[n+4,n+2,n+3,n,n+1],_,_,O,rfl,Y,LJ z J v w (n+4) (n+2) (n+3) n (n+1) M,⟨c1,c2,⟨_,_,c3,ne v 3 E,ne w 3 G,ne v 2 E,ne w 2 G⟩,c4,c5⟩,λc F=>?_,q⟩
   have g:s1.heap.objs.size<=c:=by
    rw[P];simp only[aa,cG,or_false] at F;rcases F with rfl | rfl | rfl | rfl | rfl
    ·exact dM _ _
    ·exact dM _ _
    ·exact dM _ _
    ·exact aH _
    ·exact dM _ _
   exact o.fpOk g (o.hok.fresh g)
end
theorem Walks.seqB{prog:bH}{w:bu}{A:bc}(b:Bool)(e:A.handled=none)(I c:aG)(d:c≠I)(a:Array aF) :
  Walks prog w A I [I,c] [I] a.size (λi v=>a[i]?=aA v) (λi h=>IterB b h I c i/\SeqB b h c a):=by
 cases b with
 | true=>exact Walks.list e I c d a
 | false=>exact Walks.tuple e I c d a
section
variable {X:Cx}
theorem WU(J:X.calm=aC):YT X (.builtin "sum") (λz H Q=>∃(b:Bool) (p:aG) (a:List Int),z=[.ref p]/\Tc b X.K H p (a.map V.int)/\Q (.int a.sum) H):=by
 intro L s P H z N Q I r h;obtain⟨b,p,a,rfl,D,q⟩:=h;obtain⟨u,rfl,C⟩:=Vc r;cases C;obtain⟨n,m,d,O⟩:=I.seqB D;have w:=let⟨_,e⟩:=d.has;aP e;refine call_sum_walkG (Z4 d ?_);refine⟨_,_,_,_,_,_,λi=>a.getD i 0,rfl,Walks.seqB (A:=X.A.in1) b (I.ok.hd J) s.heap.objs.size p (aw w) n.toArray,⟨IterB.new (aY _ rfl),d.at λo e=>aE _ e⟩,λc f=>?_,λi v j=>?_,λM tk t' B=>?_⟩
 ·show c<(s.heap.push _).objs.size;rw[bg];rcases aa.mp f with rfl | f
  ·exact gX _
  ·rw[av.mp f];exact Nat.lt_succ_of_lt w
 ·have j:=j;have j:n[i]?=aA v:=by simpa using j
  have l:=m.length;rw[aS] at l;have F:i<a.length:=by rw[l];exact(aW.mp j).1
  obtain⟨u,y,E⟩:=m.get (i:=i) (x:=.int a[i]) (by simp);rw[j] at y;cases y;obtain⟨t,rfl⟩:=E;refine⟨t,?_⟩;show jE a[i] t=jE (a.getD i 0) t;rw[aN,aM F];rfl
 ·have e:preSum (λi=>a.getD i 0) n.toArray.size=a.sum:=by
   have l:=m.length;rw[aS] at l;rw[aO,<-l]
   have gen:∀k,k<=a.length->preSum (λi=>a.getD i 0) k=(a.take k).sum:=by
    intro k
    induction k with
    | zero=>intro _;simp[preSum]
    | succ k ih=>
     intro B;rw[preSum,ih (by omega),List.take_add_one,aN,aM (by omega),jT];simp
   rw[gen _ (aH _),jL]
  rw[e];refine⟨.int a.sum,H,I.kept (λc o g=>B c o ?_ (aE _ g)),⟨_,rfl⟩,q⟩;intro G;rw[av.mp G] at g;exact absurd (aP g) (bh _)
theorem Ur(E:X.calm=aC):YT X (.builtin "all") (λn H Q=>∃(b:Bool) (p:aG) (bs:List Bool),n=[.ref p]/\Tc b X.K H p (bs.map V.bl)/\Q (.bl (bs.all id)) H):=by
 intro L s R H n O Q I r h;obtain⟨b,p,bs,rfl,y,q⟩:=h;obtain⟨u,rfl,w⟩:=Vc r;cases w;obtain⟨j,l,a,P⟩:=I.seqB y;have C:=let⟨_,e⟩:=a.has;aP e;have k:=l.length;rw[aS] at k;refine call_all_walk (Z4 a ?_);refine⟨_,_,_,_,_,_,λi=>bs.getD i aC,rfl,Walks.seqB (A:=X.A.in1) b (I.ok.hd E) s.heap.objs.size p (aw C) j.toArray,⟨IterB.new (aY _ rfl),a.at λo e=>aE _ e⟩,λi v G M J g t=>?_,λN tk F=>?_⟩
 ·have g:=g;have g:j[i]?=aA v:=by simpa using g
  have d:i<bs.length:=by rw[k];exact(aW.mp g).1
  obtain⟨u,m,B⟩:=l.get (i:=i) (x:=.bl bs[i]) (by simp);rw[g] at m;cases m;cases B;refine cL ?_;have e:bs.getD i aC=bs[i]:=by rw[aN,aM d];rfl
  rw[<-e];exact t
 ·have e:(aJ j.toArray.size).all (λi=>bs.getD i aC)=bs.all id:=by
   rw[aO,<-k,gv,ak,ak];constructor
   ·intro h x z;obtain⟨i,d,rfl⟩:=fG.mp z;have:=h i (aX.mpr d);rw[aN,aM d] at this;exact this
   ·intro h i d;have d:=aX.mp d;rw[aN,aM d];exact h _ (dN d)
  rw[e];refine⟨.bl (bs.all id),H,I.kept (λc o f=>F c o ?_ (aE _ f)),rfl,q⟩;intro D;rw[av.mp D] at f;exact absurd (aP f) (bh _)
theorem MH(E:X.calm=aC):YT X (.builtin "any") (λn H Q=>∃(b:Bool) (p:aG) (bs:List Bool),n=[.ref p]/\Tc b X.K H p (bs.map V.bl)/\Q (.bl (bs.any id)) H):=by
 intro L s R H n O Q I r h;obtain⟨b,p,bs,rfl,y,q⟩:=h;obtain⟨u,rfl,w⟩:=Vc r;cases w;obtain⟨j,l,a,P⟩:=I.seqB y;have C:p<s.heap.objs.size:=let⟨_,e⟩:=a.has;aP e;have k:=l.length;rw[aS] at k;refine call_any_walk (Z4 a ?_);refine⟨_,_,_,_,_,_,λi=>bs.getD i aC,rfl,Walks.seqB (A:=X.A.in1) b (I.ok.hd E) s.heap.objs.size p (aw C) j.toArray,⟨IterB.new (aY _ rfl),a.at λo e=>aE _ e⟩,λi v G M J g t=>?_,λN tk F=>?_⟩
 ·have g:j.toArray[i]?=aA v:=g;have g:j[i]?=aA v:=by simpa using g
  have d:i<bs.length:=by rw[k];exact(aW.mp g).1
  obtain⟨u,m,B⟩:=l.get (i:=i) (x:=.bl bs[i]) (by rw[aR,aM d];rfl);rw[g] at m;cases m;cases B;refine cL ?_;have e:bs.getD i aC=bs[i]:=by rw[aN,aM d];rfl
  rw[<-e];exact t
 ·have e:(aJ j.toArray.size).any (λi=>bs.getD i aC)=bs.any id:=by
   rw[aO,<-k,gv,du,du];constructor
   ·rintro⟨i,d,h⟩;have d:=aX.mp d;rw[aN,aM d] at h;exact⟨_,dN d,h⟩
   ·rintro⟨x,z,h⟩;obtain⟨i,d,rfl⟩:=fG.mp z;refine⟨i,aX.mpr d,?_⟩;rw[aN,aM d];exact h
  rw[e];refine⟨.bl (bs.any id),H,I.kept (λc o f=>F c o ?_ (aE _ f)),rfl,q⟩;intro D;rw[av.mp D] at f;exact absurd (aP f) (bh _)
theorem YX:YT X (.builtin "isinstance") (λa H Q=>∃x T t b,a=[x,.ty T]/\TyOf X.K H x t/\cM X.K t (.type T)=aA b/\Q (.bl b) H):=by intro g s j H a i Q I r h;obtain⟨x,T,t,b,rfl,d,f,q⟩:=h;obtain⟨u,v,rfl,e,c⟩:=IV r;cases c;exact MC I e d f λtk=>⟨.bl b,H,I.tok tk,rfl,q⟩
theorem Pj{K:aD}:cM K (.type "int") (.type "int")=aA aC:=rfl
theorem Qn{K:aD}:cM K (.type "int") (.type "bool")=aA aB:=rfl
theorem Pk{K:aD}:cM K (.type "tuple") (.type "tuple")=aA aC:=rfl
theorem Rc{K:aD}:cM K (.type "list") (.type "list")=aA aC:=rfl
theorem Pm{K:aD}:cM K (.type "str") (.type "str")=aA aC:=rfl
noncomputable def NJ:V->List V->Hp->VK->Prop:=λx vs H Q=>∃l xs k y,x = .ref l/\vs=[.int k,y]/\H l=aA (.lst xs)/\0<=k/\k<2^63/\xs.length<sizeLine/\Q .non (upd H l (.lst (xs.take k.toNat++y::xs.drop k.toNat)))
theorem MI:E6 X "list.insert" NJ:=by
 intro u s D H x vs v A Q I m g h;obtain⟨l,G,k,y,rfl,rfl,f,E,p,C,q⟩:=h;cases m;obtain⟨w,d,rfl,i,o⟩:=g.two;obtain⟨t,rfl⟩:=i;obtain⟨z,a,n,r,B,e⟩:=I.lstM f;have b:¬(!Builtin.List.listFitsIndex k)=aC:=by rw[fitsIndex_both (by omega) p];exact bK
 refine eK F.slot_list_insert ⟨_,e,rfl⟩ F.entry_list_insert (F.args_list_insert_3 _ _ _) (AutoListH.list_insert_list_int_val_1 l a.toArray n k t d b (by rw[aO];omega)) ⟨e,?_⟩;refine⟨.non,_,I.lset f e ?_ ((r.take k.toNat).append (.cons o (r.drop k.toNat))) ?_,rfl,q⟩
 ·show(have j:=if k<0 then(k+((a.toArray.size:Nat):Int)).toNat else min k.toNat a.toArray.size;(a.toArray.extract 0 j).push d++a.toArray.extract j)=_;rw[jv (by omega)];by_cases c:k.toNat<=a.length
  ·rw[dB (by rw[aO];exact c)];simp;rw[bV (by simp)]
  ·rw[gY (by rw[aO];omega)];rw[bV (by omega),eh (by omega)];simp
 ·rw[bX,b9,fC,dq];omega
end
noncomputable def TK(H H':Hp):Prop:=∀b xs,H b=aA (.tup xs)->H' b=aA (.tup xs)
theorem Same.tk{H a:Hp}(s:Same H a):TK H a:=λb c h=>s b _ h
theorem Same.new{H:Hp}{p:aG}(h:H p=none)(o:HO):Same H (upd H p o):=λb u q=>by rw[upd_ne (Zm q h)];exact q
structure Def(K:aD)(mg:ah->Option aF)(x:ah)(st:bb):Prop where
 ex:∃f fd,mg x=aA (.ref f)/\Fun K x x st f fd
theorem def_mk{K:aD}{h:bP}{g:ah->Option aF}{x:ah}{st:bb}{f:aG}{m:aF}{j n:Option aG}{d:Array (Option aF)}{kV e i b ct:aF}(X:K.In h)(G:h.Ns cE g)
  (a:gk K cE x=aA (aA (.ref f))) (l:K.lookup f=aA ⟨m,j,.func (cN x x (YN st) (Z9 st) (Zf st) .none kV e i n b ct),d⟩)
  (c:cJ K b x=aC) (k:eV K (.ref f)=aC):Def K g x st:=⟨f,_,PySem.W.mg_of X G a,Gk l c k⟩
structure XZ(P:bH)(w:bu)(K:aD)(mg:ah->Option aF)(base:bP)(x:ah)(ps:List ah)(sp:Sp)(k:Nat):Prop where
 ex:∃f fd,mg x=aA (.ref f)/\eV K (.ref f)=aC/\Binds K fd ps []/\Ta P w K mg base OJ k f fd ps sp
section
variable {P:bH} {w:bu} {K:aD} {mg:ah->Option aF} {base:bP}
theorem Def.cal{x:ah}{st:bb}{N d:List ah}{k:Nat}{sp:Sp}(D:Def K mg x st)(S:Zn N d (Zf st))
  (e:∀(kV doc pm:aF)(an:Option aG)(b ct:aF)(us:List aF),us.length=d.length->gW (cN x x (YN st) (Z9 st) (Zf st) .none kV doc pm an b ct) ⟨us,[]⟩=pure (d.zip us))
  (len:∀vs H Q E,sp vs H Q E->vs.length=d.length)
  (c:∀(f:aG)(b:aF)(A:bc)(a:List jG)(s:aL)(H:Hp)(vs:List V)(Q:VK)(E:XK),Room k (A.deeper (fB x (Zf st) s.heap.objs.size f b))->sp vs H Q E->
   ∃t,PSs (TV OJ P w K mg base N x (Zf st) f b A a s H E).nox (Z9 st) t/\t { nx:=λ_ j=>Q .non j,rt:=Q } (start N vs) H):XZ P w K mg base x d sp (k+1):=by
 obtain⟨f,l,i,F⟩:=D.ex;exact⟨f,l,i,F.kp,F.binds e,F.ok S len λb A a s H vs Q E g h=>c f b A a s H vs Q E g h⟩
end
section
variable {X:Cx} {x:ah} {ps:List ah} {sp:Sp} {k:Nat} {e:au} {es:List au} {t:TA} {p pos:dk}
theorem OK(C:XZ X.prog X.w X.K X.mg X.base x ps sp k)(j:Room k X.A)(i:Gl X x)(m:PA X (e::es) t)
  (g:(x==("__debug__" : ah))=aB:=by decide) (l:aT (e::es) X.env=(aB,eval e X.env)::aT es X.env:=by rfl) (h:(dh pos (aT es X.env)).any (·.1)=aB:=by rfl) :
  PE X (.Call (.Name x p) (e::es) [] pos) (LB sp [] E0 t):=by
 obtain⟨f,n,a,b,c,d⟩:=C.ex;exact Jq d j i a b c .nil FO m g l h
end
noncomputable def Wv(N:List ah)(around scope:cq)(own fr:List ah)(ix:List Nat):Bool:=
 (match scope.kind with | .function=>aC | _=>aB)&&scope.names.all (λy=>y.2 != .cell)&&scope.names.all (λy=>y.2 != .local || scope.names.lookup y.1==aA .local)&&
 scope.names.all (λy=>y.2 != .free || (around.names.lookup y.1==aA .cell || around.names.lookup y.1==aA .free))&&(fr.map aA==ix.map (λi=>N[i]?))&&
 fr.all (λx=>scope.names.contains (x,bC))&&fr.all (λx=>scope.names.lookup x != aA .local)
theorem RI{N:List ah}{a b:cq}{own fr:List ah}{ix:List Nat}(h:Wv N a b own fr ix=aC):CompScope N a b own fr ix:=by
 unfold Wv at h;simp only[bU] at h;obtain⟨⟨⟨⟨⟨⟨f,m⟩,i⟩,g⟩,k⟩,l⟩,j⟩:=h;refine⟨?_,λy c=>?_,λy c e=>?_,λy c e=>?_,by simpa using k,λx d=>?_,λx d=>?_⟩
 ·split at f
  ·assumption
  ·cases f
 ·simpa using ak.mp m y c
 ·have:=ak.mp i y c;rw[e] at this;simpa using this
 ·have:=ak.mp g y c;rw[e] at this;simpa using this
 ·simpa using ak.mp l x d
 ·simpa using ak.mp j x d
section
variable {X:Cx} {tg js iter:au} {jr:List au} {scope:cq} {pos:dk} {wi:TI} {g:TG} {tt:TT} {te:TE}
theorem Pn(own fr:List ah)(ix:List Nat)(a:X.calm=aC)(c:PI X tg iter wi)(S:Wv X.N X.env.scope scope own fr ix=aC)
  (d:∀cl C s H ex,PG (Zv X (own++fr) scope cl C s H ex) tg g) (e:∀cl C s H ex,Oz (Zv X (own++fr) scope cl C s H ex) jr tt) (f:∀cl C s H ex,PE (Zv X (own++fr) scope cl C s H ex) js te)
  (b:∀x,bI iter X.env x=pure x:=by intro _;rfl):PE X (.ListComp js [⟨tg,iter,jr,0⟩] scope pos) (TZ own.length ix wi g tt te):=
 JA a c (RI S) d e f b
theorem LK(own fr:List ah)(ix:List Nat){i:Nat}{y:ah}{e a:dk}(l:X.N.Nodup)(f:X.N[i]?=aA y)(c:X.env.scope.names.lookup y=aA .local)(b:X.calm=aC)(j:PI X tg iter wi)(S:Wv X.N X.env.scope scope own fr ix=aC)
  (m:∀cl C s H ex,PG (Zv X (own++fr) scope cl C s H ex) tg g) (h:∀cl C s H ex,Oz (Zv X (own++fr) scope cl C s H ex) jr tt) (n:∀cl C s H ex,PE (Zv X (own++fr) scope cl C s H ex) js te)
  (d:fS (.ListComp js [⟨tg,iter,jr,0⟩] scope pos) (aA (.Name y e)) a.line X.env=pure aC:=by rfl)
  (k:∀x,bI iter X.env x=pure x:=by intro _;rfl):PS X (.Assign [.Name y e] (.ListComp js [⟨tg,iter,jr,0⟩] scope pos) a) (Pb (TZ own.length ix wi g tt te) (VB i)):=
 JB l f c b j (RI S) m h n d k
end
structure Vk(mg:ah->Option aF):Prop where
 «len» : mg "len" = none
 «sum» : mg "sum" = none
 «range» : mg "range" = none
 «enumerate» : mg "enumerate" = none
 «zip» : mg "zip" = none
 «tuple» : mg "tuple" = none
 «list» : mg "list" = none
 «all» : mg "all" = none
 «any» : mg "any" = none
 «isinstance» : mg "isinstance" = none
 «int» : mg "int" = none
 «bool» : mg "bool" = none
 «str» : mg "str" = none
 «min» : mg "min" = none
 «max» : mg "max" = none
 «sorted» : mg "sorted" = none
 «abs» : mg "abs" = none
 «ValueError» : mg "ValueError" = none
 «reversed» : mg "reversed" = none
 «set» : mg "set" = none
abbrev Dc(g:TG)(tb:TS)(D:Yv)(σ:St)(J:It)(H:Hp):Prop:=
 ∃W:Nat->Nat->St->Hp->Prop,(∃m,W 0 m σ H)/\∀i m σ H,W i m σ H->
   (J.stop i H/\D.nx σ H)\/(J.go i H/\∃N:St->Hp->Prop,(∀σ' H',N σ' H'->∃m',m'<m/\W (i+1) m' σ' H')/\∀x H',J.yld i H x H'->g x σ H' λσ2 H2=>tb { D with nx:=N,ct:=N,bk:=D.nx } σ2 H2)
noncomputable def Xa(l:List Int)(i:Nat):Int:=l.getD i 0
theorem Us(l:List Int):(aJ l.length).map (Xa l)=l:=by
 apply cO;intro i;rw[aR];by_cases h:i<l.length
 ·rw[aM (by simpa using h)];simp[Xa,aM h]
 ·rw[bJ (by simpa using h),bJ (by omega)];rfl
theorem Rf{f:Nat->Int}{n i:Nat}(h:i<n):Xa ((aJ n).map f) i=f i:=by unfold Xa;rw[aN,aR,bB h];rfl
noncomputable def Zr(w:List (List Int))(i:Nat):List Int:=w.getD i []
theorem Po{w:List (List Int)}{i:Nat}(h:i<w.length):w[i]?=aA (Zr w i):=by unfold Zr;rw[aN,aM h];rfl
noncomputable def ent(w:List (List Int))(i j:Nat):Int:=Xa (Zr w i) j
structure Yt(w:List (List Int)):Prop where
 pos:1<=w.length
 few:w.length<=7
 sq:∀i,i<w.length->(Zr w i).length=w.length
 lo:∀i j,i<w.length->j<w.length->0<=ent w i j
 hi:∀i j,i<w.length->j<w.length->ent w i j<=9
 sym:∀i j,i<w.length->j<w.length->ent w i j=ent w j i
 dia:∀i,i<w.length->ent w i i=0
noncomputable def Gq(K:aD):List V->Hp->VK->Prop:=λxs H Q=>∃p ys,xs=[.ref p]/\((SqL K H p ys/\∀l,H l=none->Q (.ref l) (upd H l (.tup ys)))\/(SqT K H p ys/\Q (.ref p) H))
noncomputable def JE(K:aD):List V->Hp->VK->Prop:=λxs H Q=>∃p ys,xs=[.ref p]/\(SqL K H p ys\/SqT K H p ys)/\∀l,H l=none->Q (.ref l) (upd H l (.lst ys))
theorem Same.off{H a:Hp}{p:aG}(s:Same H a)(n:a p=none):H p=none:=s.free n
abbrev DS:=Nat×Nat×Int
noncomputable def Ut(M:List (List Int))(a b:Nat)(t:Int):List (List Int):=M.set a ((Zr M a).set b t)
structure MatOk(n:Nat)(M:List (List Int)):Prop where
 len:M.length=n
 row:∀i,i<n->(Zr M i).length=n
 lo:∀i j,i<n->j<n->0<=ent M i j
 hi:∀i j,i<n->j<n->ent M i j<=9
 sym:∀i j,i<n->j<n->ent M i j=ent M j i
 dia:∀i,i<n->ent M i i=0
theorem RJ{M:List (List Int)}{a i:Nat}{r:List Int}(b:a<M.length):Zr (M.set a r) i=if a=i then r else Zr M i:=by
 unfold Zr;by_cases h:a=i
 ·subst h;simp[b]
 ·simp[h]
theorem nth_set{l:List Int}{b j:Nat}{t:Int}(a:b<l.length):Xa (l.set b t) j=if b=j then t else Xa l j:=by
 unfold Xa;by_cases h:b=j
 ·subst h;simp[a]
 ·simp[h]
theorem Pp{n:Nat}{M:List (List Int)}{a b i j:Nat}{t:Int}(f:M.length=n)(d:∀i,i<n->(Zr M i).length=n)(e:a<n)(c:b<n):ent (Ut M a b t) i j=if a=i/\b=j then t else ent M i j:=by
 show Xa (Zr (M.set a ((Zr M a).set b t)) i) j=_;rw[RJ (by omega)];by_cases h:a=i
 ·subst h;rw[ju rfl,nth_set (by rw[d a e];exact c)];by_cases q:b=j
  ·rw[ju q,ju ⟨rfl,q⟩]
  ·rw[jv q,jv (λz=>q z.2)];rfl
 ·rw[jv h,jv (λz=>h z.1)];rfl
theorem X4{n:Nat}{M:List (List Int)}{a b:Nat}{t:Int}(d:M.length=n)(c:∀i,i<n->(Zr M i).length=n)(f:a<n):(Ut M a b t).length=n/\∀i,i<n->(Zr (Ut M a b t) i).length=n:=by
 refine⟨by unfold Ut;rw[bq];exact d,λi e=>?_⟩;show(Zr (M.set a ((Zr M a).set b t)) i).length=n;rw[RJ (by omega)];split
 ·rw[bq];exact c a f
 ·exact c i e
theorem MatOk.zero(n:Nat):MatOk n (aU n (aU n 0)):=by
 have r:∀i,i<n->Zr (aU n (aU n (0:Int))) i=aU n 0:=λi a=>by unfold Zr;rw[aN,bZ,ju a];rfl
 have z:∀i j,i<n->j<n->ent (aU n (aU n (0:Int))) i j=0:=λi j a b=>by show Xa (Zr _ i) j=0;rw[r i a];unfold Xa;rw[aN,bZ,ju b];rfl
 exact⟨by simp,λi a=>by rw[r i a];simp,λi j a b=>by rw[z i j a b];omega,λi j a b=>by rw[z i j a b];omega,λi j a b=>by rw[z i j a b,z j i b a],λi a=>z i i a a⟩
theorem MatOk.web{n:Nat}{M:List (List Int)}(h:MatOk n M)(b:1<=n)(a:n<=7):Yt M:=by have e:=h.len;subst e;exact⟨b,a,h.row,h.lo,h.hi,h.sym,h.dia⟩
theorem Yy(f:Nat->Int)(n:Nat):((aJ (n+1)).map f).sum=((aJ n).map f).sum+f n:=by rw[dW];simp
theorem Xb{f g:Nat->Int}{n:Nat}(h:∀i,i<n->f i=g i):((aJ n).map f).sum=((aJ n).map g).sum:=by congr 1;apply bN;intro i a;exact h i (aX.mp a)
theorem NK(f g:Nat->Int)(n:Nat):((aJ n).map λi=>f i+g i).sum=((aJ n).map f).sum+((aJ n).map g).sum:=by
 induction n with
 | zero=>simp
 | succ n ih=>rw[Yy,Yy,Yy,ih];omega
theorem JF(l:List Int):((aJ l.length).map (Xa l)).sum=l.sum:=by rw[Us]
theorem LL(e:Nat->Nat->Int)(n:Nat)(c:∀i j,i<n->j<n->e i j=e j i)(f:∀i,i<n->e i i=0) :
  ((aJ n).map λi=>((aJ n).map λj=>e i j).sum).sum=2*((aJ n).map λa=>((aJ (n-(a+1))).map λj=>e a (a+1+j)).sum).sum:=by
 induction n with
 | zero=>simp
 | succ n d=>
  have d:=d (λi j b l=>c i j (by omega) (by omega)) λi b=>f i (by omega);rw[Yy,Yy,Yy];have h:((aJ n).map λi=>((aJ (n+1)).map λj=>e i j).sum).sum=((aJ n).map λi=>((aJ n).map λj=>e i j).sum).sum+((aJ n).map λi=>e i n).sum:=by rw[<-NK];apply Xb;intro i _;rw[Yy]
  have g:((aJ n).map λa=>((aJ (n+1-(a+1))).map λj=>e a (a+1+j)).sum).sum=((aJ n).map λa=>((aJ (n-(a+1))).map λj=>e a (a+1+j)).sum).sum+((aJ n).map λi=>e i n).sum:=by rw[<-NK];apply Xb;intro i b;rw[show n+1-(i+1)=(n-(i+1))+1 by omega,Yy,show i+1+(n-(i+1))=n by omega]
  have k:((aJ n).map λj=>e n j).sum=((aJ n).map λi=>e i n).sum:=by apply Xb;intro i b;exact c n i (by omega) (by omega)
  rw[h,g,k,f n (by omega)];simp;omega
structure NamesOk(i:Nat)(l:List Int):Prop where
 len:l.length=i
 nd:l.Nodup
 lo:∀x∈l,0<=x
 hi:∀x∈l,x<i
theorem NamesOk.nil:NamesOk 0 []:=⟨rfl,cW,λ_ h=>by simp at h,λ_ h=>by simp at h⟩
theorem NamesOk.ins{i:Nat}{l:List Int}(h:NamesOk i l)(k:Nat):NamesOk (i+1) (l.take k++(i:Int)::l.drop k):=by
 have b:(l.take k++(i:Int)::l.drop k).Perm ((i:Int)::l):=by have:=List.perm_middle (a:=(i:Int)) (l₁:=l.take k) (l₂:=l.drop k);rw[List.take_append_drop] at this;exact this
 refine⟨by rw[b.length_eq,b9,h.len],?_,λx c=>?_,λx c=>?_⟩
 ·rw[b.nodup_iff,bM];exact⟨λd=>by have:=h.hi _ d;omega,h.nd⟩
 ·rcases aa.mp (b.mem_iff.mp c) with e | e
  ·omega
  ·exact h.lo x e
 ·rcases aa.mp (b.mem_iff.mp c) with e | e
  ·omega
  ·have:=h.hi x e;omega
theorem NamesOk.at{i:Nat}{l:List Int}(h:NamesOk i l){x:Nat}(a:x<i):0<=Xa l x/\Xa l x<i:=by
 have e:Xa l x=l[x]'(by rw[h.len];exact a):=by unfold Xa;rw[aN,aM (by rw[h.len];exact a)];rfl
 rw[e];exact⟨h.lo _ (dN _),h.hi _ (dN _)⟩
theorem NamesOk.ne{i:Nat}{l:List Int}(h:NamesOk i l){x y:Nat}(b:x<i)(a:y<i)(n:x≠y):Xa l x≠Xa l y:=by
 have d:Xa l x=l[x]'(by rw[h.len];exact b):=by unfold Xa;rw[aN,aM (by rw[h.len];exact b)];rfl
 have c:Xa l y=l[y]'(by rw[h.len];exact a):=by unfold Xa;rw[aN,aM (by rw[h.len];exact a)];rfl
 rw[d,c];intro e;exact n ((jH h.nd).mp e)
theorem lt_size{n:Nat}(h:n<=10000):n<sizeLine:=bA h (by decide)
end L2
namespace VL
open PySem PySem.Spec PyProof.Rows L2
variable {K:aD}
noncomputable def DT(od:c9)(f:ah)(u:aF):Prop:=∀(hp:bP)(dx:aG),hp.get? dx=aA od->hp.Ns1 dx (λn=>if n=f then aA u else none)
noncomputable def JG(n:ah):ah:=if n = "NoWeb" then "place" else if n = "Apart" then "houses" else if n = "TooMany" then "most" else "total"
structure Dd where
 qual:ah
 params:Arguments
 body:au
 scope:cq
 free:ah
inductive PV where
 | non | bl (b:Bool) | int (i:Int) | str (x:ah) | ty (n:String) | exc (n:ah) | exf (n:ah) (l:PV) | clo (L:Dd) (l:PV)
 | tup (l:List PV) | lst (l:List PV) | cst (l:List PV)
 | dK (ks:List S6) (vs:List PV) | dT (ks:List (List S6)) (vs:List PV)
instance:Inhabited PV:=⟨.non⟩
mutual
/-- nothing in it can be changed -/
def ZJ:PV->Bool
 | .tup l=>Zw l
 | .cst l=>Zw l
 | .lst _=>aB
 | .dK _ _=>aB
 | .dT _ _=>aB
 | .non=>aC
 | .bl _=>aC
 | .int _=>aC
 | .str _=>aC
 | .ty _=>aC
 | .exc _=>aC
 | .exf _ _=>aC
 | .clo _ l=>ZJ l
def Zw:List PV->Bool
 | []=>aC
 | x::r=>ZJ x&&Zw r
end
theorem YE:∀l:List PV,Zw l=l.all ZJ
 | []=>rfl
 | x::r=>by rw[gQ,<-YE r];rfl
noncomputable def KL(K:aD)(a:aG)(xs:List V):Prop:=
 ∃(o:c9) (jt:Array aF) (n:Nat),K.lookup a=aA o/\o.cls = .type "list"/\o.dict=none/\o.data = .seq jt n/\jt.size<=sizeLine/\Vals xs jt.toList
noncomputable def CsK(K:aD)(H:Hp)(p:aG)(xs:List V):Prop:=(∃o,H p=aA (.frz o (.lst xs)))\/KL K p xs
theorem CsK.sq{K:aD}{H:Hp}{p:aG}{a:List V}(h:CsK K H p a):SqL K H p a:=by
 rcases h with h | h
 ·exact .inl (.inr h)
 ·exact .inr h
noncomputable def CloAt(H:Hp)(L:Dd)(v:V)(u:aF):Prop:=∃f fo c oc e eo pm ct,v = .ref f/\H f=aA (.frz fo (.own 0))/\fo.data = .func (PySem.W.kla_fn "<lambda>" L.qual L.params L.body L.scope [(L.free,e)] pm (.ref c) ct)/\H c=aA (.frz oc (.own 0))/\Lq oc L.qual/\H e=aA (.frz eo (.own 1))/\eo.data = .cell (aA u)
mutual
/-- v is the tree l in the heap H;fp: the addresses of jt lists and dicts -/
def Is(K:aD)(H:Hp):PV->V->List aG->Prop
 | .non,v,fp=>v = .non/\fp=[]
 | .bl b,v,fp=>v = .bl b/\fp=[]
 | .int i,v,fp=>v = .int i/\fp=[]
 | .str x,v,fp=>v = .str x/\fp=[]
 | .ty n,v,fp=>v = .ty n/\fp=[]
 | .exc n,v,fp=>(∃e o x C,v = .ref e/\H e=aA (.frz o (.own x))/\o.cls = .ref C/\gk K cE n=aA (aA (.ref C))/\o.dict=none/\∃vs,o.data = .fields vs)/\fp=[]
 | .exf n l,v,fp=>(∃e o x C dx od u z,v = .ref e/\H e=aA (.frz o (.own x))/\o.cls = .ref C/\gk K cE n=aA (aA (.ref C))/\o.dict=aA dx/\(∃vs,o.data = .fields vs)/\H dx=aA (.frz od (.own dx))/\DT od (JG n) u/\RelV z u/\Is K H l z [])/\fp=[]
 | .clo L l,v,fp=>∃u x,CloAt H L v u/\RelV x u/\Is K H l x fp
 | .tup l,v,fp=>∃p xs,v = .ref p/\H p=aA (.tup xs)/\Iss K H l xs fp
 | .lst l,v,fp=>∃p xs fq,v = .ref p/\H p=aA (.lst xs)/\Iss K H l xs fq/\fp=p::fq
 | .cst l,v,fp=>∃p xs,v = .ref p/\CsK K H p xs/\Iss K H l xs fp
 | .dK ks l,v,fp=>∃p jo fq,v = .ref p/\Rd H p (.dK jo)/\jo.map (·.1)=ks/\Iss K H l (jo.map (·.2)) fq/\fp=p::fq
 | .dT ks l,v,fp=>∃p jo fq,v = .ref p/\Rd H p (.dT jo)/\jo.map (·.1)=ks/\Iss K H l (jo.map (·.2)) fq/\fp=p::fq
def Iss(K:aD)(H:Hp):List PV->List V->List aG->Prop
 | [],xs,fp=>xs=[]/\fp=[]
 | l::ls,xs,fp=>∃x r f1 f2,xs=x::r/\Is K H l x f1/\Iss K H ls r f2/\fp=f1++f2
end
noncomputable def RdK(H H':Hp)(p:aG):Prop:=(∀xs,H p=aA (.lst xs)->H' p=aA (.lst xs))/\(∀jo,Rd H p (.dK jo)->Rd H' p (.dK jo))/\∀jo,Rd H p (.dT jo)->Rd H' p (.dT jo)
theorem RdK.of{H a:Hp}{p:aG}(h:∀o,H p=aA o->a p=aA o):RdK H a p:=by
 have r:∀u,Rd H p u->Rd a p u:=λu q=>by
  rcases q with q | ⟨o,q⟩
  ·exact .inl (h _ q)
  ·exact .inr ⟨o,h _ q⟩
 exact⟨λ_=>h _,λ_=>r _,λ_=>r _⟩
structure JH(H H':Hp):Prop where
 tup:TK H H'
 frz:∀b o xs,H b=aA (.frz o (.lst xs))->H' b=aA (.frz o (.lst xs))
 exc:∀b o x,H b=aA (.frz o (.own x))->H' b=aA (.frz o (.own x))
theorem Same.tk2{H a:Hp}(s:Same H a):JH H a:=⟨s.tk,λb o c h=>s b _ h,λb o x h=>s b _ h⟩
theorem CsK.tr{K:aD}{H b:Hp}(t:JH H b){p:aG}{a:List V}(h:CsK K H p a):CsK K b p a:=by
 rcases h with⟨o,h⟩ | h
 ·exact .inl ⟨o,t.frz p o a h⟩
 ·exact .inr h
theorem CloAt.tr{H d:Hp}(t:JH H d){L:Dd}{v:V}{u:aF}(h:CloAt H L v u):CloAt d L v u:=by obtain⟨f,g,c,b,e,a,i,ct,k,p,l,j,n,o,m⟩:=h;exact⟨f,g,c,b,e,a,i,ct,k,t.exc f g 0 p,l,t.exc c b 0 j,n,t.exc e a 1 o,m⟩
mutual
theorem Is.tr{H t:Hp}(f:JH H t):∀(l:PV)(v:V)(fp:List aG),(∀p∈fp,RdK H t p)->Is K H l v fp->Is K t l v fp
 | .non,_,_,_,h=>by simpa only[Is] using h
 | .bl _,_,_,_,h=>by simpa only[Is] using h
 | .int _,_,_,_,h=>by simpa only[Is] using h
 | .str _,_,_,_,h=>by simpa only[Is] using h
 | .ty _,_,_,_,h=>by simpa only[Is] using h
 | .exc _,_,_,_,h=>by simp only[Is] at h ⊢;obtain⟨⟨e,o,x,C,a,b,c⟩,d⟩:=h;exact⟨⟨e,o,x,C,a,f.exc e o x b,c⟩,d⟩
 | .exf _ l,_,_,_,h=>by simp only[Is] at h ⊢;obtain⟨⟨e,o,x,C,r,y,u,z,a,b,c1,c2,c3,c4,c5,A,D,B⟩,d⟩:=h;exact⟨⟨e,o,x,C,r,y,u,z,a,f.exc e o x b,c1,c2,c3,c4,f.exc r y r c5,A,D,Is.tr f l z [] (λp s=>by simp at s) B⟩,d⟩
 | .clo L l,v,fp,hm,h=>by simp only[Is] at h ⊢;obtain⟨u,x,E,i,g⟩:=h;exact⟨u,x,E.tr f,i,Is.tr f l x fp hm g⟩
 | .tup l,v,fp,hm,h=>by simp only[Is] at h ⊢;obtain⟨p,j,e,s,g⟩:=h;exact⟨p,j,e,f.tup p j s,Iss.tr f l j fp hm g⟩
 | .lst l,v,fp,hm,h=>by simp only[Is] at h ⊢;obtain⟨p,j,k,e,i,g,rfl⟩:=h;exact⟨p,j,k,e,(hm p a0).1 _ i,Iss.tr f l j k (λq m=>hm q (aV _ m)) g,rfl⟩
 | .cst l,v,fp,hm,h=>by simp only[Is] at h ⊢;obtain⟨p,j,e,i,g⟩:=h;exact⟨p,j,e,i.tr f,Iss.tr f l j fp hm g⟩
 | .dK ks l,v,fp,hm,h=>by simp only[Is] at h ⊢;obtain⟨p,n,k,e,i,w,g,rfl⟩:=h;exact⟨p,n,k,e,(hm p a0).2.1 _ i,w,Iss.tr f l _ k (λq m=>hm q (aV _ m)) g,rfl⟩
 | .dT ks l,v,fp,hm,h=>by simp only[Is] at h ⊢;obtain⟨p,n,k,e,i,w,g,rfl⟩:=h;exact⟨p,n,k,e,(hm p a0).2.2 _ i,w,Iss.tr f l _ k (λq m=>hm q (aV _ m)) g,rfl⟩
theorem Iss.tr{H a:Hp}(c:JH H a):∀(l:List PV)(xs:List V)(fp:List aG),(∀p∈fp,RdK H a p)->Iss K H l xs fp->Iss K a l xs fp
 | [],_,_,_,h=>by simpa only[Iss] using h
 | l::ls,xs,fp,hm,h=>by simp only[Iss] at h ⊢;obtain⟨x,r,f1,f2,e,f,d,rfl⟩:=h;exact⟨x,r,f1,f2,e,Is.tr c l x f1 (λq b=>hm q (bO _ b)) f,Iss.tr c ls r f2 (λq b=>hm q (af _ b)) d,rfl⟩
end
theorem Is.mono{H b:Hp}(s:Same H b){l:PV}{v:V}{a:List aG}(h:Is K H l v a):Is K b l v a:=Is.tr (Same.tk2 s) l v a (λp _=>RdK.of λo q=>s p o q) h
theorem Iss.mono{H b:Hp}(s:Same H b){l:List PV}{v:List V}{a:List aG}(h:Iss K H l v a):Iss K b l v a:=Iss.tr (Same.tk2 s) l v a (λp _=>RdK.of λo q=>s p o q) h
mutual
theorem Is.pure{H:Hp}:∀(l:PV)(v:V)(fp:List aG),ZJ l=aC->Is K H l v fp->fp=[]
 | .non,_,_,_,h=>by simp only[Is] at h;exact h.2
 | .bl _,_,_,_,h=>by simp only[Is] at h;exact h.2
 | .int _,_,_,_,h=>by simp only[Is] at h;exact h.2
 | .str _,_,_,_,h=>by simp only[Is] at h;exact h.2
 | .ty _,_,_,_,h=>by simp only[Is] at h;exact h.2
 | .exc _,_,_,_,h=>by simp only[Is] at h;exact h.2
 | .exf _ _,_,_,_,h=>by simp only[Is] at h;exact h.2
 | .clo L l,v,fp,hp,h=>by simp only[Is] at h;obtain⟨u,x,c,d,a⟩:=h;exact Is.pure l x fp (by simpa only[ZJ] using hp) a
 | .tup l,v,fp,hp,h=>by simp only[Is] at h;obtain⟨p,b,e,_,a⟩:=h;exact Iss.pure l b fp (by simpa only[ZJ] using hp) a
 | .lst l,v,fp,hp,h=>by simp[ZJ] at hp
 | .cst l,v,fp,hp,h=>by simp only[Is] at h;obtain⟨p,b,e,_,a⟩:=h;exact Iss.pure l b fp (by simpa only[ZJ] using hp) a
 | .dK ks l,v,fp,hp,h=>by simp[ZJ] at hp
 | .dT ks l,v,fp,hp,h=>by simp[ZJ] at hp
theorem Iss.pure{H:Hp}:∀(l:List PV)(xs:List V)(fp:List aG),Zw l=aC->Iss K H l xs fp->fp=[]
 | [],_,_,_,h=>by simp only[Iss] at h;exact h.2
 | l::ls,xs,fp,hp,h=>by simp only[Iss] at h;simp only[Zw,bU] at hp;obtain⟨x,r,f1,f2,e,b,a,rfl⟩:=h;rw[Is.pure l x f1 hp.1 b,Iss.pure ls r f2 hp.2 a];rfl
end
section
variable {H H':Hp}
theorem Iss.len:∀{l:List PV}{xs:List V}{fp:List aG},Iss K H l xs fp->xs.length=l.length
 | [],xs,fp,h=>by simp only[Iss] at h;rw[h.1];rfl
 | l::ls,xs,fp,h=>by simp only[Iss] at h;obtain⟨x,r,f1,f2,rfl,_,a,_⟩:=h;rw[b9,b9,a.len]
theorem Iss.get:∀{l:List PV}{xs:List V}{fp:List aG}{i:Nat}{a:PV},Iss K H l xs fp->l[i]?=aA a->∃x f1,xs[i]?=aA x/\Is K H a x f1/\∀p∈f1,p∈fp
 | [],xs,fp,i,a,h,e=>by simp at e
 | l::ls,xs,fp,0,a,h,e=>by simp only[Iss] at h;obtain⟨x,r,f1,f2,rfl,j,_,rfl⟩:=h;simp at e;subst e;exact⟨x,f1,rfl,j,λp b=>bO _ b⟩
 | l::ls,xs,fp,i+1,a,h,e=>by simp only[Iss] at h;obtain⟨x,r,f1,f2,rfl,_,d,rfl⟩:=h;obtain⟨y,g,k,c,f⟩:=d.get (i:=i) (a:=a) (by simpa using e);exact⟨y,g,by simpa using k,c,λp b=>af _ (f p b)⟩
theorem Iss.nil:Iss K H [] [] []:=by simp[Iss]
theorem Iss.cons{l:PV}{ls:List PV}{x:V}{a:List V}{f1 f2:List aG}(c:Is K H l x f1)(b:Iss K H ls a f2):Iss K H (l::ls) (x::a) (f1++f2):=by exact⟨x,a,f1,f2,rfl,c,b,rfl⟩
theorem Iss.inv{l:PV}{ls:List PV}{a:List V}{b:List aG}(h:Iss K H (l::ls) a b):∃x r f1 f2,a=x::r/\Is K H l x f1/\Iss K H ls r f2/\b=f1++f2:=by simpa only[Iss] using h
theorem Iss.append:∀{l m:List PV}{xs ys:List V}{f1 f2:List aG},Iss K H l xs f1->Iss K H m ys f2->Iss K H (l++m) (xs++ys) (f1++f2)
 | [],m,xs,ys,f1,f2,h,h'=>by simp only[Iss] at h;rw[h.1,h.2];exact h'
 | l::ls,m,xs,ys,f1,f2,h,h'=>by obtain⟨x,r,d,c,rfl,a,b,rfl⟩:=h.inv;rw[eY];exact Iss.cons a (b.append h')
theorem Iss.one{l:PV}{x:V}{f:List aG}(h:Is K H l x f):Iss K H [l] [x] f:=by
 have:=Iss.cons h (Iss.nil)
 rwa [dA] at this
theorem Iss.take:∀{l:List PV}{xs:List V}{fp:List aG}(n:Nat),Iss K H l xs fp->∃f1,Iss K H (l.take n) (xs.take n) f1/\∀p∈f1,p∈fp
 | l,xs,fp,0,h=>⟨[],by rw[iE,iE];exact Iss.nil,λp c=>by simp at c⟩
 | [],xs,fp,n+1,h=>by simp only[Iss] at h;rw[h.1];exact⟨[],by rw[j9,j9];exact Iss.nil,λp c=>by simp at c⟩
 | l::ls,xs,fp,n+1,h=>by
  obtain⟨x,r,f1,f2,rfl,e,d,rfl⟩:=h.inv;obtain⟨f,a,b⟩:=d.take n;refine⟨f1++f,Iss.cons e a,λp c=>?_⟩;rcases bj.mp c with h | h
  ·exact bO _ h
  ·exact af _ (b p h)
theorem Iss.drop:∀{l:List PV}{xs:List V}{fp:List aG}(n:Nat),Iss K H l xs fp->∃f1,Iss K H (l.drop n) (xs.drop n) f1/\∀p∈f1,p∈fp
 | l,xs,fp,0,h=>⟨fp,h,λp c=>c⟩
 | [],xs,fp,n+1,h=>by simp only[Iss] at h;rw[h.1];exact⟨[],by rw[ja,ja];exact Iss.nil,λp c=>by simp at c⟩
 | l::ls,xs,fp,n+1,h=>by obtain⟨x,r,f1,f2,rfl,f,d,rfl⟩:=h.inv;obtain⟨e,a,b⟩:=d.drop n;exact⟨e,a,λp c=>af _ (b p c)⟩
theorem Iss.setP:∀{l:List PV}{xs:List V}{a:PV}{x:V}(i:Nat),Zw l=aC->ZJ a=aC->Iss K H l xs []->Is K H a x []->Iss K H (l.set i a) (xs.set i x) []
 | [],xs,a,x,i,_,_,h,_=>by simp only[Iss] at h;rw[h.1];simp only[List.set_nil];exact Iss.nil
 | l::ls,xs,a,x,0,hp,_,h,ha=>by simp only[Zw,bU] at hp;obtain⟨y,r,f1,f2,rfl,_,b,e⟩:=h.inv;have c:=Iss.pure _ _ _ hp.2 b;subst c;exact Iss.cons (f1:=[]) ha b
 | l::ls,xs,a,x,i+1,hp,hq,h,ha=>by simp only[Zw,bU] at hp;obtain⟨y,r,f1,f2,rfl,d,b,e⟩:=h.inv;have f:=Is.pure _ _ _ hp.1 d;have c:=Iss.pure _ _ _ hp.2 b;subst f c;exact Iss.cons (f1:=[]) d (Iss.setP i hp.2 hq b ha)
theorem Is.int_inv{i:Int}{v:V}{a:List aG}(h:Is K H (.int i) v a):v = .int i/\a=[]:=by simpa only[Is] using h
theorem Is.int(i:Int):Is K H (.int i) (.int i) []:=by simp[Is]
theorem Is.bl(i:Bool):Is K H (.bl i) (.bl i) []:=by simp[Is]
theorem Is.non:Is K H .non .non []:=by simp[Is]
theorem Is.str(x:ah):Is K H (.str x) (.str x) []:=by simp[Is]
theorem Is.ty(n:String):Is K H (.ty n) (.ty n) []:=by simp[Is]
theorem Is.bl_inv{i:Bool}{v:V}{a:List aG}(h:Is K H (.bl i) v a):v = .bl i/\a=[]:=by simpa only[Is] using h
theorem Is.str_inv{i:ah}{v:V}{a:List aG}(h:Is K H (.str i) v a):v = .str i/\a=[]:=by simpa only[Is] using h
theorem Is.non_inv{v:V}{a:List aG}(h:Is K H .non v a):v = .non/\a=[]:=by simpa only[Is] using h
theorem Is.ty_inv{n:String}{v:V}{a:List aG}(h:Is K H (.ty n) v a):v = .ty n/\a=[]:=by simpa only[Is] using h
theorem Is.tup_inv{l:List PV}{v:V}{a:List aG}(h:Is K H (.tup l) v a):∃p xs,v = .ref p/\H p=aA (.tup xs)/\Iss K H l xs a:=by simpa only[Is] using h
theorem Is.tup{l:List PV}{p:aG}{a:List V}{b:List aG}(h:H p=aA (.tup a))(c:Iss K H l a b):Is K H (.tup l) (.ref p) b:=by simp only[Is];exact⟨p,a,rfl,h,c⟩
theorem Is.lst_inv{l:List PV}{v:V}{a:List aG}(h:Is K H (.lst l) v a):∃p xs fq,v = .ref p/\H p=aA (.lst xs)/\Iss K H l xs fq/\a=p::fq:=by simpa only[Is] using h
theorem Is.lst{l:List PV}{p:aG}{a:List V}{b:List aG}(h:H p=aA (.lst a))(c:Iss K H l a b):Is K H (.lst l) (.ref p) (p::b):=by simp only[Is];exact⟨p,a,b,rfl,h,c,rfl⟩
theorem Is.cst_inv{l:List PV}{v:V}{a:List aG}(h:Is K H (.cst l) v a):∃p xs,v = .ref p/\CsK K H p xs/\Iss K H l xs a:=by simpa only[Is] using h
theorem Is.cst{l:List PV}{p:aG}{a:List V}{b:List aG}(h:CsK K H p a)(c:Iss K H l a b):Is K H (.cst l) (.ref p) b:=by simp only[Is];exact⟨p,a,rfl,h,c⟩
theorem Is.dT_inv{b:List (List S6)}{l:List PV}{v:V}{a:List aG}(h:Is K H (.dT b l) v a):∃p jo fq,v = .ref p/\Rd H p (.dT jo)/\jo.map (·.1)=b/\Iss K H l (jo.map (·.2)) fq/\a=p::fq:=by simpa only[Is] using h
theorem Is.dK_inv{b:List S6}{l:List PV}{v:V}{a:List aG}(h:Is K H (.dK b l) v a):∃p jo fq,v = .ref p/\Rd H p (.dK jo)/\jo.map (·.1)=b/\Iss K H l (jo.map (·.2)) fq/\a=p::fq:=by simpa only[Is] using h
end
abbrev iL(l:List Int):List PV:=l.map PV.int
theorem Z1(l:List Int):Zw (iL l)=aC:=by rw[YE,ak];intro x a;obtain⟨i,_,rfl⟩:=bt.mp a;rfl
theorem Iss.iL{H:Hp}:∀{l:List Int}{xs:List V}{fp:List aG},Iss K H (VL.iL l) xs fp->xs=l.map V.int/\fp=[]
 | [],xs,fp,h=>by simpa only[VL.iL,List.map_nil,Iss] using h
 | i::l,xs,fp,h=>by obtain⟨x,r,f1,f2,rfl,b,a,rfl⟩:=Iss.inv (show Iss K H (PV.int i::VL.iL l) xs fp from h);obtain⟨rfl,rfl⟩:=b.int_inv;obtain⟨rfl,rfl⟩:=a.iL;exact⟨rfl,rfl⟩
theorem Iss.ofInts{H:Hp}:∀(l:List Int),Iss K H (VL.iL l) (l.map V.int) []
 | []=>Iss.nil
 | i::l=>Iss.cons (f1:=[]) (Is.int i) (Iss.ofInts l)
end VL
namespace VL
open PySem PySem.Spec PyProof.Rows L2
variable {K:aD}
abbrev Te:=L2.St
abbrev ZA:=List (Option PV)
abbrev XE:=ZA->Option PV
structure EnvIs(K:aD)(Rm:aG->Prop)(H:Hp)(s:ZA)(σ:Te):Prop where
 is:∀(i:Nat) l,s[i]?=aA (aA l)->∃v fp,σ[i]?=aA (aA v)/\Is K H l v fp/\∀p∈fp,¬Rm p
theorem EnvIs.mono{g:aG->Prop}{H d:Hp}{s:ZA}{f:Te}(h:EnvIs K g H s f)(e:Same H d):EnvIs K g d s f:=⟨λi l q=>by
 obtain⟨v,j,a,b,c⟩:=h.is i l q;exact⟨v,j,a,b.mono e,c⟩⟩
theorem EnvIs.free{f:aG->Prop}{H:Hp}{s:ZA}{d:Te}(h:EnvIs K f H s d):EnvIs K (λ_=>False) H s d:=⟨λi l q=>by
 obtain⟨v,e,a,b,c⟩:=h.is i l q;exact⟨v,e,a,b,λ_ _ z=>z⟩⟩
theorem Same.mut{H a:Hp}(e:Same H a){p:aG}(h:Vb (H p)):Vb (a p):=by
 cases q:H p with
 | none=>rw[q] at h;exact h.elim
 | some o=>rw[e p o q,<-q];exact h
theorem YO{H:Hp}{p:aG}(h:Vb (H p)):H p≠none:=λz=>by rw[z] at h;exact h
noncomputable def tF(K:aD)(f:XE):TE:=λσ H Q=>∃(Rm:aG->Prop) (s:ZA) (l:PV),(∀p,Rm p->Vb (H p))/\EnvIs K Rm H s σ/\f s=aA l/\∀v H' fp,Same H H'->Is K H' l v fp->(∀p∈fp,¬Rm p)->Q v H'
noncomputable def tM(K:aD)(f:XE):TE:=λσ H Q=>∃(s:ZA) (l:PV),EnvIs K (λ_=>False) H s σ/\f s=aA l/\∀v H' fp,Same H H'->Is K H' l v fp->fp.Nodup->(∀p∈fp,H p=none/\Vb (H' p))->Q v H'
noncomputable def VE(X:Cx)(e:au)(f:XE):Prop:=PE X e (tF X.K f)
noncomputable def VM(X:Cx)(e:au)(f:XE):Prop:=PE X e (tM X.K f)
section
variable {X:Cx} {e:au} {f g:XE} {t t':TE}
theorem PE.imp(h:PE X e t)(i:∀a H Q,t' a H Q->t a H Q):PE X e t':=λb s a H Q I q=>h b s a H Q I (i a H Q q)
theorem VM.ve(h:VM X e f):VE X e f:=PE.imp h λm H Q ⟨j,s,l,c,env,e,k⟩=>
 ⟨s,l,env.free,e,λv d g a i _ n=>k v d g a i λp b z=>YO (c p z) (n p b).1⟩
noncomputable def eP(f:XE):XE:=λs=>(f s).bind λl=>if ZJ l=aC then aA l else none
theorem JI{s:ZA}{l:PV}(h:eP f s=aA l):f s=aA l/\ZJ l=aC:=by
 unfold eP at h
 cases q:f s with
 | none=>rw[q] at h;cases h
 | some a=>
  rw[q] at h;simp only[a9] at h;split at h
  ·cases h;exact⟨rfl,by assumption⟩
  ·cases h
theorem VE.pure(h:VE X e f):VM X e (eP f):=PE.imp h λm H Q ⟨s,l,env,e,k⟩=>by
 obtain⟨b,d⟩:=JI e;refine⟨λ_=>False,s,l,λ_ z=>z.elim,env,b,λv g j a i n=>?_⟩;have:=Is.pure l v j d i;subst this;exact k v g [] a i cW λp c=>by simp at c
end
noncomputable def Za(i:Nat):XE:=λs=>(s[i]?).join
noncomputable def eC(l:PV):XE:=λ_=>aA l
theorem RK{i:Nat}{s:ZA}{l:PV}(h:Za i s=aA l):s[i]?=aA (aA l):=by
 unfold Za at h
 cases q:s[i]? with
 | none=>rw[q] at h;cases h
 | some o=>rw[q] at h;cases o with
  | none=>cases h
  | some a=>cases h;rfl
section
variable {X:Cx} {pos:dk}
theorem FV{e:au}{i:Nat}(h:PE X e (Qe i)):VE X e (Za i):=PE.imp h λg H Q ⟨j,s,l,f,env,e,k⟩=>by obtain⟨v,d,a,b,c⟩:=env.is i l (RK e);exact⟨v,a,k v H d (Same.refl H) b c⟩
theorem JJ{e:au}{v:V}{l:PV}(h:PE X e (tC v))(a:∀H,Is X.K H l v []):VE X e (eC l):=PE.imp h λd H Q ⟨f,s,l',c,env,e,k⟩=>by
 cases e;exact k v H [] (Same.refl H) (a H) λp b=>by simp at b
theorem Zg{i j}:VE X (.Constant (.int i) j pos) (eC (.int i)):=JJ Hw λ_=>Is.int i
theorem NL{i j}:VE X (.Constant (.bool i) j pos) (eC (.bl i)):=JJ Fp λ_=>Is.bl i
theorem Gr{j}:VE X (.Constant .none j pos) (eC .non):=JJ Hx λ_=>Is.non
end
noncomputable def RB(K:aD)(r:R2)(g:PV->PV->Option PV):Prop:=∀(H:Hp)(x y:V)(a b l:PV)(fa fb:List aG),Is K H a x fa->Is K H b y fb->g a b=aA l->∀Q:VK,
 (∀v H' fp,Same H H'->Is K H' l v fp->(∀p∈fp,p∈fa\/p∈fb\/H p=none)->Q v H')->r x y H Q
noncomputable def Zj(g:PV->PV->Option PV)(a b:XE):XE:=λs=>(a s).bind λx=>(b s).bind λy=>g x y
theorem T6{g:PV->PV->Option PV}{a b:XE}{s:ZA}{l:PV}(h:Zj g a b s=aA l):∃x y,a s=aA x/\b s=aA y/\g x y=aA l:=by
 unfold Zj at h
 cases q:a s with
 | none=>rw[q] at h;cases h
 | some x=>cases q2:b s with
  | none=>rw[q,q2] at h;cases h
  | some y=>rw[q,q2] at h;exact⟨x,y,rfl,rfl,h⟩
section
variable {X:Cx} {a b:au} {fa fb:XE} {pos:dk}
theorem NM{r:R2}{g:PV->PV->Option PV}(n:RB K r g):∀a H Q,tF K (Zj g fa fb) a H Q->Fg r (tF K fa) (tF K fb) a H Q:=λa H Q ⟨f,s,l,c,env,e,k⟩=>by
 obtain⟨d,i,q,D,e⟩:=T6 e;refine⟨f,s,d,c,env,q,λx F f1 s1 u j=>⟨f,s,i,λp b=>Same.mut s1 (c p b),env.mono s1,D,λy C f2 s2 A t=>?_⟩⟩;refine n C x y d i l f1 f2 (u.mono s2) A e Q λv m B E o w=>k v m B (s1.trans (s2.trans E)) o λp b z=>?_;rcases w p b with h | h | h
 ·exact j p h z
 ·exact t p h z
 ·exact YO (Same.mut (s1.trans s2) (c p z)) h
theorem Ww{op:Operator}{r:R2}{g:PV->PV->Option PV}(e:U2 X (dC op) r)(d:RB X.K r g)(f:VE X a fa)(c:VE X b fb):VE X (.BinOp a op b pos) (Zj g fa fb):=
 PE.imp (Ly e f c) (NM d)
theorem LM{op:j1}{r:R2}{g:PV->PV->Option PV}(f:U2 X (eM op) r)(e:RB X.K r g)(h:VE X a fa)(c:VE X b fb)(d:ck op b=aB):VE X (.Compare a [op] [b] pos) (Zj g fa fb):=
 PE.imp (Jl f h c d) (NM e)
theorem FW{r:R2}{g:PV->PV->Option PV}(f:IxR X r)(e:RB X.K r g)(h:VE X a fa)(d:VE X b fb)(c:Qi b):VE X (.Subscript a b pos) (Zj g fa fb):=
 PE.imp (LF f h d c) (NM e)
end
noncomputable def gI(g:Int->Int->Int):PV->PV->Option PV
 | .int i,.int j=>aA (.int (g i j))
 | _,_=>none
noncomputable def gB(g:Int->Int->Bool):PV->PV->Option PV
 | .int i,.int j=>aA (.bl (g i j))
 | _,_=>none
noncomputable def MJ(C:Int->Int->Prop)[∀i j,Decidable (C i j)](g:Int->Int->Int):PV->PV->Option PV
 | .int i,.int j=>if C i j then aA (.int (g i j)) else none
 | _,_=>none
theorem JK{g:Int->Int->Int}{a b l:PV}(h:gI g a b=aA l):∃i j,a = .int i/\b = .int j/\l = .int (g i j):=by
 unfold gI at h;split at h
 ·cases h;exact⟨_,_,rfl,rfl,rfl⟩
 ·cases h
theorem JL{g:Int->Int->Bool}{a b l:PV}(h:gB g a b=aA l):∃i j,a = .int i/\b = .int j/\l = .bl (g i j):=by
 unfold gB at h;split at h
 ·cases h;exact⟨_,_,rfl,rfl,rfl⟩
 ·cases h
theorem LN{C:Int->Int->Prop}[∀i j,Decidable (C i j)]{g:Int->Int->Int}{a b l:PV}(h:MJ C g a b=aA l):∃i j,a = .int i/\b = .int j/\C i j/\l = .int (g i j):=by
 unfold MJ at h;split at h
 ·split at h
  ·cases h;exact⟨_,_,rfl,rfl,by assumption,rfl⟩
  ·cases h
 ·cases h
theorem FX(g:Int->Int->Int):RB K (IT λi j=>.int (g i j)) (gI g):=λH x y a b l h fb f c e Q k=>by obtain⟨i,j,rfl,rfl,rfl⟩:=JK e;exact⟨i,j,f.int_inv.1,c.int_inv.1,k _ H [] (Same.refl H) (Is.int _) λp d=>by simp at d⟩
theorem FY(g:Int->Int->Bool):RB K (IT λi j=>.bl (g i j)) (gB g):=λH x y a b l h fb f c e Q k=>by obtain⟨i,j,rfl,rfl,rfl⟩:=JL e;exact⟨i,j,f.int_inv.1,c.int_inv.1,k _ H [] (Same.refl H) (Is.bl _) λp d=>by simp at d⟩
theorem U4(C:Int->Int->Prop)[∀i j,Decidable (C i j)](g:Int->Int->Int):RB K (rI C λi j=>.int (g i j)) (MJ C g):=λH x y a b l m fb h d e Q k=>by obtain⟨i,j,rfl,rfl,c,rfl⟩:=LN e;exact⟨i,j,h.int_inv.1,d.int_inv.1,c,k _ H [] (Same.refl H) (Is.int _) λp f=>by simp at f⟩
instance (i j:Int):Decidable (CMul i j):=by unfold CMul;infer_instance
instance (i j:Int):Decidable (OD i j):=by unfold OD;infer_instance
instance (i j:Int):Decidable (IU i j):=by unfold IU;infer_instance
instance (i j:Int):Decidable (Mz i j):=by unfold Mz;infer_instance
abbrev Yd:=gI (· + ·)
abbrev Wx:=gI (· - ·)
abbrev Qo:=MJ CMul (· * ·)
abbrev OL:=MJ OD (· / ·)
abbrev Vl:=MJ (λ_ j=>0<j) (· % ·)
abbrev JM:=MJ Mz (λi j=>i^j.toNat)
abbrev JN:=gB (λi j=>decide (i<j))
abbrev MK:=gB (λi j=>decide (j<i))
section
variable {X:Cx} {a b:au} {fa fb:XE} {pos:dk}
theorem Yf(d:VE X a fa)(c:VE X b fb):VE X (.BinOp a .Add b pos) (Zj Yd fa fb):=Ww HP (FX _) d c
theorem Uu(d:VE X a fa)(c:VE X b fb):VE X (.BinOp a .Sub b pos) (Zj Wx fa fb):=Ww HQ (FX _) d c
theorem Wy(d:VE X a fa)(c:VE X b fb):VE X (.BinOp a .Mult b pos) (Zj Qo fa fb):=Ww HR (U4 _ _) d c
theorem Qp(d:VE X a fa)(c:VE X b fb):VE X (.BinOp a .FloorDiv b pos) (Zj OL fa fb):=Ww Jj (U4 _ _) d c
theorem X5(d:VE X a fa)(c:VE X b fb):VE X (.BinOp a .Mod b pos) (Zj Vl fa fb):=Ww HU (U4 _ _) d c
theorem Gs(d:VE X a fa)(c:VE X b fb):VE X (.BinOp a .Pow b pos) (Zj JM fa fb):=Ww HW (U4 _ _) d c
end
noncomputable def ZT:PV->PV->Option PV
 | .lst l,.int i=>Um l i
 | .cst l,.int i=>Um l i
 | .tup l,.int i=>Um l i
 | .str z,.int i=>if z.length<=sizeLine then(Um z.cps.toList i).map λc=>.str ⟨#[c]⟩ else none
 | _,_=>none
theorem OM{l:List PV}{b:List V}{H:Hp}{c:List aG}{i:Int}{a:PV}(h:Iss K H l b c)(e:Um l i=aA a):∃x f1,Um b i=aA x/\Is K H a x f1/\∀p∈f1,p∈c:=by
 unfold Um at e ⊢;rw[h.len]
 cases q:Oy l.length i with
 | none=>rw[q] at e;cases e
 | some j=>rw[q] at e;exact h.get e
theorem FZ:RB K (DB K) ZT:=λH x y a b l s fb o n e Q k=>by
 unfold ZT at e;split at e
 ·obtain⟨p,m,r,rfl,d,i,rfl⟩:=o.lst_inv;obtain⟨z,f1,g,j,h⟩:=OM i e;exact .inl ⟨p,m,_,z,rfl,n.int_inv.1,SqL.of d,g,k z H f1 (Same.refl H) j λq f=>.inl (aV _ (h q f))⟩
 ·obtain⟨p,m,rfl,d,i⟩:=o.cst_inv;obtain⟨z,f1,g,j,h⟩:=OM i e;exact .inl ⟨p,m,_,z,rfl,n.int_inv.1,d.sq,g,k z H f1 (Same.refl H) j λq f=>.inl (h q f)⟩
 ·obtain⟨p,m,rfl,d,i⟩:=o.tup_inv;obtain⟨z,f1,g,j,h⟩:=OM i e;exact .inr (.inl ⟨p,m,_,z,rfl,n.int_inv.1,SqT.of d,g,k z H f1 (Same.refl H) j λq f=>.inl (h q f)⟩)
 ·split at e
  ·cases q:Um _ _ with
   | none=>rw[q] at e;cases e
   | some c=>
    rw[q] at e;cases e;exact .inr (.inr ⟨_,_,c,o.str_inv.1,n.int_inv.1,by assumption,q,k _ H [] (Same.refl H) (Is.str _) λp d=>by simp at d⟩)
  ·cases e
 ·cases e
section
variable {X:Cx} {a b:au} {fa fb:XE} {pos:dk}
theorem Zk(e:VE X a fa)(d:VE X b fb)(c:Qi b:=by exact λ_ _=>rfl):VE X (.Subscript a b pos) (Zj ZT fa fb):=FW Ge FZ e d c
end
abbrev XT:=ZA->Option Bool
noncomputable def Q5(K:aD)(f:XT):TT:=λσ H Q=>∃(Rm:aG->Prop) (s:ZA) (c:Bool),(∀p,Rm p->Vb (H p))/\EnvIs K Rm H s σ/\f s=aA c/\∀H',Same H H'->Q c H'
noncomputable def VT(X:Cx)(e:au)(f:XT):Prop:=PT X e (Q5 X.K f)
noncomputable def VW(X:Cx)(e:au)(f:XT):Prop:=PW X e (Q5 X.K f)
section
variable {X:Cx} {e:au} {f:XT}
theorem PT.imp{t t':TT}(h:PT X e t)(i:∀a H Q,t' a H Q->t a H Q):PT X e t':=λb s a H Q I q=>h b s a H Q I (i a H Q q)
theorem PW.imp{t t':TT}(h:PW X e t)(i:∀b H Q,t' b H Q->t b H Q):PW X e t':=λa c s b H Q I q=>h a c s b H Q I (i b H Q q)
theorem VW.vt(h:VW X e f):VT X e f:=PW.pt h
end
noncomputable def xB(f:XE):XT:=λs=>match f s with | some (.bl c)=>aA c | _=>none
theorem VF{f:XE}{s:ZA}{c:Bool}(h:xB f s=aA c):f s=aA (.bl c):=by
 unfold xB at h;split at h
 ·cases h;assumption
 ·cases h
section
variable {X:Cx} {a b c:au} {Z8:List au} {fa fb:XE} {ga gb:XT} {pos:dk}
theorem T7(h:VE X a fa)(j:∀whole,jZ a X.env whole=(do let v <-whole;standAt a.pos;holding [v] (truthy v)):=by intro _;rfl):VT X a (xB fa):=
 PT.imp (Hz h j) λl H Q ⟨b,s,c,f,env,e,k⟩=>⟨b,s,.bl c,f,env,VF e,λv g m d i n=>⟨c,i.bl_inv.1,k g d⟩⟩
theorem LO:∀a H Q,Q5 K (xB fa) a H Q->ND (tF K fa) a H Q:=λa H Q ⟨g,s,c,b,env,e,k⟩=>⟨g,s,.bl c,b,env,VF e,λv d h f i n=>⟨c,i.bl_inv.1,k d f⟩⟩
theorem ON{t t':TE}(i:∀a H Q,t' a H Q->t a H Q):∀a H Q,ND t' a H Q->ND t a H Q:=λa H Q h=>i a H _ h
theorem Qq{op:j1}{r:R2}{g:PV->PV->Option PV}(i:U2 X (eM op) r)(f:RB X.K r g)(j:VE X a fa)(d:VE X b fb)(e:ck op b=aB):VT X (.Compare a [op] [b] pos) (xB (Zj g fa fb)):=
 PT.imp (Jm i j d e) λc H Q h=>ON (NM f) c H Q (LO c H Q h)
theorem NN(d:VE X a fa)(c:VE X b fb):VT X (.Compare a [.Lt] [b] pos) (xB (Zj JN fa fb)):=Qq FH (FY _) d c (Uj _)
theorem NO(d:VE X a fa)(c:VE X b fb):VT X (.Compare a [.Gt] [b] pos) (xB (Zj MK fa fb)):=Qq FI (FY _) d c (Uj _)
noncomputable def Pq(a b:XT):XT:=λs=>(a s).bind λc=>if c=aC then b s else aA aB
noncomputable def K9(a b:XT):XT:=λs=>(a s).bind λc=>if c=aC then aA aC else b s
noncomputable def OO(a:XT):XT:=λs=>(a s).map not
theorem JO:∀a H Q,Q5 K (Pq ga gb) a H Q->Fq (Q5 K ga) (Q5 K gb) a H Q:=λa H Q ⟨f,s,c,b,env,e,k⟩=>by
 unfold Pq at e
 cases q:ga s with
 | none=>rw[q] at e;cases e
 | some d=>
  rw[q] at e;refine⟨f,s,d,b,env,q,λh s1=>?_⟩
  cases d with
  | true=>
   exact⟨f,s,c,λp g=>Same.mut s1 (b p g),env.mono s1,e,λi s2=>k i (s1.trans s2)⟩
  | false=>
   cases e;exact k h s1
theorem Gu:∀a H Q,Q5 K (K9 ga gb) a H Q->Dy (Q5 K ga) (Q5 K gb) a H Q:=λa H Q ⟨f,s,c,b,env,e,k⟩=>by
 unfold K9 at e
 cases q:ga s with
 | none=>rw[q] at e;cases e
 | some d=>
  rw[q] at e;refine⟨f,s,d,b,env,q,λh s1=>?_⟩
  cases d with
  | true=>
   cases e;exact k h s1
  | false=>
   exact⟨f,s,c,λp g=>Same.mut s1 (b p g),env.mono s1,e,λi s2=>k i (s1.trans s2)⟩
theorem NP(b:VT X a ga):VW X (.BoolOp .And [a] pos) ga:=Jg b
theorem OP(b:VT X a ga):VW X (.BoolOp .Or [a] pos) ga:=HA b
theorem LP(d:VT X a ga)(c:VW X (.BoolOp .And (b::Z8) pos) gb):VW X (.BoolOp .And (a::b::Z8) pos) (Pq ga gb):=PW.imp (HB d c) JO
theorem NQ(d:VT X a ga)(c:VW X (.BoolOp .Or (b::Z8) pos) gb):VW X (.BoolOp .Or (a::b::Z8) pos) (K9 ga gb):=PW.imp (Fs d c) Gu
theorem OQ(g:VT X a ga):VT X (.UnaryOp .Not a pos) (OO ga):=PT.imp (HC g) λh H Q ⟨f,s,c,b,env,e,k⟩=>by
 unfold OO at e
 cases q:ga s with
 | none=>rw[q] at e;cases e
 | some d=>rw[q] at e;cases e;exact⟨f,s,d,b,env,q,k⟩
end
section
variable {X:Cx} {a b c:au} {Z8:List au} {fa fb:XE} {gc:XT} {pos:dk}
noncomputable def Tf(a b:XE):XE:=λs=>(xB a s).bind λc=>if c=aC then b s else aA (.bl aB)
noncomputable def DU(a b:XE):XE:=λs=>(xB a s).bind λc=>if c=aC then aA (.bl aC) else b s
noncomputable def JP(a:XE):XE:=λs=>(xB a s).map λc=>.bl !c
noncomputable def Gv(c:XT)(a b:XE):XE:=λs=>(c s).bind λk=>if k=aC then a s else b s
theorem Qr{op}(h:VE X a fa):VE X (.BoolOp op [a] pos) fa:=HD h
theorem Uv(u:VE X a fa)(j:VE X (.BoolOp .And (b::Z8) pos) fb):VE X (.BoolOp .And (a::b::Z8) pos) (Tf fa fb):=PE.imp (HE u j) λw H Q ⟨g,s,l,h,env,e,k⟩=>by
 unfold Tf at e
 cases q:xB fa s with
 | none=>rw[q] at e;cases e
 | some d=>
  rw[q] at e;refine⟨g,s,.bl d,h,env,VF q,λv m x s1 o _=>⟨d,o.bl_inv.1,?_⟩⟩
  cases d with
  | true=>
   exact⟨g,s,l,λp c=>Same.mut s1 (h p c),env.mono s1,e,λi t f s2 r n=>k i t f (s1.trans s2) r n⟩
  | false=>
   cases e;exact k _ m [] s1 (Is.bl aB) λp c=>by simp at c
theorem Gw(i:VE X a fa):VE X (.UnaryOp .Not a pos) (JP fa):=PE.imp (HF i) λj H Q ⟨c,s,l,h,env,e,k⟩=>by
 unfold JP at e
 cases q:xB fa s with
 | none=>rw[q] at e;cases e
 | some d=>
  rw[q] at e;cases e;exact⟨c,s,.bl d,h,env,VF q,λv b m s1 f _=>⟨d,f.bl_inv.1,k _ b [] s1 (Is.bl _) λp g=>by simp at g⟩⟩
theorem IW(t:VT X c gc)(u:VE X a fa)(r:VE X b fb):VE X (.IfExp c a b pos) (Gv gc fa fb):=PE.imp (Lu t u r) λw H Q ⟨h,s,l,n,env,e,k⟩=>by
 unfold Gv at e
 cases q:gc s with
 | none=>rw[q] at e;cases e
 | some d=>
  rw[q] at e;refine⟨h,s,d,n,env,q,λv s1=>?_⟩
  cases d with
  | true=>
   exact⟨h,s,l,λp m=>Same.mut s1 (n p m),env.mono s1,e,λg o f s2 j i=>k g o f (s1.trans s2) j i⟩
  | false=>
   exact⟨h,s,l,λp m=>Same.mut s1 (n p m),env.mono s1,e,λg o f s2 j i=>k g o f (s1.trans s2) j i⟩
end
section
variable {X:Cx} {a b c:au} {fa fb fc:XE} {pos:dk}
noncomputable def F0(neg:Bool):PV->Option PV
 | .non=>aA (.bl !neg)
 | _=>aA (.bl neg)
noncomputable def LQ:PV->Bool
 | .non=>aC
 | _=>aB
theorem OR{H:Hp}{l:PV}{v:V}{g:List aG}(i:Is K H l v g):decide (v=V.non)=LQ l:=by
 cases l with
 | non=>rw[i.non_inv.1];rfl
 | bl b=>rw[i.bl_inv.1];rfl
 | int j=>rw[i.int_inv.1];rfl
 | str y=>rw[i.str_inv.1];rfl
 | ty n=>rw[i.ty_inv.1];rfl
 | exc C=>obtain⟨⟨e,o,x,C,rfl,_⟩,_⟩:=i;rfl
 | exf C l=>obtain⟨⟨e,o,x,C,m,q,u,z,rfl,_⟩,_⟩:=i;rfl
 | clo C l=>obtain⟨u,x,⟨f,s,c,r,e,h,k,ct,rfl,_⟩,_⟩:=i;rfl
 | lst l=>obtain⟨p,a,d,rfl,_⟩:=i.lst_inv;rfl
 | cst l=>obtain⟨p,a,rfl,_⟩:=i.cst_inv;rfl
 | tup l=>obtain⟨p,a,rfl,_⟩:=i.tup_inv;rfl
 | dK ks l=>obtain⟨p,a,d,rfl,_⟩:=i.dK_inv;rfl
 | dT ks l=>obtain⟨p,a,d,rfl,_⟩:=i.dT_inv;rfl
noncomputable def LR(neg:Bool)(a:XE):XE:=λs=>(a s).bind (F0 neg)
theorem LS:∀a H Q,tF K (LR aC fa) a H Q->IM (tF K fa) a H Q:=λa H Q ⟨g,s,l,c,env,e,k⟩=>by
 unfold LR at e
 cases q:fa s with
 | none=>rw[q] at e;cases e
 | some m=>
  rw[q] at e;refine⟨g,s,m,c,env,q,λv b h s1 d _=>?_⟩;show Q _ b;rw[OR d];have:l = .bl (!LQ m):=by cases m<;>cases e<;>rfl
  subst this;exact k _ b [] s1 (Is.bl _) λp f=>by simp at f
theorem F1:∀a H Q,Q5 K (xB fa) a H Q->tB (tF K fa) a H Q:=λa H Q ⟨g,s,c,b,env,e,k⟩=>⟨g,s,.bl c,b,env,VF e,λv d h f i n=>⟨c,i.bl_inv.1,k d f⟩⟩
theorem JQ{t t':TE}(i:∀a H Q,t' a H Q->t a H Q):∀a H Q,tB t' a H Q->tB t a H Q:=λa H Q h=>i a H _ h
theorem JR{j pos'}(c:VE X a fa):VT X (.Compare a [.IsNot] [.Constant .none j pos'] pos) (xB (LR aC fa)):=PT.imp (Hy (Jf c)) λb H Q h=>JQ LS b H Q (F1 b H Q h)
noncomputable def JS:PV->Option PV
 | .int i=>aA (.int (-i))
 | _=>none
noncomputable def Gx(g:PV->Option PV)(a:XE):XE:=λs=>(a s).bind g
theorem LU(h:VE X a fa):VE X (.UnaryOp .USub a pos) (Gx JS fa):=PE.imp (FE HX h) λi H Q ⟨c,s,l,g,env,e,k⟩=>by
 unfold Gx at e
 cases q:fa s with
 | none=>rw[q] at e;cases e
 | some m=>
  rw[q] at e;simp only[a9] at e;unfold JS at e;split at e
  ·cases e;exact⟨c,s,_,g,env,q,λv b j s1 d _=>⟨_,d.int_inv.1,k _ b [] s1 (Is.int _) λp f=>by simp at f⟩⟩
  ·cases e
end
end VL
namespace VL
open PySem PySem.Spec PyProof.Rows L2
variable {K:aD}
noncomputable def Tg:List XE->ZA->Option (List PV)
 | [],_=>aA []
 | f::fs,s=>(f s).bind λx=>(Tg fs s).map (x::·)
theorem Pr{f:XE}{fs:List XE}{s:ZA}{ls:List PV}(h:Tg (f::fs) s=aA ls):∃x r,f s=aA x/\Tg fs s=aA r/\ls=x::r:=by
 unfold Tg at h
 cases q:f s with
 | none=>rw[q] at h;cases h
 | some x=>cases q2:Tg fs s with
  | none=>rw[q,q2] at h;cases h
  | some r=>rw[q,q2] at h;cases h;exact⟨x,r,rfl,rfl,rfl⟩
theorem WV:∀{fs:List XE}{s:ZA}{ls:List PV},Tg fs s=aA ls->ls.length=fs.length
 | [],_,_,h=>by cases h;rfl
 | f::fs,s,ls,h=>by obtain⟨x,r,_,a,rfl⟩:=Pr h;rw[b9,b9,WV a]
noncomputable def Ex(K:aD)(fs:List XE):TA:=λσ H Q=>∃(Rm:aG->Prop) (s:ZA) (ls:List PV),(∀p,Rm p->Vb (H p))/\EnvIs K Rm H s σ/\Tg fs s=aA ls/\∀vs H' fp,Same H H'->Iss K H' ls vs fp->(∀p∈fp,¬Rm p)->Q vs H'
noncomputable def DV(K:aD)(fs:List XE):TA:=λσ H Q=>∃(s:ZA) (ls:List PV),EnvIs K (λ_=>False) H s σ/\Tg fs s=aA ls/\∀vs H' fp,Same H H'->Iss K H' ls vs fp->fp.Nodup->(∀p∈fp,H p=none/\Vb (H' p))->Q vs H'
noncomputable def VA(X:Cx)(es:List au)(fs:List XE):Prop:=PA X es (Ex X.K fs)
noncomputable def DE(X:Cx)(es:List au)(fs:List XE):Prop:=PA X es (DV X.K fs)
section
variable {X:Cx} {e:au} {es:List au} {f:XE} {fs:List XE} {pos:dk} {k:Nat}
theorem PA.imp{t t':TA}(h:PA X es t)(i:∀a H Q,t' a H Q->t a H Q):PA X es t':=λb c s a H Q I q=>h b c s a H Q I (i a H Q q)
theorem Gy:VA X [] []:=PA.imp Uk λc H Q ⟨d,s,ls,b,env,e,k⟩=>by
 cases e;exact k [] H [] (Same.refl H) Iss.nil λp a=>by simp at a
theorem VG(u:VE X e f)(i:VA X es fs)(q:aT (e::es) X.env=(aB,eval e X.env)::aT es X.env:=by rfl):VA X (e::es) (f::fs):=PA.imp (Xp u i q) λw H Q ⟨b,s,ls,c,env,e,k⟩=>by
 obtain⟨d,o,j,r,rfl⟩:=Pr e;refine⟨b,s,d,c,env,j,λx v f1 s1 m g=>⟨b,s,o,λp a=>Same.mut s1 (c p a),env.mono s1,r,λy t f2 s2 n l=>?_⟩⟩;refine k _ t (f1++f2) (s1.trans s2) (Iss.cons (m.mono s2) n) λp a=>?_;rcases bj.mp a with h | h
 ·exact g p h
 ·exact l p h
theorem Tr:DE X [] []:=PA.imp Uk λb H Q ⟨s,ls,env,e,k⟩=>by
 cases e;exact k [] H [] (Same.refl H) Iss.nil cW λp a=>by simp at a
noncomputable def Pu(fs:List XE):XE:=λs=>(Tg fs s).map .tup
noncomputable def VH(fs:List XE):XE:=λs=>(Tg fs s).map .lst
theorem map_some{d c:Type}{o:Option d}{g:d->c}{b:c}(h:o.map g=aA b):∃a,o=aA a/\b=g a:=by
 cases o with
 | none=>cases h
 | some a=>cases h;exact⟨a,rfl,rfl⟩
theorem Uw(h:VA X es fs)(m:fs.length<=1000:=by decide):VE X (.Tuple es k pos) (Pu fs):=PE.imp (HZ h) λn H Q ⟨f,s,l,g,env,e,q⟩=>by
 obtain⟨ls,a,rfl⟩:=map_some e;refine⟨f,s,ls,g,env,a,λvs j i s1 b d=>⟨?_,λp c=>?_⟩⟩
 ·rw[b.len,WV a];exact cV (lt_size (by omega))
 ·exact q _ _ i (s1.trans (Same.new c _)) (Is.tup Zp (b.mono (Same.new c _))) d
theorem OS(h:VA X es fs)(n:fs.length<=1000:=by decide):VE X (.List es pos) (VH fs):=PE.imp (LA h) λo H Q ⟨j,s,l,g,env,e,q⟩=>by
 obtain⟨ls,d,rfl⟩:=map_some e;refine⟨j,s,ls,g,env,d,λvs m k s1 f i=>⟨?_,λp b=>?_⟩⟩
 ·rw[f.len,WV d];exact cV (lt_size (by omega))
 ·refine q _ _ (p::k) (s1.trans (Same.new b _)) (Is.lst Zp (f.mono (Same.new b _))) λa c z=>?_;rcases aa.mp c with rfl | c
  ·exact YO (Same.mut s1 (g a z)) b
  ·exact i a c z
theorem Qs(h:DE X es fs)(m:fs.length<=1000:=by decide):VM X (.List es pos) (VH fs):=PE.imp (LA h) λn H Q ⟨s,l,env,e,q⟩=>by
 obtain⟨ls,f,rfl⟩:=map_some e;refine⟨s,ls,env,f,λvs k j s1 g i d=>⟨?_,λp b=>?_⟩⟩
 ·rw[g.len,WV f];exact cV (lt_size (by omega))
 ·refine q _ _ (p::j) (s1.trans (Same.new b _)) (Is.lst Zp (g.mono (Same.new b _))) (bM.mpr ⟨λz=>YO (d p z).2 b,i⟩) λa c=>?_;rcases aa.mp c with rfl | c
  ·exact⟨Same.off s1 b,by rw[Zp];exact cT⟩
  ·exact⟨(d a c).1,Same.mut (Same.new b _) (d a c).2⟩
end
noncomputable def Xq(K:aD)(D:List PV->Option PV)(n:Nat):Sp:=λvs H Q _=>vs.length=n/\∃ls fp l,Iss K H ls vs fp/\D ls=aA l/\∀v H' fq,Same H H'->Is K H' l v fq->fq.Nodup->(∀p∈fq,H p=none/\Vb (H' p))->Q v H'
noncomputable def Zc(D:List PV->Option PV)(fs:List XE):XE:=λs=>(Tg fs s).bind D
theorem Zd{d c:Type}{o:Option d}{g:d->Option c}{b:c}(h:o.bind g=aA b):∃a,o=aA a/\g a=aA b:=by
 cases o with
 | none=>cases h
 | some a=>exact⟨a,rfl,h⟩
section
variable {X:Cx} {x:ah} {ps:List ah} {k:Nat} {e:au} {es:List au} {fs:List XE} {p pos:dk}
theorem NR{D:List PV->Option PV}{n:Nat}(C:XZ X.prog X.w X.K X.mg X.base x ps (Xq X.K D n) k)(j:Room k X.A)(m:Gl X x)(b:VA X (e::es) fs)(w:fs.length=n:=by rfl)
  (c:(x==("__debug__" : ah))=aB:=by decide) (B:aT (e::es) X.env=(aB,eval e X.env)::aT es X.env:=by rfl) (d:(dh pos (aT es X.env)).any (·.1)=aB:=by rfl) :
  VM X (.Call (.Name x p) (e::es) [] pos) (Zc D fs):=PE.imp (OK C j m b c B d) λF H Q ⟨s,l,env,e,q⟩=>by
 obtain⟨ls,f,u⟩:=Zd e;refine⟨λ_=>False,s,ls,λ_ z=>z.elim,env,f,λvs i y s1 h E=>?_⟩;show Xq X.K D n (vs++[]) i Q E0;rw[dA];exact⟨by rw[h.len,WV f,w],ls,y,l,h,u,λv A r s2 t o g=>q v A r (s1.trans s2) t o λa b=>⟨Same.off s1 (g a b).1,(g a b).2⟩⟩
end
noncomputable def RC(K:aD)(r:List V->Hp->VK->Prop)(g:List PV->Option PV):Prop:=∀(H:Hp)(vs:List V)(ls:List PV)(l:PV)(fp:List aG),Iss K H ls vs fp->g ls=aA l->∀Q:VK,
 (∀v H' fq,Same H H'->Is K H' l v fq->(∀p∈fq,p∈fp\/H p=none)->Q v H')->r vs H Q
noncomputable def De(K:aD)(r:List V->Hp->VK->Prop)(g:List PV->Option PV):Prop:=∀(H:Hp)(vs:List V)(ls:List PV)(l:PV)(fp:List aG),Iss K H ls vs fp->g ls=aA l->∀Q:VK,
 (∀v H' fq,Same H H'->Is K H' l v fq->fq.Nodup->(∀p∈fq,H p=none/\Vb (H' p))->Q v H')->r vs H Q
theorem IX{r:List V->Hp->VK->Prop}{g:List PV->Option PV}{fs:List XE}(i:RC K r g):∀a H Q,tF K (Zc g fs) a H Q->Er r (Ex K fs) a H Q:=λa H Q ⟨f,s,l,b,env,e,k⟩=>by
 obtain⟨ls,j,u⟩:=Zd e;refine⟨f,s,ls,b,env,j,λvs d w s1 o c=>i d vs ls l w o u Q λv x m s2 q n=>k v x m (s1.trans s2) q λp t z=>?_⟩;rcases n p t with h | h
 ·exact c p h z
 ·exact YO (Same.mut s1 (b p z)) h
theorem F2{r:List V->Hp->VK->Prop}{g:List PV->Option PV}{fs:List XE}(f:De K r g):∀a H Q,tM K (Zc g fs) a H Q->Er r (Ex K fs) a H Q:=λa H Q ⟨s,l,env,e,k⟩=>by obtain⟨ls,i,o⟩:=Zd e;exact⟨λ_=>False,s,ls,λ_ z=>z.elim,env,i,λvs d q s1 m u=>f d vs ls l q m o Q λv t j s2 n h b=>k v t j (s1.trans s2) n h λp c=>⟨Same.off s1 (b p c).1,(b p c).2⟩⟩
section
variable {X:Cx} {x:ah} {k:Nat} {e:au} {es:List au} {fs:List XE} {p pos:dk} {id T:String} {r:List V->Hp->VK->Prop} {g:List PV->Option PV}
theorem Pw(d:YT X (.builtin id) r)(j:RC X.K r g)(i:Gl X x)(h:X.mg x=none)(f:cU x=aA (.builtin id))(l:VA X (e::es) fs)(c:x≠"__name__":=by decide)(a:(x==("__debug__" : ah))=aB:=by decide)
  (k:aT (e::es) X.env=(aB,eval e X.env)::aT es X.env:=by rfl) (b:(dh pos (aT es X.env)).any (·.1)=aB:=by rfl):VE X (.Call (.Name x p) (e::es) [] pos) (Zc g fs):=
 PE.imp (LC d i h f l c a k b) (IX j)
theorem Zs(d:YT X (.type T) r)(j:RC X.K r g)(i:Gl X x)(h:X.mg x=none)(f:cU x=aA (.type T))(l:VA X (e::es) fs)(c:x≠"__name__":=by decide)(a:(x==("__debug__" : ah))=aB:=by decide)
  (k:aT (e::es) X.env=(aB,eval e X.env)::aT es X.env:=by rfl) (b:(dh pos (aT es X.env)).any (·.1)=aB:=by rfl):VE X (.Call (.Name x p) (e::es) [] pos) (Zc g fs):=
 PE.imp (RE d i h f l c a k b) (IX j)
theorem RL(d:YT X (.type T) r)(j:De X.K r g)(i:Gl X x)(h:X.mg x=none)(f:cU x=aA (.type T))(l:VA X (e::es) fs)(c:x≠"__name__":=by decide)(a:(x==("__debug__" : ah))=aB:=by decide)
  (k:aT (e::es) X.env=(aB,eval e X.env)::aT es X.env:=by rfl) (b:(dh pos (aT es X.env)).any (·.1)=aB:=by rfl):VM X (.Call (.Name x p) (e::es) [] pos) (Zc g fs):=
 PE.imp (RE d i h f l c a k b) (F2 j)
end
theorem Iss.one_inv{H:Hp}{l:PV}{vs:List V}{c:List aG}(h:Iss K H [l] vs c):∃v,vs=[v]/\Is K H l v c:=by obtain⟨x,r,f1,f2,rfl,a,b,rfl⟩:=h.inv;rw[b.1,b.2,dA];exact⟨x,rfl,a⟩
theorem Iss.two_inv{H:Hp}{l m:PV}{vs:List V}{d:List aG}(h:Iss K H [l,m] vs d):∃v w f1 f2,vs=[v,w]/\Is K H l v f1/\Is K H m w f2/\d=f1++f2:=by obtain⟨x,r,f1,f2,rfl,a,b,rfl⟩:=h.inv;obtain⟨y,rfl,c⟩:=b.one_inv;exact⟨x,y,f1,f2,rfl,a,c,rfl⟩
noncomputable def Th:PV->Option (List PV)
 | .lst l=>aA l
 | .cst l=>aA l
 | .tup l=>aA l
 | _=>none
theorem WW{H:Hp}{l:PV}{v:V}{g:List aG}{m:List PV}(h:Is K H l v g)(e:Th l=aA m):∃p a f,v = .ref p/\(SqL K H p a\/SqT K H p a)/\Iss K H m a f/\∀q∈f,q∈g:=by
 cases l with
 | lst l=>
  cases e;obtain⟨p,a,f,rfl,b,c,rfl⟩:=h.lst_inv;exact⟨p,a,f,rfl,.inl (SqL.of b),c,λq d=>aV _ d⟩
 | cst l=>
  cases e;obtain⟨p,a,rfl,b,c⟩:=h.cst_inv;exact⟨p,a,g,rfl,.inl b.sq,c,λq d=>d⟩
 | tup l=>
  cases e;obtain⟨p,a,rfl,b,c⟩:=h.tup_inv;exact⟨p,a,g,rfl,.inr (SqT.of b),c,λq d=>d⟩
 | _=>cases e
noncomputable def Yo:List PV->Option PV
 | [.str z]=>if z.length<=sizeLine then aA (.int z.length) else none
 | [l]=>(Th l).map λm=>.int m.length
 | _=>none
theorem Gz:RC K (λb H Q=>∃x n,b=[x]/\FJ K x H n/\Q (.int n) H) Yo:=λH vs ls l g h e Q k=>by
 unfold Yo at e;split at e
 ·split at e
  ·cases e;obtain⟨v,rfl,i⟩:=h.one_inv;exact⟨v,_,rfl,by rw[i.str_inv.1];exact⟨by assumption,rfl⟩,k _ H [] (Same.refl H) (Is.int _) λp a=>by simp at a⟩
  ·cases e
 ·obtain⟨m,c,rfl⟩:=map_some e;obtain⟨v,rfl,i⟩:=h.one_inv;obtain⟨p,b,f,rfl,a,d,_⟩:=WW i c;refine⟨_,b.length,rfl,?_,?_⟩
  ·rcases a with a | a
   ·exact .inl ⟨b,a,rfl⟩
   ·exact .inr ⟨b,a,rfl⟩
  ·rw[d.len];exact k _ H [] (Same.refl H) (Is.int _) λp a=>by simp at a
 ·cases e
noncomputable def ZH:List PV->Option PV
 | [l]=>(Th l).map .tup
 | _=>none
theorem ZD:RC K (Gq K) ZH:=λH vs ls l n h e Q k=>by
 unfold ZH at e;split at e
 ·obtain⟨m,g,rfl⟩:=map_some e;obtain⟨v,rfl,i⟩:=h.one_inv;rename_i l0
  cases l0 with
  | tup l=>
   cases g;obtain⟨p,d,rfl,c,j⟩:=id i.tup_inv;exact⟨p,d,rfl,.inr ⟨SqT.of c,k _ H n (Same.refl H) i λa f=>.inl f⟩⟩
  | lst l=>
   cases g;obtain⟨p,d,o,rfl,c,j,rfl⟩:=i.lst_inv;exact⟨p,d,rfl,.inl ⟨SqL.of c,λq b=>k _ _ o (Same.new b _) (Is.tup Zp (j.mono (Same.new b _))) λa f=>.inl (aV _ f)⟩⟩
  | cst l=>
   cases g;obtain⟨p,d,rfl,c,j⟩:=i.cst_inv;exact⟨p,d,rfl,.inl ⟨c.sq,λq b=>k _ _ n (Same.new b _) (Is.tup Zp (j.mono (Same.new b _))) λa f=>.inl f⟩⟩
  | _=>cases g
 ·cases e
noncomputable def Ux:List PV->Option PV
 | [l]=>(Th l).bind λm=>if Zw m=aC then aA (.lst m) else none
 | _=>none
theorem Px:De K (JE K) Ux:=λH vs ls l s h e Q k=>by
 unfold Ux at e;split at e
 ·obtain⟨m,f,c⟩:=Zd e;split at c
  ·cases c;obtain⟨v,rfl,i⟩:=h.one_inv;obtain⟨p,j,o,rfl,g,d,r⟩:=WW i f;have:=Iss.pure _ _ _ (by assumption) d;subst this;refine⟨p,j,rfl,g,λq b=>k _ _ [q] (Same.new b _) (Is.lst Zp (d.mono (Same.new b _))) (by simp) λa n=>?_⟩;rw[av.mp n];exact⟨b,by rw[Zp];exact cT⟩
  ·cases c
 ·cases e
noncomputable def XB:List PV->Option (List Int)
 | []=>aA []
 | .int i::r=>(XB r).map (i::·)
 | _=>none
theorem YY:∀l:List Int,XB (iL l)=aA l
 | []=>rfl
 | i::r=>by show(XB (iL r)).map (i::·)=_;rw[YY r];rfl
theorem Xr:∀{m:List PV}{l:List Int},XB m=aA l->m=iL l
 | [],l,h=>by cases h;rfl
 | .int i::r,l,h=>by obtain⟨a,e,rfl⟩:=map_some (show(XB r).map (i::·)=aA l from h);rw[Xr e];rfl
 | .non::_,_,h=>by cases h
 | .bl _::_,_,h=>by cases h
 | .str _::_,_,h=>by cases h
 | .ty _::_,_,h=>by cases h
 | .exc _::_,_,h=>by cases h
 | .exf _ _::_,_,h=>by cases h
 | .clo _ _::_,_,h=>by cases h
 | .tup _::_,_,h=>by cases h
 | .lst _::_,_,h=>by cases h
 | .cst _::_,_,h=>by cases h
 | .dK _ _::_,_,h=>by cases h
 | .dT _ _::_,_,h=>by cases h
abbrev bL(l:List Bool):List PV:=l.map PV.bl
noncomputable def X6:List PV->Option (List Bool)
 | []=>aA []
 | .bl i::r=>(X6 r).map (i::·)
 | _=>none
theorem XC:∀l:List Bool,X6 (bL l)=aA l
 | []=>rfl
 | i::r=>by show(X6 (bL r)).map (i::·)=_;rw[XC r];rfl
theorem X7:∀{m:List PV}{l:List Bool},X6 m=aA l->m=bL l
 | [],l,h=>by cases h;rfl
 | .bl i::r,l,h=>by obtain⟨a,e,rfl⟩:=map_some (show(X6 r).map (i::·)=aA l from h);rw[X7 e];rfl
 | .non::_,_,h=>by cases h
 | .int _::_,_,h=>by cases h
 | .str _::_,_,h=>by cases h
 | .ty _::_,_,h=>by cases h
 | .exc _::_,_,h=>by cases h
 | .exf _ _::_,_,h=>by cases h
 | .clo _ _::_,_,h=>by cases h
 | .tup _::_,_,h=>by cases h
 | .lst _::_,_,h=>by cases h
 | .cst _::_,_,h=>by cases h
 | .dK _ _::_,_,h=>by cases h
 | .dT _ _::_,_,h=>by cases h
theorem Iss.bL{H:Hp}:∀{l:List Bool}{xs:List V}{fp:List aG},Iss K H (VL.bL l) xs fp->xs=l.map V.bl/\fp=[]
 | [],xs,fp,h=>by simpa only[VL.bL,List.map_nil,Iss] using h
 | i::l,xs,fp,h=>by obtain⟨x,r,f1,f2,rfl,b,a,rfl⟩:=Iss.inv (show Iss K H (PV.bl i::VL.bL l) xs fp from h);obtain⟨rfl,rfl⟩:=b.bl_inv;obtain⟨rfl,rfl⟩:=a.bL;exact⟨rfl,rfl⟩
theorem Qt{H:Hp}{p:aG}{a:List V}(h:SqL K H p a\/SqT K H p a):∃b,Tc b K H p a:=by
 rcases h with h | h
 ·exact⟨aC,h⟩
 ·exact⟨aB,h⟩
noncomputable def VJ:List PV->Option PV
 | [l]=>(Th l).bind λm=>(XB m).map λns=>.int ns.sum
 | _=>none
noncomputable def Rg:List PV->Option PV
 | [l]=>(Th l).bind λm=>(X6 m).map λbs=>.bl (bs.all id)
 | _=>none
noncomputable def LV:List PV->Option PV
 | [l]=>(Th l).bind λm=>(X6 m).map λbs=>.bl (bs.any id)
 | _=>none
theorem Qu:RC K (λd H Q=>∃(b:Bool) (p:aG) (a:List Int),d=[.ref p]/\Tc b K H p (a.map V.int)/\Q (.int a.sum) H) VJ:=λH vs ls l t h e Q k=>by
 unfold VJ at e;split at e
 ·obtain⟨m,j,q⟩:=Zd e;obtain⟨a,n,rfl⟩:=map_some q;obtain⟨v,rfl,i⟩:=h.one_inv;obtain⟨p,d,r,rfl,c,o,s⟩:=WW i j;have g:=Xr n;subst g;obtain⟨rfl,rfl⟩:=o.iL;obtain⟨b,f⟩:=Qt c;exact⟨b,p,a,rfl,f,k _ H [] (Same.refl H) (Is.int _) λp c=>by simp at c⟩
 ·cases e
theorem OT:RC K (λc H Q=>∃(b:Bool) (p:aG) (bs:List Bool),c=[.ref p]/\Tc b K H p (bs.map V.bl)/\Q (.bl (bs.all id)) H) Rg:=λH vs ls l t h e Q k=>by
 unfold Rg at e;split at e
 ·obtain⟨m,j,q⟩:=Zd e;obtain⟨f,n,rfl⟩:=map_some q;obtain⟨v,rfl,i⟩:=h.one_inv;obtain⟨p,c,r,rfl,a,o,s⟩:=WW i j;have g:=X7 n;subst g;obtain⟨rfl,rfl⟩:=o.bL;obtain⟨b,d⟩:=Qt a;exact⟨b,p,f,rfl,d,k _ H [] (Same.refl H) (Is.bl _) λp a=>by simp at a⟩
 ·cases e
theorem GA:RC K (λc H Q=>∃(b:Bool) (p:aG) (bs:List Bool),c=[.ref p]/\Tc b K H p (bs.map V.bl)/\Q (.bl (bs.any id)) H) LV:=λH vs ls l t h e Q k=>by
 unfold LV at e;split at e
 ·obtain⟨m,j,q⟩:=Zd e;obtain⟨f,n,rfl⟩:=map_some q;obtain⟨v,rfl,i⟩:=h.one_inv;obtain⟨p,c,r,rfl,a,o,s⟩:=WW (K:=K) i j;have g:=X7 n;subst g;obtain⟨rfl,rfl⟩:=o.bL;obtain⟨b,d⟩:=Qt a;exact⟨b,p,f,rfl,d,k _ H [] (Same.refl H) (Is.bl _) λp a=>by simp at a⟩
 ·cases e
noncomputable def Py:List PV->Option PV
 | [.int i,.int j]=>aA (.int (if j<i then j else i))
 | _=>none
noncomputable def F3:List PV->Option PV
 | [.int i,.int j]=>aA (.int (if j>i then j else i))
 | _=>none
noncomputable def OU:List PV->Option PV
 | [.int i]=>aA (.int (if i<0 then -i else i))
 | _=>none
noncomputable def T8:List PV->Option PV
 | [.int i]=>aA (.int i)
 | [.bl c]=>aA (.int (if c then 1 else 0))
 | _=>none
theorem JT:RC K (λc H Q=>∃i j,c=[.int i,.int j]/\Q (.int (if j<i then j else i)) H) Py:=λH vs ls l f h e Q k=>by
 unfold Py at e;split at e
 ·cases e;obtain⟨v,w,f1,f2,rfl,a,b,rfl⟩:=h.two_inv;exact⟨_,_,by rw[a.int_inv.1,b.int_inv.1],k _ H [] (Same.refl H) (Is.int _) λp d=>by simp at d⟩
 ·cases e
theorem LW:RC K (λb H Q=>∃i,b=[.int i]/\Q (.int (if i<0 then -i else i)) H) OU:=λH vs ls l d h e Q k=>by
 unfold OU at e;split at e
 ·cases e;obtain⟨v,rfl,a⟩:=h.one_inv;exact⟨_,by rw[a.int_inv.1],k _ H [] (Same.refl H) (Is.int _) λp c=>by simp at c⟩
 ·cases e
theorem NS:RC K (λc H Q=>(∃i,c=[.int i]/\Q (.int i) H)\/∃k,c=[.bl k]/\Q (.int (if k then 1 else 0)) H) T8:=λH vs ls l d h e Q k=>by
 unfold T8 at e;split at e
 ·cases e;obtain⟨v,rfl,a⟩:=h.one_inv;exact .inl ⟨_,by rw[a.int_inv.1],k _ H [] (Same.refl H) (Is.int _) λp b=>by simp at b⟩
 ·cases e;obtain⟨v,rfl,a⟩:=h.one_inv;exact .inr ⟨_,by rw[a.bl_inv.1],k _ H [] (Same.refl H) (Is.int _) λp b=>by simp at b⟩
 ·cases e
section
variable {X:Cx} {e:au} {es:List au} {fs:List XE} {p pos:dk}
noncomputable def DF:PV->Option String
 | .int _=>aA "int"
 | .bl _=>aA "bool"
 | .tup _=>aA "tuple"
 | .lst _=>aA "list"
 | .str _=>aA "str"
 | _=>none
noncomputable def Wn:List PV->Option PV
 | [a,.ty t]=>(DF a).bind λu=>if t=u then aA (.bl aC) else if u = "int"/\t = "bool" then aA (.bl aB) else none
 | _=>none
theorem Rh:cM K (.type "bool") (.type "bool")=aA aC:=rfl
theorem GB{H:Hp}{a:PV}{u:String}{v:V}{f:List aG}(e:DF a=aA u)(h:Is K H a v f):TyOf K H v (.type u)/\cM K (.type u) (.type u)=aA aC:=by
 cases a<;>first
  | exact nomatch (show none=aA u from e)
  | cases e
 ·obtain⟨rfl,_⟩:=h.bl_inv;exact⟨TyOf.bl _,Rh⟩
 ·obtain⟨rfl,_⟩:=h.int_inv;exact⟨TyOf.int _,Pj⟩
 ·obtain⟨rfl,_⟩:=h.str_inv;exact⟨TyOf.str _,Pm⟩
 ·obtain⟨q,c,rfl,b,_⟩:=h.tup_inv;exact⟨TyOf.tup b,Pk⟩
 ·obtain⟨q,c,d,rfl,b,_⟩:=h.lst_inv;exact⟨TyOf.lst b,Rc⟩
theorem VN:RC K (λm H Q=>∃x T t b,m=[x,.ty T]/\TyOf K H x t/\cM K t (.type T)=aA b/\Q (.bl b) H) Wn:=λH vs ls l n h e Q k=>by
 have c:∀b:Bool,l = .bl b->Q (.bl b) H:=λb z=>by subst z;exact k _ H [] (Same.refl H) (Is.bl _) λp j=>by simp at j
 unfold Wn at e;split at e
 ·obtain⟨u,i,d⟩:=Zd e;obtain⟨v,w,f1,f2,rfl,a,b,rfl⟩:=h.two_inv;obtain⟨f,g⟩:=GB i a;split at d
  ·rename_i z;subst z;cases d;exact⟨_,_,_,_,by rw[b.ty_inv.1],f,g,c _ rfl⟩
  ·split at d
   ·rename_i z;obtain⟨rfl,rfl⟩:=z;cases d;exact⟨_,_,_,_,by rw[b.ty_inv.1],f,Qn,c _ rfl⟩
   ·cases d
 ·cases e
theorem Pz{x:ah}{n:String}(c:Gl X x)(b:X.mg x=none)(a:cU x=aA (.type n))(e:x≠"__name__":=by decide)(d:(x==("__debug__" : ah))=aB:=by decide):VE X (.Name x pos) (eC (.ty n)):=
 JJ (Je c b a (v:=.ty n) rfl e d) λ_=>Is.ty n
end
end VL
namespace VL
open PySem PySem.Spec PyProof.Rows L2
variable {K:aD}
open Classical in
instance:DecidableEq PV:=λa b=>propDecidable (a=b)
noncomputable def X8:Nat->PV->PV->Bool
 | _+1,.non,.non=>aC
 | _+1,.bl _,.bl _=>aC
 | _+1,.int _,.int _=>aC
 | _+1,.str _,.str _=>aC
 | n+1,.tup l,.tup m=>(l.zip m).all λz=>X8 n z.1 z.2
 | n+1,.lst l,.lst m=>(l.zip m).all λz=>X8 n z.1 z.2
 | _,_,_=>aB
theorem VP{d c:Type}{p:d×c->Bool}{a:d}{b:c}{l:List d}{m:List c}(h:((a::l).zip (b::m)).all p=aC):p (a,b)=aC/\(l.zip m).all p=aC:=by rw[i7,gQ,bU] at h;exact h
theorem Iss.inj'{n:Nat}{H:Hp}(c:∀a b v fa fb,X8 n a b=aC->Is K H a v fa->Is K H b v fb->a=b):∀{l m:List PV}{xs:List V}{fa fb:List aG},(l.zip m).all (λz=>X8 n z.1 z.2)=aC->Iss K H l xs fa->Iss K H m xs fb->l=m
 | [],m,xs,fa,fb,_,h,h'=>by
  simp only[Iss] at h;rw[h.1] at h';have:=h'.len
  cases m with
  | nil=>rfl
  | cons _ _=>simp at this
 | a::l,m,xs,fa,fb,hc,h,h'=>by
  obtain⟨x,r,f1,f2,rfl,f,j,rfl⟩:=h.inv
  cases m with
  | nil=>have:=h'.len;simp at this
  | cons b m=>
   obtain⟨o,p,i,k,e,g,d,rfl⟩:=h'.inv;cases e;obtain⟨c1,c2⟩:=VP hc;rw[c a b x f1 i c1 f g,Iss.inj' c c2 j d]
theorem Is.inj'{H:Hp}:∀(n:Nat)(a b:PV)(v:V)(fa fb:List aG),X8 n a b=aC->Is K H a v fa->Is K H b v fb->a=b
 | 0,a,b,v,fa,fb,hc,_,_=>nomatch (show aB=aC from hc)
 | n+1,a,b,v,fa,fb,hc,ha,hb=>by
  cases a<;>cases b<;>first
   | exact nomatch (show aB=aC from hc)
   | skip
  ·rfl
  ·rw[ha.bl_inv.1] at hb;have:=hb.bl_inv.1;cases this;rfl
  ·rw[ha.int_inv.1] at hb;have:=hb.int_inv.1;cases this;rfl
  ·rw[ha.str_inv.1] at hb;have:=hb.str_inv.1;cases this;rfl
  ·obtain⟨p,h,rfl,g,f⟩:=ha.tup_inv;obtain⟨k,j,e,c,d⟩:=hb.tup_inv;cases e;rw[g] at c;cases c;rw[Iss.inj' (Is.inj' n) hc f d]
  ·obtain⟨p,h,l,rfl,g,f,_⟩:=ha.lst_inv;obtain⟨k,j,i,e,c,d,_⟩:=hb.lst_inv;cases e;rw[g] at c;cases c;rw[Iss.inj' (Is.inj' n) hc f d]
section
variable {X:Cx} {jn:List (aG×c9)} {σ:Te} {H:Hp} {s:aL} {A:bc}
theorem OV{n:Nat}(i:∀a b x y fa fb u w,X8 n a b=aC->Is K H a x fa->Is K H b y fb->RelV x u->RelV y w->∃r,j6 A s u w r/\(r=aC↔a=b)) :
  ∀{l m:List PV}{xs ys:List V}{fa fb:List aG}{us ws:List aF},(l.zip m).all (λz=>X8 n z.1 z.2)=aC->Iss K H l xs fa->Iss K H m ys fb->Vals xs us->Vals ys ws->
  ∃e:Nat->Bool,(∀j (c:j<us.length) (d:j<ws.length),j6 A s us[j] ws[j] (e j))/\((aJ (min us.length ws.length)).all e=aC↔l.take (min us.length ws.length)=m.take (min us.length ws.length))
 | [],m,xs,ys,fa,fb,us,ws,_,h,_,r,_=>by simp only[Iss] at h;obtain⟨rfl,_⟩:=h;cases r;exact⟨λ_=>aC,λj c=>by simp at c,by simp⟩
 | a::l,[],xs,ys,fa,fb,us,ws,_,_,h,_,r=>by simp only[Iss] at h;obtain⟨rfl,_⟩:=h;cases r;exact⟨λ_=>aC,λj c d=>by simp at d,by simp⟩
 | a::l,b::m,xs,ys,fa,fb,us,ws,hc,h,h',r,r'=>by
  obtain⟨x,G,f1,f2,rfl,c,d,rfl⟩:=h.inv;obtain⟨y,F,C,E,rfl,B,o,rfl⟩:=h'.inv;obtain⟨c1,c2⟩:=VP hc
  cases r with
  | cons q v=>cases r' with
   | cons q' v'=>
    obtain⟨t,p,f⟩:=i a b x y f1 C _ _ c1 c B q q';obtain⟨e,D,g⟩:=OV i c2 d o v v';refine⟨λj=>match j with | 0=>t | k+1=>e k,λj c d=>?_,?_⟩
    ·cases j with
     | zero=>exact p
     | succ k=>exact D k (by simpa using c) (by simpa using d)
    ·simp only[b9,Nat.succ_min_succ,List.range_succ_eq_map,gQ,List.all_map,bU,List.take_succ_cons,List.cons.injEq];exact and_congr f g
theorem Iss.same'{l m:List PV}{e f:List V}{i fb:List aG}{d c:List aF}(h:Iss K H l e i)(j:Iss K H m f fb)(r:Vals e d)(g:Vals f c) :
  (l.take (min d.length c.length)=m.take (min d.length c.length)/\d.length=c.length)↔l=m:=by
 have p:=h.len;have k:=j.len;have n:=r.length;have o:=g.length;constructor
 ·rintro⟨a,b⟩;rw[bV (by omega),bV (by omega)] at a;exact a
 ·intro a;subst a;exact⟨rfl,by omega⟩
noncomputable def IY(A:bc)(s:aL)(u w:aF)(r:Bool):Prop:=SeqAt.RcAt A s u w r/\SeqAt.RcNeAt A s u w !r
theorem Qv(I:Inv X jn σ H s):∀(n:Nat)(A:bc)(a b:PV)(x y:V)(v fb:List aG)(u w:aF),A.units+2*n+2<iT->X8 n a b=aC->Is K H a x v->Is K H b y fb->RelV x u->RelV y w->
  (∃r,j6 A s u w r/\(r=aC↔a=b))/\∃r,IY A s u w r/\(r=aC↔a=b)
 | 0,A,a,b,x,y,v,fb,u,w,hu,hc,_,_,_,_=>nomatch (show aB=aC from hc)
 | n+1,A,a,b,x,y,v,fb,u,w,hu,hc,ha,hb,ru,ZM=>by
  cases a<;>cases b<;>first
   | exact nomatch (show aB=aC from hc)
   | skip
  ·rw[ha.non_inv.1] at ru;rw[hb.non_inv.1] at ZM;cases ru;cases ZM;exact⟨⟨aC,gw _,by simp⟩,aC,⟨SeqAt.RcAt.none_none,SeqAt.RcNeAt.none_none⟩,by simp⟩
  ·rw[ha.bl_inv.1] at ru;rw[hb.bl_inv.1] at ZM;cases ru;cases ZM;exact⟨⟨_,j6.bool_bool _ _,by simp⟩,_,⟨SeqAt.RcAt.bool_bool _ _,SeqAt.RcNeAt.bool_bool _ _⟩,by simp⟩
  ·rw[ha.int_inv.1] at ru;rw[hb.int_inv.1] at ZM;obtain⟨t,rfl⟩:=ru;obtain⟨t',rfl⟩:=ZM;exact⟨⟨_,j6.int_int _ _ _ _,by simp⟩,_,⟨SeqAt.RcAt.int_int _ _ _ _,SeqAt.RcNeAt.int_int _ _ _ _⟩,by simp⟩
  ·rw[ha.str_inv.1] at ru;rw[hb.str_inv.1] at ZM;obtain⟨t,rfl⟩:=ru;obtain⟨t',rfl⟩:=ZM;exact⟨⟨_,j6.str_str _ _ _ _,by simp⟩,_,⟨SeqAt.RcAt.str_str _ _ _ _,SeqAt.RcNeAt.str_str _ _ _ _⟩,by simp⟩
  ·rename_i Q M;obtain⟨p,Z,rfl,P,G⟩:=id ha.tup_inv;obtain⟨B,ys,rfl,m,h⟩:=id hb.tup_inv;cases ru;cases ZM;obtain⟨C,E,q,_⟩:=I.tuple (SqT.of P);obtain⟨D,i,o,_⟩:=I.tuple (SqT.of m);obtain⟨f,F,k⟩:=OV (A:=A.in1) (λa b x y v fb u w c N O L R=>(Qv I n A.in1 a b x y v fb u w (by show A.units+1+2*n+2<iT;omega) c N O L R).1) hc G h E i;have T:=SeqAt.RcAt.tuples (A:=A) (e:=f) (show s.heap.IsTuple p C.toArray from q) (show s.heap.IsTuple B D.toArray from o) (by omega) (λj l z=>F j (by simpa using l) (by simpa using z));have W:=SeqAt.RcNeAt.tuples (A:=A) (e:=f) (show s.heap.IsTuple p C.toArray from q) (show s.heap.IsTuple B D.toArray from o) (by omega) (λj l z=>F j (by simpa using l) (by simpa using z));have g:(((aJ (min C.toArray.size D.toArray.size)).all f&&C.toArray.size==D.toArray.size)=aC)↔PV.tup Q=PV.tup M:=by simp only[aO,bU,beq_iff_eq,PV.tup.injEq];rw[k];exact Iss.same' G h E i
   refine⟨?_,_,⟨T,W⟩,g⟩;by_cases e:p=B
   ·subst e;exact⟨aC,gw _,by simp[Is.inj' (n+1) _ _ _ _ _ hc ha hb]⟩
   ·exact⟨_,i8 e T,g⟩
  ·rename_i Q M;obtain⟨p,Z,fq,rfl,P,G,_⟩:=id ha.lst_inv;obtain⟨B,ys,Y,rfl,m,h,_⟩:=id hb.lst_inv;cases ru;cases ZM;obtain⟨C,E,q,_⟩:=I.list (SqL.of P);obtain⟨D,i,o,_⟩:=I.list (SqL.of m);obtain⟨f,F,k⟩:=OV (A:=A.in1) (λa b x y v fb u w c N O L R=>(Qv I n A.in1 a b x y v fb u w (by show A.units+1+2*n+2<iT;omega) c N O L R).1) hc G h E i
   have J:∃r,IY A s (.ref p) (.ref B) r/\(r=aC↔PV.lst Q=PV.lst M):=by
    have g:=Iss.same' G h E i;by_cases d:C.length=D.length
    ·refine⟨_,⟨SeqAt.RcAt.lists (e:=f) q.isList o.isList (by simpa using d) (by omega) (λj l z=>F j (by simpa using l) (by simpa using z)),SeqAt.RcNeAt.lists (e:=f) q.isList o.isList (by simpa using d) (by omega) (λj l z=>F j (by simpa using l) (by simpa using z))⟩,?_⟩;rw[d,Nat.min_self] at k g;simp only[aO,PV.lst.injEq];rw[d,k,<-g];simp
    ·refine⟨aB,⟨SeqAt.RcAt.lists_lengths q.isList o.isList (by simpa using d) (by omega),SeqAt.RcNeAt.lists_lengths q.isList o.isList (by simpa using d) (by omega)⟩,?_⟩;rw[PV.lst.injEq,<-g];simp[d]
   obtain⟨r,S,U⟩:=J;refine⟨?_,r,S,U⟩;by_cases e:p=B
   ·subst e;exact⟨aC,gw _,by simp[Is.inj' (n+1) _ _ _ _ _ hc ha hb]⟩
   ·exact⟨r,i8 e S.1,U⟩
end
noncomputable def GC(K:aD)(neg:Bool):R2:=λx y H Q=>∃a b fa fb,Is K H a x fa/\Is K H b y fb/\X8 8 a b=aC/\∀r:Bool,(r=aC↔a=b)->Q (.bl (if neg then !r else r)) H
section
variable {X:Cx}
theorem LX(n:X.A.units+64<iT):U2 X (eM .Eq) (GC X.K aB):=by intro l s m H x y v u Q I e c h;obtain⟨a,b,i,fb,k,d,g,q⟩:=h;obtain⟨_,r,f,j⟩:=Qv I 8 X.A a b x y i fb v u (by omega) g k d e c;exact f.1 X.prog X.w X.xe _ ⟨.bl r,H,I,rfl,q r j⟩
theorem LY(n:X.A.units+64<iT):U2 X (eM .NotEq) (GC X.K aC):=by intro l s m H x y v u Q I e c h;obtain⟨a,b,i,fb,k,d,g,q⟩:=h;obtain⟨_,r,f,j⟩:=Qv I 8 X.A a b x y i fb v u (by omega) g k d e c;exact f.2 X.prog X.w X.xe _ ⟨.bl !r,H,I,rfl,q r j⟩
end
noncomputable def WX(neg:Bool):PV->PV->Option PV:=λa b=>if X8 8 a b=aC then aA (.bl (if neg then !decide (a=b) else decide (a=b))) else none
theorem Qw(neg:Bool):RB K (GC K neg) (WX neg):=λH x y a b l g fb h d e Q k=>by
 unfold WX at e;split at e
 ·cases e;refine⟨a,b,g,fb,h,d,by assumption,λr c=>?_⟩
  have:r=decide (a=b):=by
   cases r with
   | true=>exact(decide_eq_true (c.mp rfl)).symm
   | false=>exact(decide_eq_false λz=>bK (c.mpr z)).symm
  subst this;exact k _ H [] (Same.refl H) (Is.bl _) λp f=>by simp at f
 ·cases e
end VL
namespace VL
open PySem PySem.Spec PyProof.Rows L2
variable {K:aD}
mutual
theorem Is.dom{H:Hp}:∀(l:PV)(v:V)(fp:List aG),Is K H l v fp->∀p∈fp,H p≠none
 | .non,_,_,h=>by simp only[Is] at h;rw[h.2];simp
 | .bl _,_,_,h=>by simp only[Is] at h;rw[h.2];simp
 | .int _,_,_,h=>by simp only[Is] at h;rw[h.2];simp
 | .str _,_,_,h=>by simp only[Is] at h;rw[h.2];simp
 | .ty _,_,_,h=>by simp only[Is] at h;rw[h.2];simp
 | .exc _,_,_,h=>by simp only[Is] at h;rw[h.2];simp
 | .exf _ _,_,_,h=>by simp only[Is] at h;rw[h.2];simp
 | .clo L l,v,fp,h=>by simp only[Is] at h;obtain⟨u,x,_,_,a⟩:=h;exact Is.dom l x fp a
 | .tup l,v,fp,h=>by obtain⟨p,d,_,_,a⟩:=h.tup_inv;exact Iss.dom l d fp a
 | .lst l,v,fp,h=>by
  obtain⟨p,d,c,_,f,a,rfl⟩:=h.lst_inv;intro q b;rcases aa.mp b with rfl | b
  ·rw[f];simp
  ·exact Iss.dom l d c a q b
 | .cst l,v,fp,h=>by obtain⟨p,d,_,_,a⟩:=h.cst_inv;exact Iss.dom l d fp a
 | .dK ks l,v,fp,h=>by
  obtain⟨p,g,c,_,f,_,a,rfl⟩:=h.dK_inv;intro q b;rcases aa.mp b with rfl | b
  ·rcases f with e | ⟨o,e⟩<;>rw[e]<;>simp
  ·exact Iss.dom l _ c a q b
 | .dT ks l,v,fp,h=>by
  obtain⟨p,g,c,_,f,_,a,rfl⟩:=h.dT_inv;intro q b;rcases aa.mp b with rfl | b
  ·rcases f with e | ⟨o,e⟩<;>rw[e]<;>simp
  ·exact Iss.dom l _ c a q b
theorem Iss.dom{H:Hp}:∀(l:List PV)(xs:List V)(fp:List aG),Iss K H l xs fp->∀p∈fp,H p≠none
 | [],_,_,h=>by simp only[Iss] at h;rw[h.2];simp
 | l::ls,xs,fp,h=>by
  obtain⟨x,r,f1,f2,_,c,b,rfl⟩:=h.inv;intro q a;rcases bj.mp a with a | a
  ·exact Is.dom l x f1 c q a
  ·exact Iss.dom ls r f2 b q a
end
noncomputable def Ab(Rm:aG->Prop)(H H':Hp):Prop:=∀b o,H b=aA o->¬Rm b->H' b=aA o
theorem Same.ab{c:aG->Prop}{H a:Hp}(s:Same H a):Ab c H a:=λb o h _=>s b o h
theorem Ab.tk{e:aG->Prop}{H d:Hp}(a:Ab e H d)(c:∀p,e p->Vb (H p)):JH H d:=⟨λb f h=>a b _ h λz=>by
 have:=c b z
 rw[h] at this;exact this,λb o f h=>a b _ h λz=>by
 have:=c b z
 rw[h] at this;exact this,λb o x h=>a b _ h λz=>by
 have:=c b z;rw[h] at this;exact this⟩
theorem Is.ab{c:aG->Prop}{H d:Hp}(a:Ab c H d)(e:∀p,c p->Vb (H p)){l:PV}{v:V}{b:List aG}(n:∀p∈b,¬c p)(h:Is K H l v b):Is K d l v b:=
 Is.tr (a.tk e) l v b (λp f=>RdK.of λo q=>a p o q (n p f)) h
structure Dg(K:aD)(Rm:aG->Prop)(H1:Hp)(J:It)(ls:List PV):Prop where
 stop:∀H',Ab Rm H1 H'->J.stop ls.length H'
 go:∀H' (i:Nat) l,Ab Rm H1 H'->ls[i]?=aA l->J.go i H'
 yld:∀H' (i:Nat) l x H'',Ab Rm H1 H'->ls[i]?=aA l->J.yld i H' x H''->Same H' H''/\∃fp,Is K H'' l x fp/\∀p∈fp,H1 p≠none/\¬Rm p
abbrev XL:=ZA->Option (List PV)
noncomputable def iF(K:aD)(f:XL):TI:=λσ H R=>∃(Rm:aG->Prop) (s:ZA) (ls:List PV),(∀p,Rm p->Vb (H p))/\EnvIs K Rm H s σ/\f s=aA ls/\∀J H1,Same H H1->Dg K Rm H1 J ls->R J H1
noncomputable def VI(X:Cx)(tg e:au)(f:XL):Prop:=PI X tg e (iF X.K f)
section
variable {X:Cx} {tg e:au} {es:List au}
theorem PI.imp{t t':TI}(h:PI X tg e t)(i:∀a H R,t' a H R->t a H R):PI X tg e t':=λb s a H R I q=>h b s a H R I (i a H R q)
noncomputable def Fh:PV->Option (List PV)
 | .lst m=>aA m
 | .cst m=>aA m
 | _=>none
noncomputable def VQ(f:XE):XL:=λs=>(f s).bind Fh
noncomputable def Ti(f:XE):XL:=λs=>match f s with | some (.tup m)=>aA m | _=>none
theorem LZ{a:PV}{m:List PV}(h:Fh a=aA m):a = .lst m\/a = .cst m:=by
 unfold Fh at h;split at h
 ·cases h;exact .inl rfl
 ·cases h;exact .inr rfl
 ·cases h
theorem ML{f:XE}{s:ZA}{m:List PV}(h:Ti f s=aA m):f s=aA (.tup m):=by
 unfold Ti at h;split at h
 ·cases h;assumption
 ·cases h
theorem YQ{f:XE}(h:VE X e f):VI X tg e (VQ f):=PI.imp (Ji h) λL H R ⟨B,s,ls,D,env,e,k⟩=>by
 obtain⟨l,F,G⟩:=Zd e;refine⟨B,s,l,D,env,F,λv o E s1 C A=>?_⟩;have t:=λp d=>Same.mut s1 (D p d)
 have j:∀a b r,v = .ref a->SqL X.K o a b->(∀g,Ab B o g->SqL X.K g a b)->Iss X.K o ls b r->(∀p∈r,p∈E)->∃a,v = .ref a/\(∃b,SqL X.K o a b)/\R (EN X.K a) o:=by
  rintro a b r rfl n c m sub;refine⟨a,rfl,⟨b,n⟩,k _ o s1 ⟨λg ab=>⟨b,c g ab,by rw[m.len];exact aH _⟩,λg i l ab z=>?_,λg i l x I ab z y=>?_⟩⟩
  ·obtain⟨x,f1,w,_,_⟩:=m.get z;exact⟨b,x,c g ab,w⟩
  ·obtain⟨rfl,y⟩:=y;obtain⟨J,f1,w,ix,u⟩:=m.get z;have:=y b (c _ ab);rw[w] at this;cases this;have q:=λp d=>A p (sub p (u p d));exact⟨Same.refl _,f1,ix.ab ab t q,λp d=>⟨Is.dom _ _ _ ix p d,q p d⟩⟩
 rcases LZ G with rfl | rfl
 ·obtain⟨a,b,r,rfl,n,m,rfl⟩:=C.lst_inv;exact j a b r rfl (SqL.of n) (λg ab=>SqL.of (ab a _ n (A a a0))) m λp d=>aV _ d
 ·obtain⟨a,b,rfl,n,m⟩:=C.cst_inv;exact j a b E rfl n.sq (λg ab=>(n.tr (ab.tk t)).sq) m λp d=>d
theorem T9{f:XE}(h:VE X e f):VI X tg e (Ti f):=PI.imp (HK h) λD H R ⟨t,s,ls,u,env,e,k⟩=>by
 refine⟨t,s,.tup ls,u,env,ML e,λv r E s1 A z=>?_⟩;obtain⟨a,g,rfl,w,q⟩:=A.tup_inv;have m:=λp d=>Same.mut s1 (u p d);have b:∀c,Ab t r c->SqT X.K c a g:=λc ab=>SqT.of ((ab.tk m).tup a g w);refine⟨a,rfl,⟨g,SqT.of w⟩,k _ r s1 ⟨λc ab=>⟨g,b c ab,by rw[q.len];exact aH _⟩,λc i l ab o=>?_,λc i l x B ab o y=>?_⟩⟩
 ·obtain⟨x,f1,n,_,_⟩:=q.get o;exact⟨g,x,b c ab,n⟩
 ·obtain⟨rfl,y⟩:=y;obtain⟨C,f1,n,ix,sub⟩:=q.get o;have:=y g (b _ ab);rw[n] at this;cases this;have j:=λp d=>z p (sub p d);exact⟨Same.refl _,f1,ix.ab ab m j,λp d=>⟨Is.dom _ _ _ ix p d,j p d⟩⟩
noncomputable def Uy(n:Nat):List PV:=(aJ n).map λ(i:Nat)=>PV.int (i:Int)
noncomputable def X9(lo:Int)(n:Nat):List PV:=(aJ n).map λ(i:Nat)=>PV.int (lo+(i:Int))
noncomputable def ZR(fs:List XE):XL:=λs=>match Tg fs s with | some [.int j]=>if -1000000<=j/\j<=1000000 then aA (Uy j.toNat) else none | _=>none
noncomputable def Yz(fs:List XE):XL:=λs=>match Tg fs s with | some [.int i,.int j]=>if -1000000<=i/\i<=1000000/\-1000000<=j/\j<=1000000 then aA (X9 i (j-i).toNat) else none | _=>none
theorem NT{f:aG->Prop}{e:Hp}(lo:Int)(n:Nat):Dg K f e (Fz lo n) (X9 lo n):=by
 refine⟨λc _=>by unfold X9;rw[aS,b0];exact aH n,λc i l _ a=>?_,λc i l x g _ a y=>?_⟩
 ·have:=(aW.mp a).1;unfold X9 at this;rw[aS,b0] at this;exact this
 ·obtain⟨rfl,rfl⟩:=y;have b:=(aW.mp a).1;unfold X9 at b a;rw[aS,b0] at b;rw[aR,bB b] at a;cases a;exact⟨Same.refl _,[],Is.int _,λp d=>by simp at d⟩
theorem JU(n:Nat):Uy n=X9 0 n:=by apply bN;intro i _;rw[Int.zero_add]
theorem MM{a:au}{fs:List XE}{p b:dk}(m:Gl X "range")(g:X.mg "range" = none)(o:VA X [a] fs)(l:aT [a] X.env=[(aB,eval a X.env)]:=by rfl):VI X tg (.Call (.Name "range" p) [a] [] b) (ZR fs):=
 PI.imp (Mw m g o l) λt H R ⟨c,s,ls,h,env,e,k⟩=>by
 unfold ZR at e;split at e
 ·split at e
  ·cases e;rename_i j n q;refine⟨c,s,_,h,env,n,λvs d r s1 f _=>?_⟩;obtain⟨v,rfl,i⟩:=f.one_inv;refine⟨j,by rw[i.int_inv.1],by omega,by omega,k _ d s1 ?_⟩;rw[JU];exact NT _ _
  ·cases e
 ·cases e
theorem MN{a b:au}{fs:List XE}{p c:dk}(r:Gl X "range")(m:X.mg "range" = none)(u:VA X [a,b] fs)(q:aT [a,b] X.env=[(aB,eval a X.env),(aB,eval b X.env)]:=by rfl)(d:aT [b] X.env=[(aB,eval b X.env)]:=by rfl):VI X tg (.Call (.Name "range" p) [a,b] [] c) (Yz fs):=
 PI.imp (Mx r m u q d) λz H R ⟨f,s,ls,n,env,e,k⟩=>by
 unfold Yz at e;split at e
 ·split at e
  ·cases e;rename_i i j t x;refine⟨f,s,_,n,env,t,λvs g y s1 h _=>?_⟩;obtain⟨v,w,f1,f2,rfl,l,o,_⟩:=h.two_inv;exact⟨i,j,by rw[l.int_inv.1,o.int_inv.1],⟨by omega,by omega,by omega,by omega⟩,k _ g s1 (NT _ _)⟩
  ·cases e
 ·cases e
noncomputable def Wz(m:List PV):List PV:=m.zipIdx.map λz=>.tup [.int (z.2:Nat),z.1]
noncomputable def Uz(m n:List PV):List PV:=(m.zip n).map λz=>.tup [z.1,z.2]
theorem RM{m:List PV}{i:Nat}{l:PV}(h:(Wz m)[i]?=aA l):∃a,m[i]?=aA a/\l = .tup [.int (i:Nat),a]:=by
 unfold Wz at h;rw[aR,List.getElem?_zipIdx] at h
 cases q:m[i]? with
 | none=>rw[q] at h;cases h
 | some a=>rw[q] at h;cases h;exact⟨a,rfl,by simp⟩
theorem RN(m:List PV):(Wz m).length=m.length:=by unfold Wz;rw[aS,List.length_zipIdx]
theorem PB{m n:List PV}{i:Nat}{l:PV}(h:(Uz m n)[i]?=aA l):∃a b,m[i]?=aA a/\n[i]?=aA b/\l = .tup [a,b]:=by
 unfold Uz at h;rw[aR] at h
 cases q:(m.zip n)[i]? with
 | none=>rw[q] at h;cases h
 | some z=>
  rw[q] at h;cases h;obtain⟨c,d⟩:=gF.mp q;exact⟨z.1,z.2,c,d,rfl⟩
theorem PD(m n:List PV):(Uz m n).length=min m.length n.length:=by unfold Uz;rw[aS,List.length_zip]
noncomputable def seqB:Bool->PV->Option (List PV)
 | true,.lst l=>aA l
 | true,.cst l=>aA l
 | false,.tup l=>aA l
 | _,_=>none
theorem Qx{H:Hp}{b:Bool}{l:PV}{v:V}{j:List aG}{m:List PV}(h:Is K H l v j)(e:seqB b l=aA m):∃p a k,v = .ref p/\Iss K H m a k/\(∀q∈k,q∈j)/\∀(c:aG->Prop) i,Ab c H i->(∀p,c p->Vb (H p))->(∀p∈j,¬c p)->Tc b K i p a:=by
 cases b with
 | true=>cases l with
  | lst l=>
   cases e;obtain⟨p,a,k,rfl,g,f,rfl⟩:=h.lst_inv;exact⟨p,a,k,rfl,f,λq d=>aV _ d,λc i ab _ n=>SqL.of (ab p _ g (n p a0))⟩
  | cst l=>
   cases e;obtain⟨p,a,rfl,g,f⟩:=h.cst_inv;exact⟨p,a,j,rfl,f,λq d=>d,λc i ab o _=>(g.tr (ab.tk o)).sq⟩
  | _=>cases e
 | false=>cases l with
  | tup l=>
   cases e;obtain⟨p,a,rfl,g,f⟩:=h.tup_inv;exact⟨p,a,j,rfl,f,λq d=>d,λc i ab o _=>SqT.of ((ab.tk o).tup p a g)⟩
  | _=>cases e
noncomputable def NU(b:Bool)(fs:List XE):XL:=λs=>match Tg fs s with | some [l]=>(seqB b l).map Wz | _=>none
noncomputable def OW(b1 b2:Bool)(fs:List XE):XL:=λs=>match Tg fs s with | some [l,r]=>(seqB b1 l).bind λm=>(seqB b2 r).map λn=>Uz m n | _=>none
theorem NV{o:List au}{k:Nat}{h:dk}(b:Bool){a:au}{fs:List XE}{p w:dk}(Q:Gl X "enumerate")(O:X.mg "enumerate" = none)(T:VA X [a] fs)(P:aT [a] X.env=[(aB,eval a X.env)]:=by rfl) :
  VI X (.Tuple o k h) (.Call (.Name "enumerate" p) [a] [] w) (NU b fs):=PI.imp (JC b Q O T P) λZ H R ⟨F,s,ls,I,env,e,k⟩=>by
 unfold NU at e;split at e
 ·rename_i l S;obtain⟨m,M,rfl⟩:=map_some e;refine⟨F,s,_,I,env,S,λvs u W s1 N E=>?_⟩;obtain⟨v,rfl,i⟩:=N.one_inv;have n:=λp d=>Same.mut s1 (I p d);obtain⟨a,t,Y,rfl,C,sub,j⟩:=Qx i M;have r:=λf ab=>j F f ab n E;refine⟨a,rfl,⟨t,r u (Same.ab (Same.refl u))⟩,k _ u s1 ⟨λf ab=>⟨t,r f ab,by rw[RN,C.len]⟩,λf i l ab B=>?_,λf i l x L ab B y=>?_⟩⟩
  ·obtain⟨c,D,rfl⟩:=RM B;obtain⟨x,f1,A,_,_⟩:=C.get D;exact⟨t,x,r f ab,A⟩
  ·obtain⟨c,D,rfl⟩:=RM B;obtain⟨U,f1,A,ix,J⟩:=C.get D;obtain⟨q,z,G,rfl,rfl,y⟩:=y;have:=y t (r _ ab);rw[A] at this;cases this;have g:=λp d=>E p (sub p (J p d));refine⟨Same.new G _,f1,Is.tup Zp ?_,λp d=>⟨Is.dom _ _ _ ix p d,g p d⟩⟩;exact Iss.cons (Is.int _) (Iss.one ((ix.ab ab n g).mono (Same.new G _)))
 ·cases e
theorem OX{I:List au}{k:Nat}{E:dk}(b1 b2:Bool){a b:au}{fs:List XE}{p T:dk}(hg:Gl X "zip")(hm:X.mg "zip" = none)(ha:VA X [a,b] fs)
  (hs:aT [a,b] X.env=[(aB,eval a X.env),(aB,eval b X.env)]:=by rfl) (U:aT [b] X.env=[(aB,eval b X.env)]:=by rfl) :
  VI X (.Tuple I k E) (.Call (.Name "zip" p) [a,b] [] T) (OW b1 b2 fs):=PI.imp (Gp b1 b2 hg hm ha hs U) λσ H R ⟨P,s,ls,hd,env,e,k⟩=>by
 unfold OW at e;split at e
 ·rename_i l r he;obtain⟨m,e1,e⟩:=Zd e;obtain⟨n,e2,rfl⟩:=map_some e;refine⟨P,s,_,hd,env,he,λvs C fp s1 i1 n1=>?_⟩;obtain⟨v,w,g1,g2,rfl,iv,iw,rfl⟩:=i1.two_inv;have j:=λp f=>Same.mut s1 (hd p f);have u:=λp f=>n1 p (bO _ f);have G:=λp f=>n1 p (af _ f);obtain⟨a1,J,fq,rfl,Y,sub,F⟩:=Qx iv e1;obtain⟨a2,L,fr,rfl,S,B,t⟩:=Qx iw e2;have M:=λg ab=>F P g ab j u;have h:=λg ab=>t P g ab j G;refine⟨a1,a2,rfl,⟨J,M C (Same.ab (Same.refl C))⟩,⟨L,h C (Same.ab (Same.refl C))⟩,k _ C s1 ⟨λg ab=>⟨J,L,M g ab,h g ab,?_⟩,λg i l ab W=>?_,λg i l x H'' ab W y=>?_⟩⟩
  ·rw[PD,Y.len,S.len];omega
  ·obtain⟨c,d,hc,o,rfl⟩:=PB W;obtain⟨x,f1,O,_,_⟩:=Y.get hc;obtain⟨y,f2,N,_,_⟩:=S.get o;exact⟨J,L,x,y,M g ab,h g ab,O,N⟩
  ·obtain⟨c,d,hc,o,rfl⟩:=PB W;obtain⟨x',f1,O,ix,sb⟩:=Y.get hc;obtain⟨y',f2,N,iy,Z⟩:=S.get o;obtain⟨q,z,z',Q,rfl,rfl,y1,y2⟩:=y;have:=y1 J (M _ ab);rw[O] at this;cases this;have:=y2 L (h _ ab);rw[N] at this;cases this;have A:=λp f=>u p (sub p (sb p f));have D:=λp f=>G p (B p (Z p f));refine⟨Same.new Q _,f1++f2,Is.tup Zp ?_,λp f=>?_⟩
   ·exact Iss.cons ((ix.ab ab j A).mono (Same.new Q _)) (Iss.one ((iy.ab ab j D).mono (Same.new Q _)))
   ·rcases bj.mp f with f | f
    ·exact⟨Is.dom _ _ _ ix p f,A p f⟩
    ·exact⟨Is.dom _ _ _ iy p f,D p f⟩
 ·cases e
end
inductive Tgt where
 | one (i:Nat) | many (is:List Nat)
noncomputable def Tgt.slots:Tgt->List Nat
 | .one i=>[i]
 | .many is=>is
noncomputable def setAll:List Nat->List PV->ZA->ZA
 | i::is,l::ls,s=>setAll is ls (s.set i (aA l))
 | _,_,s=>s
noncomputable def Yj:List Nat->List V->Te->Te
 | i::is,l::ls,s=>Yj is ls (s.set i (aA l))
 | _,_,s=>s
noncomputable def Yu:Tgt->PV->ZA->Option ZA
 | .one i,l,s=>aA (s.set i (aA l))
 | .many is,.tup ls,s=>if ls.length=is.length then aA (setAll is ls s) else none
 | _,_,_=>none
noncomputable def OY:List Nat->IQ
 | []=>Fx
 | i::is=>IS (VB i) (OY is)
noncomputable def gT(K:aD):Tgt->TG
 | .one i=>VB i
 | .many is=>Fy K is.length (OY is)
theorem Sa:∀{is:List Nat}{vs:List V}{σ:Te}{H:Hp}{Q:Te->Hp->Prop},vs.length=is.length->Q (Yj is vs σ) H->OY is vs σ H Q
 | [],[],_,_,_,_,q=>⟨rfl,q⟩
 | [],_::_,_,_,_,h,_=>by simp at h
 | _::_,[],_,_,_,h,_=>by simp at h
 | i::is,v::vs,σ,H,Q,h,q=>⟨v,vs,rfl,Sa (is:=is) (vs:=vs) (by simpa using h) q⟩
theorem Qy{T:Tgt}{l:PV}{v:V}{c:List aG}{s d:ZA}{H:Hp}(h:Is K H l v c)(e:Yu T l s=aA d) :
  ∃ls vs fs,d=setAll T.slots ls s/\Iss K H ls vs fs/\ls.length=T.slots.length/\(∀p∈fs,p∈c)/\∀b (Q:Te->Hp->Prop),Q (Yj T.slots vs b) H->gT K T v b H Q:=by
 cases T with
 | one i=>
  cases e;exact⟨[l],[v],c,rfl,Iss.one h,rfl,λp a=>a,λb Q q=>q⟩
 | many is=>
  cases l with
  | tup ls=>
   have e:(if ls.length=is.length then aA (VL.setAll is ls s) else none)=aA d:=e;split at e
   ·cases e;obtain⟨p,g,rfl,a,f⟩:=h.tup_inv;exact⟨ls,g,c,rfl,f,by assumption,λp a=>a,λb Q q=>⟨p,g,rfl,SqT.of a,by rw[f.len];assumption,Sa (by rw[f.len];assumption) q⟩⟩
   ·cases e
  | _=>cases e
theorem Wa:∀{is:List Nat}{vs:List V}{σ:Te}{n:Nat},(∀i∈is,i<n)->(Yj is vs σ).drop n=σ.drop n
 | [],_,_,_,_=>rfl
 | _::_,[],_,_,_=>rfl
 | i::is,v::vs,σ,n,h=>by show(Yj is vs (σ.set i (aA v))).drop n=_;rw[Wa (λj a=>h j (aV _ a))];have:=h i a0;rw[List.drop_set,ju this]
theorem EnvIs.set{b:aG->Prop}{H:Hp}{s:ZA}{d:Te}{i:Nat}{l:PV}{v:V}{g:List aG}(h:EnvIs K b H s d)(r:s.length=d.length)(o:Is K H l v g)(n:∀p∈g,¬b p):EnvIs K b H (s.set i (aA l)) (d.set i (aA v)):=⟨λj a e=>by
 rw[aj] at e;by_cases c:i=j
 ·subst c;rw[ju rfl] at e;split at e
  ·cases e;exact⟨v,g,by rw[aj,ju rfl,ju (by omega)],o,n⟩
  ·cases e
 ·rw[jv c] at e;obtain⟨w,f,k,q,m⟩:=h.is j a e;exact⟨w,f,by rw[aj,jv c];exact k,q,m⟩⟩
theorem EnvIs.setAll{a:aG->Prop}{H:Hp}:∀{is:List Nat}{ls:List PV}{vs:List V}{fs:List aG}{s:ZA}{σ:Te},EnvIs K a H s σ->s.length=σ.length->Iss K H ls vs fs->(∀p∈fs,¬a p)->EnvIs K a H (VL.setAll is ls s) (Yj is vs σ)
 | [],_,_,_,_,_,h,_,_,_=>by unfold VL.setAll Yj;exact h
 | i::is,[],vs,fs,s,σ,h,_,hi,_=>by simp only[Iss] at hi;rw[hi.1];exact h
 | i::is,l::ls,vs,fs,s,σ,h,hl,hi,n=>by obtain⟨x,r,f1,f2,rfl,d,c,rfl⟩:=hi.inv;show EnvIs K a H (VL.setAll is ls (s.set i (aA l))) (Yj is r (σ.set i (aA x)));exact EnvIs.setAll (h.set hl d λp b=>n p (bO _ b)) (by rw[bq,bq];exact hl) c λp b=>n p (af _ b)
noncomputable def ZU(n:Nat)(ix:List Nat)(s:ZA):ZA:=aU n none++ix.map (λi=>(s[i]?).join)
noncomputable def Xs(T:Tgt)(ft:XT)(fe:XE)(s0:ZA):List PV->Option (List PV)
 | []=>aA []
 | l::r=>(Yu T l s0).bind λs1=>(ft s1).bind λc=>if c=aC then(fe s1).bind λy=>(Xs T ft fe s0 r).map (y::·) else Xs T ft fe s0 r
noncomputable def Zt(n:Nat)(ix:List Nat)(fi:XL)(T:Tgt)(ft:XT)(fe:XE):XE:=λs=>(fi s).bind λls=>if ls.length<=10000 then(Xs T ft fe (ZU n ix s) ls).map .lst else none
noncomputable def ZF:XT:=λ_=>aA aC
theorem MO{d:Type}{o:Option (Option d)}{a:d}(h:o.join=aA a):o=aA (aA a):=by
 cases o with
 | none=>cases h
 | some b=>cases b with
  | none=>cases h
  | some c=>cases h;rfl
theorem EnvIs.comp{g:aG->Prop}{H:Hp}{s:ZA}{f:Te}{n:Nat}{ix:List Nat}(h:EnvIs K g H s f):EnvIs K g H (ZU n ix s) (ZL n ix f):=⟨λi l e=>by
 unfold ZU at e;unfold ZL;by_cases d:i<n
 ·rw[ay (by simpa using d),bZ,ju d] at e;cases e
 ·rw[bQ (by simpa using d),cS,aR] at e;rw[bQ (by simpa using d),cS,aR]
  cases q:ix[i-n]? with
  | none=>rw[q] at e;cases e
  | some j=>
   rw[q] at e;have e:=MO (aq e);obtain⟨v,k,a,b,c⟩:=h.is j l e;exact⟨v,k,by show aA ((f[j]?).join)=_;rw[a];rfl,b,c⟩⟩
theorem PF(n:Nat)(ix:List Nat)(s:ZA)(a:Te):(ZU n ix s).length=(ZL n ix a).length:=by unfold ZU ZL;simp
theorem Sd{T:Tgt}{a:XT}{b:XE}{e:ZA}{l:PV}{r f:List PV}(h:Xs T a b e (l::r)=aA f):∃s1 c,Yu T l e=aA s1/\a s1=aA c/\((c=aC/\∃y d,b s1=aA y/\Xs T a b e r=aA d/\f=y::d)\/(c=aB/\Xs T a b e r=aA f)):=by
 obtain⟨s1,k,h⟩:=Zd h;obtain⟨c,g,h⟩:=Zd h;refine⟨s1,c,k,g,?_⟩
 cases c with
 | true=>
  obtain⟨y,i,h⟩:=Zd h;obtain⟨d,j,rfl⟩:=map_some h;exact .inl ⟨rfl,y,d,i,j,rfl⟩
 | false=>
  exact .inr ⟨rfl,h⟩
theorem Se{b:Type}{l:List b}{i:Nat}{a:b}{r:List b}(h:l.drop i=a::r):l[i]?=aA a/\l.drop (i+1)=r:=by
 constructor
 ·have:=congrArg (λz=>z[0]?) h;simpa [fY] using this
 ·rw[<-List.drop_drop,h];rfl
section
variable {n:Nat} {ix:List Nat} {fi:XL} {T:Tgt} {ft:XT} {fe:XE}
theorem NW(hT:∀i∈T.slots,i<n):∀F H Q,tF K (Zt n ix fi T ft fe) F H Q->TZ n ix (iF K fi) (gT K T) (Q5 K ft) (tF K fe) F H Q:=λF H Q ⟨t,s,L,R,env,e,k⟩=>by
 obtain⟨ls,e1,e⟩:=Zd e;split at e
 case isFalse=>cases e
 rename_i hlen;obtain⟨ys,e2,rfl⟩:=map_some e;refine⟨t,s,ls,R,env,e1,λJ X s1 j=>?_⟩;have Y:=λp b=>Same.mut s1 (R p b)
 refine⟨λi m vs u=>m=ls.length-i/\i<=ls.length/\Same X u/\∃g Z8 w,ys=g++Z8/\g.length<=i/\Xs T ft fe (ZU n ix s) (ls.drop i)=aA Z8/\Iss K u g vs w/\∀p∈w,¬t p,
  ⟨ls.length,by simp,cB _,Same.refl X,[],ys,[],rfl,aH _,e2,Iss.nil,λp b=>by simp at b⟩,?_⟩
 rintro i m vs u ⟨rfl,hi,d,g,Z8,w,rfl,E,N,M,nv⟩;refine⟨by rw[M.len];exact cV (lt_size (by omega)),?_⟩
 cases q:ls.drop i with
 | nil=>
  have S:i=ls.length:=by have:=congrArg fE q;simp at this;omega
  subst S;rw[q] at N;cases N;refine .inl ⟨j.stop u (Same.ab d),λp b=>k _ _ (p::w) (s1.trans (d.trans (Same.new b _))) ?_ λa W z=>?_⟩
  ·rw[dA];exact Is.lst Zp (M.mono (Same.new b _))
  ·rcases aa.mp W with rfl | W
   ·exact YO (Same.mut (s1.trans d) (R a z)) b
   ·exact nv a W z
 | cons l r=>
  obtain⟨hl,hr⟩:=Se q;have D:=(aW.mp hl).1;rw[q] at N;obtain⟨sb,c,eb,et,O⟩:=Sd N
  refine .inr ⟨j.go u i l (Same.ab d) hl,λB U=>Same X U/\∃dn' rest' fp',g++Z8=dn'++rest'/\dn'.length<=i+1/\Xs T ft fe (ZU n ix s) (ls.drop (i+1))=aA rest'/\Iss K U dn' B fp'/\∀p∈fp',¬t p,
   λB U h'=>⟨ls.length-(i+1),by omega,rfl,D,h'.1,h'.2⟩,λx H2 y=>?_⟩
  obtain⟨s2,fx,ix',nx⟩:=j.yld u i l x H2 (Same.ab d) hl y;have C:=λp b=>Same.mut (d.trans s2) (Y p b);obtain⟨bl,bv,bf,rfl,bi,_,G,I⟩:=Qy ix' eb;have A:EnvIs K t H2 (ZU n ix s) (ZL n ix F):=(env.mono (s1.trans (d.trans s2))).comp;have f:=A.setAll (is:=T.slots) (PF n ix s F) bi λp b=>(nx p (G p b)).2;refine I _ _ ⟨Wa hT,t,_,c,C,f,et,λH3 o=>?_⟩;have Z:=λp b=>Same.mut o (C p b);rcases O with⟨rfl,y',zs,ey,P,rfl⟩ | ⟨rfl,P⟩
  ·refine FQ ?_;refine⟨t,_,y',Z,f.mono o,ey,λv H4 f4 s4 i4 n4=>?_⟩;refine⟨d.trans (s2.trans (o.trans s4)),g++[y'],zs,w++f4,by rw[eY];rfl,by rw[bX];simp;exact E,by rw[hr];exact P,(M.mono (s2.trans (o.trans s4))).append (Iss.one i4),λp b=>?_⟩;rcases bj.mp b with h | h
   ·exact nv p h
   ·exact n4 p h
  ·refine FP ?_;exact⟨d.trans (s2.trans o),g,Z8,w,rfl,el E,by rw[hr];exact P,M.mono (s2.trans o),nv⟩
theorem Qz(hT:∀i∈T.slots,i<n):∀I H Q,tM K (Zt n ix fi T ft fe) I H Q->TZ n ix (iF K fi) (gT K T) (Q5 K ft) (tM K fe) I H Q:=λI H Q ⟨s,L,env,e,k⟩=>by
 obtain⟨ls,e1,e⟩:=Zd e;split at e
 case isFalse=>cases e
 rename_i hlen;obtain⟨ys,e2,rfl⟩:=map_some e;have hd:∀(H:Hp) p,(λ_=>False:aG->Prop) p->Vb (H p):=λ_ _ z=>z.elim;refine⟨λ_=>False,s,ls,hd H,env,e1,λJ E s1 w=>?_⟩
 refine⟨λi m vs u=>m=ls.length-i/\i<=ls.length/\Same E u/\∃t Z8 A,ys=t++Z8/\t.length<=i/\Xs T ft fe (ZU n ix s) (ls.drop i)=aA Z8/\Iss K u t vs A/\A.Nodup/\∀p∈A,E p=none/\Vb (u p),
  ⟨ls.length,by simp,cB _,Same.refl E,[],ys,[],rfl,aH _,e2,Iss.nil,cW,λp d=>by simp at d⟩,?_⟩
 rintro i m vs u ⟨rfl,hi,g,t,Z8,A,rfl,G,R,O,dv,o⟩;refine⟨by rw[O.len];exact cV (lt_size (by omega)),?_⟩
 cases q:ls.drop i with
 | nil=>
  have W:i=ls.length:=by have:=congrArg fE q;simp at this;omega
  subst W;rw[q] at R;cases R;refine .inl ⟨w.stop u (Same.ab g),λp d=>k _ _ (p::A) (s1.trans (g.trans (Same.new d _))) ?_ (bM.mpr ⟨λz=>YO (o p z).2 d,dv⟩) λa B=>?_⟩
  ·rw[dA];exact Is.lst Zp (O.mono (Same.new d _))
  ·rcases aa.mp B with rfl | B
   ·exact⟨Same.off (s1.trans g) d,by rw[Zp];exact cT⟩
   ·exact⟨Same.off s1 (o a B).1,Same.mut (Same.new d _) (o a B).2⟩
 | cons l r=>
  obtain⟨hl,hr⟩:=Se q;have F:=(aW.mp hl).1;rw[q] at R;obtain⟨sb,c,eb,et,S⟩:=Sd R
  refine .inr ⟨w.go u i l (Same.ab g) hl,λD P=>Same E P/\∃dn' rest' fp',t++Z8=dn'++rest'/\dn'.length<=i+1/\Xs T ft fe (ZU n ix s) (ls.drop (i+1))=aA rest'/\Iss K P dn' D fp'/\fp'.Nodup/\∀p∈fp',E p=none/\Vb (P p),
   λD P h'=>⟨ls.length-(i+1),by omega,rfl,F,h'.1,h'.2⟩,λx H2 y=>?_⟩
  obtain⟨s2,fx,Z,nx⟩:=w.yld u i l x H2 (Same.ab g) hl y;obtain⟨bl,bv,bf,rfl,bi,_,M,N⟩:=Qy Z eb;have C:EnvIs K (λ_=>False) H2 (ZU n ix s) (ZL n ix I):=(env.mono (s1.trans (g.trans s2))).comp;have j:=C.setAll (is:=T.slots) (PF n ix s I) bi λp d=>(nx p (M p d)).2;refine N _ _ ⟨Wa hT,λ_=>False,_,c,hd H2,j,et,λH3 f=>?_⟩;rcases S with⟨rfl,y',zs,ey,U,rfl⟩ | ⟨rfl,U⟩
  ·refine FQ ?_;refine⟨_,y',j.mono f,ey,λv H4 f4 X i4 d4 Y=>?_⟩;refine⟨g.trans (s2.trans (f.trans X)),t++[y'],zs,A++f4,by rw[eY];rfl,by rw[bX];simp;exact G,by rw[hr];exact U,(O.mono (s2.trans (f.trans X))).append (Iss.one i4),gH.mpr ⟨dv,d4,λa B b hb z=>?_⟩,λp d=>?_⟩
   ·subst z;exact YO (Same.mut (s2.trans f) (o a B).2) (Y a hb).1
   ·rcases bj.mp d with h | h
    ·exact⟨(o p h).1,Same.mut (s2.trans (f.trans X)) (o p h).2⟩
    ·exact⟨Same.off (g.trans (s2.trans f)) (Y p h).1,(Y p h).2⟩
  ·refine FP ?_;exact⟨g.trans (s2.trans f),t,Z8,A,rfl,el G,by rw[hr];exact U,O.mono (s2.trans f),dv,λp d=>⟨(o p d).1,Same.mut (s2.trans f) (o p d).2⟩⟩
end
noncomputable def GD(X:Cx)(jr:List au)(f:XT):Prop:=Oz X jr (Q5 X.K f)
section
variable {X:Cx} {tg js iter c:au} {jr:List au} {scope:cq} {pos:dk} {fi:XL} {T:Tgt} {ft:XT} {fe:XE}
theorem Ya:GD X [] ZF:=λb s a H Q I ⟨g,d,c,f,env,e,k⟩=>by cases e;exact Jy b s a H Q I (k H (Same.refl H))
theorem NX(h:VT X c ft):GD X [c] ft:=Jz h
theorem Ts(own fr:List ah)(ix:List Nat)(b:X.calm=aC)(d:VI X tg iter fi)(S:Wv X.N X.env.scope scope own fr ix=aC)
  (e:∀cl C s H a,PG (Zv X (own++fr) scope cl C s H a) tg (gT X.K T)) (g:∀cl C s H a,GD (Zv X (own++fr) scope cl C s H a) jr ft) (h:∀cl C s H a,VE (Zv X (own++fr) scope cl C s H a) js fe)
  (f:∀i∈T.slots,i<own.length:=by decide) (c:∀x,bI iter X.env x=pure x:=by intro _;rfl):VE X (.ListComp js [⟨tg,iter,jr,0⟩] scope pos) (Zt own.length ix fi T ft fe):=
 PE.imp (Pn own fr ix b d S e (λcl C s H a=>(show Oz (Zv X (own++fr) scope cl C s H a) jr (Q5 X.K ft) from g cl C s H a)) (λcl C s H a=>(show PE (Zv X (own++fr) scope cl C s H a) js (tF X.K fe) from h cl C s H a)) c) (NW f)
theorem WY(own fr:List ah)(ix:List Nat)(b:X.calm=aC)(d:VI X tg iter fi)(S:Wv X.N X.env.scope scope own fr ix=aC)
  (e:∀cl C s H a,PG (Zv X (own++fr) scope cl C s H a) tg (gT X.K T)) (g:∀cl C s H a,GD (Zv X (own++fr) scope cl C s H a) jr ft) (h:∀cl C s H a,VM (Zv X (own++fr) scope cl C s H a) js fe)
  (f:∀i∈T.slots,i<own.length:=by decide) (c:∀x,bI iter X.env x=pure x:=by intro _;rfl):VM X (.ListComp js [⟨tg,iter,jr,0⟩] scope pos) (Zt own.length ix fi T ft fe):=
 PE.imp (Pn own fr ix b d S e (λcl C s H a=>(show Oz (Zv X (own++fr) scope cl C s H a) jr (Q5 X.K ft) from g cl C s H a)) (λcl C s H a=>(show PE (Zv X (own++fr) scope cl C s H a) js (tM X.K fe) from h cl C s H a)) c) (Qz f)
end
noncomputable def XD(xs:List PV)(lo hi:Option Int):List PV:=(xs.drop (HT.sIx xs.length 0 lo)).take (HT.sIx xs.length xs.length hi-HT.sIx xs.length 0 lo)
theorem Iss.cut{H:Hp}{l:List PV}{f:List V}{g:List aG}(lo e:Option Int)(h:Iss K H l f g):∃f1,Iss K H (XD l lo e) (ME f lo e) f1/\∀p∈f1,p∈g:=by unfold XD ME;rw[h.len];obtain⟨f1,a,b⟩:=h.drop (HT.sIx l.length 0 lo);obtain⟨f2,c,d⟩:=a.take (HT.sIx l.length l.length e-HT.sIx l.length 0 lo);exact⟨f2,c,λp i=>b p (d p i)⟩
abbrev XO:=ZA->Option (Option Int)
noncomputable def DW(K:aD)(f:XO):TO:=λσ H Q=>∃(Rm:aG->Prop) (s:ZA) (i:Option Int),(∀p,Rm p->Vb (H p))/\EnvIs K Rm H s σ/\f s=aA i/\∀H',Same H H'->Q i H'
noncomputable def VO(X:Cx)(e:Option au)(f:XO):Prop:=PO X e (DW X.K f)
noncomputable def L0:XO:=λ_=>aA none
noncomputable def S7(f:XE):XO:=λs=>match f s with | some (.int i)=>aA (aA i) | _=>none
noncomputable def VR(x:PV)(lo hi:Option Int):Option PV:=match x with | .lst l=>aA (.lst (XD l lo hi)) | .cst l=>aA (.lst (XD l lo hi)) | _=>none
noncomputable def GF(x:PV)(lo hi:Option Int):Option PV:=match x with | .tup l=>if HT.sIx l.length 0 lo=0/\HT.sIx l.length l.length hi=l.length then none else aA (.tup (XD l lo hi)) | _=>none
noncomputable def PH(g:PV->Option Int->Option Int->Option PV)(a:XE)(lo hi:XO):XE:=λs=>(a s).bind λx=>(lo s).bind λl=>(hi s).bind λu=>g x l u
section
variable {X:Cx} {e:au} {lo hi:Option au} {p2 pos:dk} {fa:XE} {fl fh:XO}
theorem WZ:VO X none L0:=λb s a H Q I ⟨f,c,i,d,env,e,k⟩=>by cases e;exact Jt b s a H Q I (k H (Same.refl H))
theorem Xt{e:au}(h:VE X e fa):VO X (aA e) (S7 fa):=λb s g H Q I ⟨c,a,i,l,env,e,k⟩=>by
 unfold S7 at e;split at e
 ·cases e;rename_i j d;exact Ju h b s g H Q I ⟨c,a,.int j,l,env,d,λv m o f i n=>⟨j,i.int_inv.1,k m f⟩⟩
 ·cases e
theorem Xc(D:VE X e fa)(y:VO X lo fl)(B:VO X j fh):VE X (.Subscript e (.Slice lo j none p2) pos) (PH VR fa fl fh):=PE.imp (Pg Jw D y B) λI H Q ⟨n,s,l,m,env,e,k⟩=>by
 obtain⟨x,w,e⟩:=Zd e;obtain⟨a,C,e⟩:=Zd e;obtain⟨b,A,e⟩:=Zd e;refine⟨n,s,x,m,env,w,λv F J s1 u t=>⟨n,s,a,λp h=>Same.mut s1 (m p h),env.mono s1,C,λL s2=>⟨n,s,b,λp h=>Same.mut (s1.trans s2) (m p h),env.mono (s1.trans s2),A,λE i=>?_⟩⟩⟩
 cases x with
 | lst l=>
  cases e;obtain⟨p,o,G,rfl,h,j,rfl⟩:=(u.mono (s2.trans i)).lst_inv;obtain⟨f1,c,d⟩:=j.cut a b;refine⟨p,o,rfl,SqL.of h,λq f=>k _ _ (q::f1) (s1.trans (s2.trans (i.trans (Same.new f _)))) (Is.lst Zp (c.mono (Same.new f _))) λr g z=>?_⟩;rcases aa.mp g with rfl | g
  ·exact YO (Same.mut (s1.trans (s2.trans i)) (m r z)) f
  ·exact t r (aV _ (d r g)) z
 | cst l=>
  cases e;obtain⟨p,o,rfl,h,j⟩:=(u.mono (s2.trans i)).cst_inv;obtain⟨f1,c,d⟩:=j.cut a b;refine⟨p,o,rfl,h.sq,λq f=>k _ _ (q::f1) (s1.trans (s2.trans (i.trans (Same.new f _)))) (Is.lst Zp (c.mono (Same.new f _))) λr g z=>?_⟩;rcases aa.mp g with rfl | g
  ·exact YO (Same.mut (s1.trans (s2.trans i)) (m r z)) f
  ·exact t r (d r g) z
 | _=>cases e
theorem MP(D:VE X e fa)(w:VO X lo fl)(A:VO X g fh):VE X (.Subscript e (.Slice lo g none p2) pos) (PH GF fa fl fh):=PE.imp (Pg Ga D w A) λG H Q ⟨h,s,l,j,env,e,k⟩=>by
 obtain⟨x,u,e⟩:=Zd e;obtain⟨a,B,e⟩:=Zd e;obtain⟨b,y,e⟩:=Zd e;refine⟨h,s,x,j,env,u,λv F I s1 z o=>⟨h,s,a,λp f=>Same.mut s1 (j p f),env.mono s1,B,λJ s2=>⟨h,s,b,λp f=>Same.mut (s1.trans s2) (j p f),env.mono (s1.trans s2),y,λE n=>?_⟩⟩⟩
 cases x with
 | tup l=>
  unfold GF at e;simp only at e;split at e
  ·cases e
  ·rename_i i;cases e;obtain⟨p,C,rfl,f,g⟩:=(z.mono (s2.trans n)).tup_inv;obtain⟨f1,c,d⟩:=g.cut a b;refine⟨p,C,rfl,SqT.of f,by rw[g.len];exact i,λq m=>k _ _ f1 (s1.trans (s2.trans (n.trans (Same.new m _)))) (Is.tup Zp (c.mono (Same.new m _))) λr t=>o r (d r t)⟩
 | _=>cases e
end
end VL
namespace VL
open PySem PySem.Spec PyProof.Rows L2
variable {K:aD}
structure Rel(K:aD)(O:List Nat)(H0:Hp)(fps:Nat->List aG)(s:ZA)(σ:Te)(H:Hp):Prop where
 same:Same H0 H
 len:s.length=σ.length
 is:∀(i:Nat) l,s[i]?=aA (aA l)->∃v,σ[i]?=aA (aA v)/\Is K H l v (fps i)
 emp:∀(i:Nat),(∀l,s[i]?≠aA (aA l))->fps i=[]
 nd:∀i∈O,(fps i).Nodup
 own:∀i∈O,∀p∈fps i,H0 p=none/\Vb (H p)
 dis:∀i∈O,∀j,j≠i->∀p∈fps i,p∉fps j
noncomputable def Ow(O:List Nat)(fps:Nat->List aG)(p:aG):Prop:=∃i∈O,p∈fps i
noncomputable def Yg(O:List Nat)(s:ZA):ZA:=O.foldl (λs i=>s.set i none) s
theorem Sf:∀{O:List Nat}{s:ZA}{i:Nat}{l:PV},(Yg O s)[i]?=aA (aA l)->i∉O/\s[i]?=aA (aA l)
 | [],s,i,l,h=>⟨by simp,h⟩
 | o::O,s,i,l,h=>by
  obtain⟨b,a⟩:=Sf (O:=O) (s:=s.set o none) h;rw[aj] at a;by_cases e:o=i
  ·rw[ju e] at a;split at a<;>cases a
  ·rw[jv e] at a;exact⟨by simp only[aa,not_or];exact⟨λz=>e z.symm,b⟩,a⟩
section
variable {O:List Nat} {H0 H H':Hp} {fps:Nat->List aG} {s:ZA} {σ:Te}
theorem Rel.at(r:Rel K O H0 fps s σ H)(i:Nat){p:aG}(c:p∈fps i):∃l v,s[i]?=aA (aA l)/\σ[i]?=aA (aA v)/\Is K H l v (fps i):=by
 cases q:s[i]? with
 | none=>rw[r.emp i (λl z=>by rw[q] at z;cases z)] at c;simp at c
 | some o=>cases o with
  | none=>rw[r.emp i (λl z=>by rw[q] at z;cases z)] at c;simp at c
  | some l=>
   obtain⟨v,a,b⟩:=r.is i l q;exact⟨l,v,rfl,a,b⟩
theorem Rel.dom(r:Rel K O H0 fps s σ H)(i:Nat):∀p∈fps i,H p≠none:=λp a=>by obtain⟨l,v,_,_,b⟩:=r.at i a;exact Is.dom _ _ _ b p a
theorem Rel.env(r:Rel K O H0 fps s σ H):EnvIs K (λ_=>False) H s σ:=⟨λi l e=>by
 obtain⟨v,a,b⟩:=r.is i l e;exact⟨v,_,a,b,λ_ _ z=>z⟩⟩
theorem Rel.envO(r:Rel K O H0 fps s σ H):EnvIs K (Ow O fps) H (Yg O s) σ:=⟨λi l e=>by
 obtain⟨n,e⟩:=Sf e;obtain⟨v,a,b⟩:=r.is i l e;exact⟨v,_,a,b,λp f ⟨j,d,c⟩=>r.dis j d i (λz=>n (z▸d)) p c f⟩⟩
theorem Rel.owMut(r:Rel K O H0 fps s σ H):∀p,Ow O fps p->Vb (H p):=λp ⟨i,a,b⟩=>(r.own i a p b).2
theorem Rel.grow(r:Rel K O H0 fps s σ H)(e:Same H H'):Rel K O H0 fps s σ H':=
 ⟨r.same.trans e,r.len,λi l q=>by obtain⟨v,a,b⟩:=r.is i l q;exact⟨v,a,b.mono e⟩,r.emp,r.nd,λi c p d=>⟨(r.own i c p d).1,Same.mut e (r.own i c p d).2⟩,r.dis⟩
theorem Rel.less{F:Hp}(r:Rel K O F fps s σ H)(e:Same H0 F):Rel K O H0 fps s σ H:=
 ⟨e.trans r.same,r.len,r.is,r.emp,r.nd,λi a p b=>⟨Same.off e (r.own i a p b).1,(r.own i a p b).2⟩,r.dis⟩
open Classical in
noncomputable def Wq(H:Hp)(Rm:aG->Prop):Hp:=λb=>if Rm b then none else H b
theorem RO{a:aG->Prop}:Same (Wq H a) H:=λb o h=>by
 unfold Wq at h;split at h
 ·cases h
 ·exact h
theorem Rel.frame(r:Rel K O H0 fps s σ H):Rel K O (Wq H (Ow O fps)) fps s σ H:=
 ⟨RO,r.len,r.is,r.emp,r.nd,λi a p b=>⟨by unfold Wq;rw[ju ⟨i,a,b⟩],(r.own i a p b).2⟩,r.dis⟩
theorem Rel.under(r:Rel K O H0 fps s σ H):Same H0 (Wq H (Ow O fps)):=λb o h=>by unfold Wq;rw[jv (λ⟨i,a,c⟩=>by rw[(r.own i a b c).1] at h;cases h)];exact r.same b o h
open Classical in
noncomputable def VU(fps:Nat->List aG)(n:Nat)(i:Nat)(fp:List aG):Nat->List aG:=λj=>if j=i/\i<n then fp else fps j
theorem ZI{n i j:Nat}{a:List aG}(h:j≠i):VU fps n i a j=fps j:=by unfold VU;rw[jv (λz=>h z.1)]
theorem QA{n i:Nat}{a:List aG}(h:i<n):VU fps n i a i=a:=by unfold VU;rw[ju ⟨rfl,h⟩]
theorem Rel.set(r:Rel K O H0 fps s σ H){i:Nat}{l:PV}{v:V}{f:List aG}(x:Is K H l v f)(q:i∈O->f.Nodup/\∀p∈f,H0 p=none/\Vb (H p))
  (o:∀j,j≠i->(j∈O\/i∈O)->∀p∈f,p∉fps j):Rel K O H0 (VU fps s.length i f) (s.set i (aA l)) (σ.set i (aA v)) H:=by
 by_cases c:i<s.length
 ·have g:VU fps s.length i f i=f:=QA c;refine⟨r.same,by rw[bq,bq];exact r.len,λj a e=>?_,λj h=>?_,λj b=>?_,λj b p d=>?_,λj b k n p d=>?_⟩
  ·rw[aj] at e;by_cases b:i=j
   ·subst b;rw[ju rfl,ju c] at e;cases e;rw[g];exact⟨v,by rw[aj,ju rfl,ju (by rw[<-r.len];exact c)],x⟩
   ·rw[jv b] at e;obtain⟨w,t,y⟩:=r.is j a e;rw[ZI (ao b)];exact⟨w,by rw[aj,jv b];exact t,y⟩
  ·by_cases b:i=j
   ·subst b;exact absurd (by rw[aj,ju rfl,ju c]) (h l)
   ·rw[ZI (ao b)];exact r.emp j λa z=>h a (by rw[aj,jv b];exact z)
  ·by_cases e:j=i
   ·subst e;rw[g];exact(q b).1
   ·rw[ZI e];exact r.nd j b
  ·by_cases e:j=i
   ·subst e;rw[g] at d;exact(q b).2 p d
   ·rw[ZI e] at d;exact r.own j b p d
  ·by_cases e:j=i
   ·subst e;rw[g] at d;rw[ZI n];exact o k n (.inr b) p d
   ·rw[ZI e] at d;by_cases m:k=i
    ·subst m;rw[g];exact λz=>o j e (.inl b) p z d
    ·rw[ZI m];exact r.dis j b k n p d
 ·have g:s.set i (aA l)=s:=gR (by omega);have m:σ.set i (aA v)=σ:=gR (by rw[<-r.len];omega);have u:VU fps s.length i f=fps:=by funext j;unfold VU;rw[jv (λz=>c z.2)]
  rw[g,m,u];exact r
theorem Rel.mutate(r:Rel K O H0 fps s σ H){i:Nat}(n:i∈O){p:aG}(m:p∈fps i){o:HO}{l':PV}{v:V}{fp':List aG}(M:σ[i]?=aA (aA v))(f:i<s.length)
  (E:Is K (upd H p o) l' v fp') (C:fp'.Nodup) (F:∀q∈fp',H0 q=none/\Vb (upd H p o q)) (y:∀j,j≠i->∀q∈fp',q∉fps j) (B:Vb (aA o)):Rel K O H0 (VU fps s.length i fp') (s.set i (aA l')) σ (upd H p o):=by
 have g:=(r.own i n p m).2;have G:=(r.own i n p m).1;have l:VU fps s.length i fp' i=fp':=QA f
 have tk:JH H (upd H p o):=⟨λb L h=>by
  rw[upd_ne (λz=>by rw[z] at h;rw[h] at g;exact g)];exact h,λb o L h=>by
  rw[upd_ne (λz=>by rw[z] at h;rw[h] at g;exact g)];exact h,λb o x h=>by
  rw[upd_ne (λz=>by rw[z] at h;rw[h] at g;exact g)];exact h⟩
 refine⟨λb u h=>by rw[upd_ne (Zm h G)];exact r.same b u h,by rw[bq];exact r.len,λj a e=>?_,λj h=>?_,λj c=>?_,λj c q d=>?_,λj c k t q d=>?_⟩
 ·rw[aj] at e;by_cases c:i=j
  ·subst c;rw[ju rfl,ju f] at e;cases e;rw[l];exact⟨v,M,E⟩
  ·rw[jv c] at e;obtain⟨w,D,J⟩:=r.is j a e;rw[ZI (ao c)];refine⟨w,D,Is.tr tk _ _ _ (λq d=>RdK.of λu I=>?_) J⟩;have ne:q≠p:=λz=>r.dis i n j (ao c) p m (z▸d);rw[upd_ne ne];exact I
 ·by_cases c:i=j
  ·subst c;exact absurd (by rw[aj,ju rfl,ju f]) (h l')
  ·rw[ZI (ao c)];exact r.emp j λa z=>h a (by rw[aj,jv c];exact z)
 ·by_cases e:j=i
  ·subst e;rw[l];exact C
  ·rw[ZI e];exact r.nd j c
 ·by_cases e:j=i
  ·subst e;rw[l] at d;exact F q d
  ·rw[ZI e] at d;refine⟨(r.own j c q d).1,?_⟩;have ne:q≠p:=λz=>r.dis j c i (ao e) q d (z▸m);rw[upd_ne ne];exact(r.own j c q d).2
 ·by_cases e:j=i
  ·subst e;rw[l] at d;rw[ZI t];exact y k t q d
  ·rw[ZI e] at d;by_cases A:k=i
   ·subst A;rw[l];exact λz=>y j e q z d
   ·rw[ZI A];exact r.dis j c k t q d
end
noncomputable def Kep(a b:List aG):Prop:=a=b\/a=[]
theorem Kep.refl(a:List aG):Kep a a:=.inl rfl
theorem Kep.trans{a b c:List aG}(h:Kep a b)(k:Kep b c):Kep a c:=by
 rcases h with rfl | h
 ·exact k
 ·exact .inr h
inductive Out where
 | nx (s:ZA) | rt (l:PV) | bk (s:ZA) | ct (s:ZA)
abbrev XS:=ZA->Option Out
noncomputable def OutOk(K:aD)(O W:List Nat)(H0:Hp)(fps:Nat->List aG)(σ:Te)(D:Yv):Out->Prop
 | .nx s'=>∀jq σ' H',Rel K O H0 jq s' σ' H'->(∀j,j∉W->σ'[j]?=σ[j]?/\Kep (jq j) (fps j))->D.nx σ' H'
 | .bk s'=>∀jq σ' H',Rel K O H0 jq s' σ' H'->(∀j,j∉W->σ'[j]?=σ[j]?/\Kep (jq j) (fps j))->D.bk σ' H'
 | .ct s'=>∀jq σ' H',Rel K O H0 jq s' σ' H'->(∀j,j∉W->σ'[j]?=σ[j]?/\Kep (jq j) (fps j))->D.ct σ' H'
 | .rt l=>∀v fp H',Same H0 H'->Is K H' l v fp->fp.Nodup->(∀p∈fp,H0 p=none/\Vb (H' p))->D.rt v H'
noncomputable def Fi(K:aD)(O W:List Nat)(f:XS):TS:=λD σ H=>∃H0 fps s out,Rel K O H0 fps s σ H/\f s=aA out/\OutOk K O W H0 fps σ D out
noncomputable def VS(X:Cx)(O W:List Nat)(st:bb)(f:XS):Prop:=PS X st (Fi X.K O W f)
noncomputable def Lj(X:Cx)(O W:List Nat)(st:List bb)(f:XS):Prop:=PSs X st (Fi X.K O W f)
theorem OutOk.same{O W m:List Nat}{n:Hp}{fps c:Nat->List aG}{o i:Te}{D:Yv}{d:Out}(h:OutOk K O m n fps o D d)(k:∀j,j∉m->i[j]?=o[j]?/\Kep (c j) (fps j))(e:∀j,j∉m->j∉W):OutOk K O W n c i D d:=by
 cases d with
 | nx s'=>exact λf b g r q=>h f b g r λj a=>⟨(q j (e j a)).1.trans (k j a).1,(q j (e j a)).2.trans (k j a).2⟩
 | bk s'=>exact λf b g r q=>h f b g r λj a=>⟨(q j (e j a)).1.trans (k j a).1,(q j (e j a)).2.trans (k j a).2⟩
 | ct s'=>exact λf b g r q=>h f b g r λj a=>⟨(q j (e j a)).1.trans (k j a).1,(q j (e j a)).2.trans (k j a).2⟩
 | rt l=>exact h
theorem OutOk.less{O W:List Nat}{g F:Hp}{fps:Nat->List aG}{j:Te}{D:Yv}{b:Out}(h:OutOk K O W g fps j D b)(e:Same g F):OutOk K O W F fps j D b:=by
 cases b with
 | nx s'=>exact λf a c r q=>h f a c (r.less e) q
 | bk s'=>exact λf a c r q=>h f a c (r.less e) q
 | ct s'=>exact λf a c r q=>h f a c (r.less e) q
 | rt l=>exact λv o c m i d n=>h v o c (e.trans m) i d λp k=>⟨Same.off e (n p k).1,(n p k).2⟩
noncomputable def YZ:XS:=λs=>aA (.nx s)
noncomputable def Zq(f g:XS):XS:=λs=>(f s).bind λo=>match o with | .nx s'=>g s' | r=>aA r
noncomputable def Q6(c:XT)(f g:XS):XS:=λs=>(c s).bind λk=>if k=aC then f s else g s
noncomputable def ZY(f:XE):XS:=λs=>(f s).map .rt
noncomputable def Zx(i:Nat)(f:XE):XS:=λs=>(f s).map λl=>.nx (s.set i (aA l))
section
variable {X:Cx} {O W W1 W2:List Nat} {st:bb} {Z8:List bb} {f g:XS} {pos:dk}
theorem PS.imp{t t':TS}(h:PS X st t)(i:∀D a H,t' D a H->t D a H):PS X st t':=λb s a H D I q=>h b s a H D I (i D a H q)
theorem PSs.imp{t t':TS}(h:PSs X Z8 t)(i:∀D a H,t' D a H->t D a H):PSs X Z8 t':=λb s a H D I q=>h b s a H D I (i D a H q)
theorem L3:∀D a H,Fi K O W YZ D a H->IP D a H:=λD a H ⟨c,fps,s,b,r,e,k⟩=>by cases e;exact k fps a H r λj _=>⟨rfl,Kep.refl _⟩
theorem YR:Lj X O [] [] YZ:=PSs.imp Jh L3
theorem Zi(h:VS X O W st f):Lj X O W [st] f:=NB h
theorem Ze(w:VS X O W1 st f)(y:Lj X O W2 Z8 g):Lj X O (W1++W2) (st::Z8) (Zq f g):=PSs.imp (Pa w y) λD C H ⟨t,fps,s,i,r,e,k⟩=>by
 obtain⟨q,x,e⟩:=Zd e;have a:∀j,j∉W1++W2->j∉W1:=λj b z=>b (bO _ z);have d:∀j,j∉W1++W2->j∉W2:=λj b z=>b (af _ z);refine⟨t,fps,s,q,r,x,?_⟩
 cases q with
 | nx s1=>
  intro h A B u v;exact⟨t,h,s1,i,u,e,k.same (λj b=>v j (a j b)) d⟩
 | bk s1=>cases e;exact λn c p o m=>k n c p o λj b=>m j (a j b)
 | ct s1=>cases e;exact λn c p o m=>k n c p o λj b=>m j (a j b)
 | rt l=>cases e;exact k
theorem Ve{c:au}{a b:List bb}{m:XT}(q:VT X c m)(t:Lj X O W1 a f)(o:Lj X O W2 b g):VS X O (W1++W2) (.If c a b pos) (Q6 m f g):=PS.imp (Fv q t o) λD v H ⟨n,fps,s,i,r,e,k⟩=>by
 obtain⟨c,p,e⟩:=Zd e;have d:∀j,j∉W1++W2->j∉W1:=λj l z=>l (bO _ z);have h:∀j,j∉W1++W2->j∉W2:=λj l z=>l (af _ z);refine⟨λ_=>False,s,c,λ_ z=>z.elim,r.env,p,λu s1=>?_⟩
 cases c with
 | true=>
  exact⟨n,fps,s,i,r.grow s1,e,k.same (λj _=>⟨rfl,Kep.refl _⟩) d⟩
 | false=>
  exact⟨n,fps,s,i,r.grow s1,e,k.same (λj _=>⟨rfl,Kep.refl _⟩) h⟩
theorem ZE{e:au}{a:XE}(m:VM X e a):VS X O [] (.Return (aA e) pos) (ZY a):=PS.imp (Lv m) λD q H ⟨o,fps,s,g,r,e,k⟩=>by obtain⟨l,f,rfl⟩:=map_some e;exact⟨s,l,r.env,f,λv h j c i d n=>k v j h (r.same.trans c) i d λp b=>⟨Same.off r.same (n p b).1,(n p b).2⟩⟩
theorem QB{e:au}{i:Nat}(g:PE X e (Qe i))(c:i∈O:=by decide):VS X O [] (.Return (aA e) pos) (ZY (Za i)):=PS.imp (Lv g) λD j H ⟨h,fps,s,f,r,e,k⟩=>by obtain⟨l,d,rfl⟩:=map_some e;obtain⟨v,a,b⟩:=r.is i l (RK d);exact⟨v,a,k v _ H r.same b (r.nd i c) (r.own i c)⟩
theorem NY{t:TE}{i:Nat}{c:XE}(m:∀a H Q,tM K c a H Q->t a H Q):∀D a H,Fi K O [i] (Zx i c) D a H->Pb t (VB i) D a H:=λD a H ⟨u,fps,s,o,r,e,k⟩=>by
 obtain⟨l,h,rfl⟩:=map_some e;refine m a H _ ⟨s,l,r.env,h,λv q w g is d n=>?_⟩;refine k _ _ q ((r.grow g).set is (λ_=>⟨d,λp b=>⟨Same.off r.same (n p b).1,(n p b).2⟩⟩) λj _ _ p b z=>r.dom j p z (n p b).1) λj f=>?_;have:j≠i:=by simpa using f
 exact⟨by rw[aj,jv (ao this)],.inl (ZI this)⟩
theorem GG{i:Nat}{x:ah}{e:au}{b:XE}{a:dk}(d:X.N.Nodup)(f:X.N[i]?=aA x)(g:Jc X.env.scope x)(j:VM X e b)(c:fS e (aA (.Name x a)) pos.line X.env=pure aB:=by rfl)(k:X.fn x=aC\/X.env.scope.names.lookup x=aA .local:=by first | exact .inl rfl | exact .inr rfl | assumption) :
  VS X O [i] (.Assign [.Name x a] e pos) (Zx i b):=PS.imp (HI d f g j c k) (NY λ_ _ _ h=>h)
end
noncomputable def Wr(T:Tgt)(fb:XS):List PV->ZA->Option Out
 | [],s=>aA (.nx s)
 | l::r,s=>(Yu T l s).bind λs1=>(fb s1).bind λo=>match o with | .nx s2=>Wr T fb r s2 | .ct s2=>Wr T fb r s2 | .bk s2=>aA (.nx s2) | .rt v=>aA (.rt v)
noncomputable def YB(O:List Nat)(fi:XL)(T:Tgt)(fb:XS):XS:=λs=>(fi (Yg O s)).bind λls=>Wr T fb ls s
theorem Rel.setAll{O:List Nat}{m H:Hp}:∀{is:List Nat}{ls:List PV}{vs:List V}{fs:List aG}{fps:Nat->List aG}{s:ZA}{σ:Te},Rel K O m fps s σ H->Iss K H ls vs fs->ls.length=is.length->(∀i∈is,i∉O)->(∀i∈O,∀p∈fps i,p∉fs)->
  ∃k,Rel K O m k (VL.setAll is ls s) (Yj is vs σ) H/\∀j,j∉is->(Yj is vs σ)[j]?=σ[j]?/\Kep (k j) (fps j)
 | [],ls,vs,fs,fps,s,σ,r,_,_,_,_=>⟨fps,by unfold VL.setAll Yj;exact r,λj _=>⟨by unfold Yj;rfl,Kep.refl _⟩⟩
 | i::is,[],vs,fs,fps,s,σ,r,_,hl,_,_=>by simp at hl
 | i::is,l::ls,vs,fs,fps,s,σ,r,hi,hl,hO,hd=>by
  obtain⟨x,v,f1,f2,rfl,o,t,rfl⟩:=hi.inv;have g:=hO i a0
  have n:=r.set (i:=i) o (λz=>absurd z g) λj f c p h z=>by
   rcases c with c | c
   ·exact hd j c p z (bO _ h)
   ·exact absurd c g
  obtain⟨k,u,q⟩:=Rel.setAll (is:=is) n t (by simpa using hl) (λj f=>hO j (aV _ f)) λj f p h z=>by have d:j≠i:=λe=>g (by rw[<-e];exact f);rw[ZI d] at h;exact hd j f p h (af _ z)
  refine⟨k,u,λj f=>?_⟩;have d:j≠i:=λe=>f (e▸a0);obtain⟨a,b⟩:=q j (λz=>f (aV _ z));exact⟨a.trans (by rw[aj,jv (ao d)]),b.trans (.inl (ZI d))⟩
section
variable {O W:List Nat} {T:Tgt} {fb:XS}
theorem L4{E:Hp}{fps:Nat->List aG}{s:ZA}{H:Te}{D:Yv}{J:It}{ls:List PV}{u:Out}(r:Rel K O (Wq E (Ow O fps)) fps s H E)(G:Dg K (Ow O fps) E J ls)(e:Wr T fb ls s=aA u)(hT:∀i∈T.slots,i∉O)
  (k:OutOk K O (T.slots++W) (Wq E (Ow O fps)) fps H D u):Dc (gT K T) (Fi K O W fb) D H J E:=by
 have w:∀j,j∉T.slots++W->j∉T.slots:=λj a z=>a (bO _ z);have c:∀j,j∉T.slots++W->j∉W:=λj a z=>a (af _ z)
 refine⟨λi m t I=>m=ls.length-i/\i<=ls.length/\∃R X,Rel K O (Wq E (Ow O fps)) R X t I/\Wr T fb (ls.drop i) X=aA u/\∀j,j∉T.slots++W->t[j]?=H[j]?/\Kep (R j) (fps j),
  ⟨ls.length,by simp,cB _,fps,s,r,e,λj _=>⟨rfl,Kep.refl _⟩⟩,?_⟩
 rintro i m t I ⟨rfl,hi,R,X,S,g,q'⟩;have ab:=λb o h n=>S.same b o (by unfold Wq;rw[jv n];exact h)
 cases q:ls.drop i with
 | nil=>
  have hil:i=ls.length:=by have:=congrArg fE q;simp at this;omega
  subst hil;rw[q] at g;cases g;exact .inl ⟨G.stop I ab,k R t I S q'⟩
 | cons l rr=>
  obtain⟨Y,hr⟩:=Se q;have Q:=(aW.mp Y).1;rw[q] at g;obtain⟨sb,eb,g⟩:=Zd g;obtain⟨o,eo,g⟩:=Zd g
  refine .inr ⟨G.go I i l ab Y,λF U=>∃fps2 s2,Rel K O (Wq E (Ow O fps)) fps2 s2 F U/\Wr T fb (ls.drop (i+1)) s2=aA u/\∀j,j∉T.slots++W->F[j]?=H[j]?/\Kep (fps2 j) (fps j),
   λF U h2=>⟨ls.length-(i+1),by omega,rfl,Q,h2⟩,λx U y=>?_⟩
  obtain⟨s2,fx,ix,nx⟩:=G.yld I i l x U ab Y y;obtain⟨bl,bv,bf,rfl,bi,L,N,P⟩:=Qy ix eb;obtain⟨A,r3,q3⟩:=Rel.setAll (S.grow s2) bi L hT λj a p hp z=>by obtain⟨n1,n2⟩:=nx p (N p z);have:=(S.own j a p hp).1;unfold Wq at this;rw[jv n2] at this;exact n1 this
  refine P _ _ ⟨_,A,_,o,r3,eo,?_⟩;have d:∀j,j∉T.slots++W->(Yj T.slots bv t)[j]?=H[j]?/\Kep (A j) (fps j):=λj a=>⟨(q3 j (w j a)).1.trans (q' j a).1,(q3 j (w j a)).2.trans (q' j a).2⟩
  cases o with
  | nx s4=>exact λf C Z M B=>⟨f,s4,M,by rw[hr];exact g,λj a=>⟨(B j (c j a)).1.trans (d j a).1,(B j (c j a)).2.trans (d j a).2⟩⟩
  | ct s4=>exact λf C Z M B=>⟨f,s4,M,by rw[hr];exact g,λj a=>⟨(B j (c j a)).1.trans (d j a).1,(B j (c j a)).2.trans (d j a).2⟩⟩
  | bk s4=>
   cases g;exact λf C Z M B=>k f C Z M λj a=>⟨(B j (c j a)).1.trans (d j a).1,(B j (c j a)).2.trans (d j a).2⟩
  | rt v=>
   cases g;exact k
end
section
variable {X:Cx} {O W:List Nat} {tg iter:au} {body:List bb} {fi:XL} {T:Tgt} {fb:XS} {pos:dk}
theorem GH(g:iM (model X.prog X.w) X.A X.env X.xe)(j:X.calm=aC)(f:VI X tg iter fi)(m:PG X tg (gT X.K T))(b:Lj X O W body fb)(h:∀i∈T.slots,i∉O:=by decide)
  (l:∀x,bI iter X.env x=pure x:=by intro _;rfl):VS X O (T.slots++W) (.For tg iter body [] pos) (YB O fi T fb):=PS.imp (HL g j f m b l) λD p H ⟨o,fps,s,d,r,e,k⟩=>by
 obtain⟨ls,c,e⟩:=Zd e;refine⟨Ow O fps,Yg O s,ls,r.owMut,r.envO,c,λJ n s1 a=>?_⟩;exact L4 (r.grow s1).frame a e h (k.less (r.grow s1).under)
end
noncomputable def Yp(c:XT)(fb:XS):Nat->ZA->Option Out
 | 0,_=>none
 | n+1,s=>(c s).bind λk=>if k=aC then(fb s).bind λo=>match o with | .nx s2=>Yp c fb n s2 | .ct s2=>Yp c fb n s2 | .bk s2=>aA (.nx s2) | .rt v=>aA (.rt v) else aA (.nx s)
theorem WA{c:XT}{fb:XS}:∀{n:Nat}{s:ZA}{o:Out},Yp c fb n s=aA o->Yp c fb (n+1) s=aA o
 | 0,_,_,h=>by cases h
 | n+1,s,o,h=>by
  unfold Yp at h ⊢;obtain⟨k,b,h⟩:=Zd h;rw[b]
  cases k with
  | false=>exact h
  | true=>
   rw[ju rfl] at h;obtain⟨d,a,h⟩:=Zd h;simp only[a9,if_true,a]
   cases d with
   | nx s2=>exact WA h
   | ct s2=>exact WA h
   | bk s2=>exact h
   | rt v=>exact h
theorem RP{c:XT}{fb:XS}{n m:Nat}{s:ZA}{o:Out}(h:Yp c fb n s=aA o)(a:n<=m):Yp c fb m s=aA o:=by
 induction m with
 | zero=>
  have:n=0:=by omega
  subst this;exact h
 | succ m ih=>
  by_cases e:n=m+1
  ·subst e;exact h
  ·exact WA (ih (by omega))
open Classical in
noncomputable def XG(c:XT)(fb:XS):XS:=λs=>if h:∃n,(Yp c fb n s).isSome=aC then Yp c fb h.choose s else none
theorem MQ{c:XT}{fb:XS}{n:Nat}{s:ZA}{o:Out}(h:Yp c fb n s=aA o):XG c fb s=aA o:=by
 have b:∃n,(Yp c fb n s).isSome=aC:=⟨n,by rw[h];rfl⟩;unfold XG;rw[dif_pos b];obtain⟨d,e⟩:=bW.mp b.choose_spec;rw[e];rcases Nat.le_total n b.choose with a | a
 ·rw[RP h a] at e;exact e.symm
 ·rw[RP e a] at h;exact h
section
variable {X:Cx} {O W:List Nat} {c:au} {body:List bb} {fc:XT} {fb:XS} {pos:dk}
theorem Sg(L:iM (model X.prog X.w) X.A X.env X.xe)(M:VT X c fc)(F:Lj X O W body fb):VS X O W (.While c body [] pos) (XG fc fb):=PS.imp (Lw L M F) λD C H ⟨y,fps,s,u,r,e,k⟩=>by
 unfold XG at e;split at e
 case isFalse=>cases e
 rename_i I;generalize I.choose=n at e;refine⟨λm g E=>∃w q,Rel X.K O y w q g E/\Yp fc fb m q=aA u/\∀j,j∉W->g[j]?=C[j]?/\Kep (w j) (fps j),⟨n,fps,s,r,e,λj _=>⟨rfl,Kep.refl _⟩⟩,?_⟩;rintro m g E ⟨w,q,B,f,p⟩
 cases m with
 | zero=>cases f
 | succ m=>
  obtain⟨b,J,f⟩:=Zd f;refine⟨λ_=>False,q,b,λ_ z=>z.elim,B.env,J,λx s2=>?_⟩
  cases b with
  | false=>
   cases f;exact k w g x (B.grow s2) p
  | true=>
   obtain⟨o,G,f⟩:=Zd f;refine⟨λl x=>∃fps2 s2,Rel X.K O y fps2 s2 l x/\Yp fc fb m s2=aA u/\∀j,j∉W->l[j]?=C[j]?/\Kep (fps2 j) (fps j),λl x N=>⟨m,gX m,N⟩,y,w,q,o,B.grow s2,G,?_⟩
   cases o with
   | nx s4=>exact λa i A t h=>⟨a,s4,t,f,λj d=>⟨(h j d).1.trans (p j d).1,(h j d).2.trans (p j d).2⟩⟩
   | ct s4=>exact λa i A t h=>⟨a,s4,t,f,λj d=>⟨(h j d).1.trans (p j d).1,(h j d).2.trans (p j d).2⟩⟩
   | bk s4=>
    cases f;exact λa i A t h=>k a i A t λj d=>⟨(h j d).1.trans (p j d).1,(h j d).2.trans (p j d).2⟩
   | rt v=>cases f;exact k
end
end VL
namespace VL
open PySem PySem.Spec PyProof.Rows L2
variable {K:aD}
section
variable {O:List Nat} {H0 H H':Hp} {fps:Nat->List aG} {s:ZA} {σ:Te}
theorem Rel.lst_at(r:Rel K O H0 fps s σ H){i:Nat}(j:i∈O){m:List PV}(e:s[i]?=aA (aA (.lst m))):∃p d c,σ[i]?=aA (aA (.ref p))/\H p=aA (.lst d)/\Iss K H m d c/\fps i=p::c:=by obtain⟨v,a,b⟩:=r.is i _ e;obtain⟨p,d,c,rfl,f,h,g⟩:=b.lst_inv;exact⟨p,d,c,a,f,h,g⟩
theorem UA{b:Type}{l:List b}{i:Nat}{a:b}(h:l[i]?=aA a):i<l.length:=(aW.mp h).1
theorem TK.upd'{p:aG}{o:HO}(a:Vb (H p)):JH H (L2.upd H p o):=⟨λb c h=>by
 rw[upd_ne (λz=>by rw[z] at h;rw[h] at a;exact a)];exact h,λb o c h=>by
 rw[upd_ne (λz=>by rw[z] at h;rw[h] at a;exact a)];exact h,λb o x h=>by
 rw[upd_ne (λz=>by rw[z] at h;rw[h] at a;exact a)];exact h⟩
theorem RdK.upd_ne{p q:aG}{o:HO}(ne:q≠p):RdK H (L2.upd H p o) q:=RdK.of λu a=>by rw[L2.upd_ne ne];exact a
theorem Rel.relist(r:Rel K O H0 fps s σ H){i:Nat}(c:i∈O){m o:List PV}(e:s[i]?=aA (aA (.lst m))){p:aG}{t b:List aG}{d:List V}(g:fps i=p::t)(x:σ[i]?=aA (aA (.ref p)))
  (w:Iss K H o d b) (k:(p::b).Nodup) (l:∀q∈b,q∈t\/((H0 q=none/\Vb (H q))/\∀j,q∉fps j)):Rel K O H0 (VU fps s.length i (p::b)) (s.set i (aA (.lst o))) σ (L2.upd H p (.lst d)):=by
 have f:p∈fps i:=by rw[g];exact a0
 have v:=(r.own i c p f).2;have u:=(bM.mp k).1;refine r.mutate c f x (UA e) (Is.lst Zp (Iss.tr (TK.upd' v) _ _ _ (λq a=>RdK.upd_ne λz=>u (z▸a)) w)) k (λq a=>?_) (λj n q a z=>?_) cT
 ·rcases aa.mp a with rfl | a
  ·exact⟨(r.own i c q f).1,by rw[Zp];exact cT⟩
  ·have ne:q≠p:=λz=>u (z▸a);rw[L2.upd_ne ne];rcases l q a with h | h
   ·exact r.own i c q (by rw[g];exact aV _ h)
   ·exact h.1
 ·rcases aa.mp a with rfl | a
  ·exact r.dis i c j n q f z
  ·rcases l q a with h | h
   ·exact r.dis i c j n q (by rw[g];exact aV _ h) z
   ·exact h.2 j z
end
noncomputable def Lk(s:ZA)(i:Nat):Option (List PV):=match s[i]? with | some (aA (.lst m))=>aA m | _=>none
noncomputable def Ll:PV->Option Int
 | .int k=>aA k
 | _=>none
noncomputable def Ey:PV->Option (List PV)
 | .lst k=>aA k
 | _=>none
theorem VV{s:ZA}{i:Nat}{m:List PV}(h:Lk s i=aA m):s[i]?=aA (aA (.lst m)):=by
 unfold Lk at h;split at h
 ·cases h;assumption
 ·cases h
theorem VY{a:PV}{k:Int}(h:Ll a=aA k):a = .int k:=by
 unfold Ll at h;split at h
 ·cases h;rfl
 ·cases h
theorem L5{a:PV}{k:List PV}(h:Ey a=aA k):a = .lst k:=by
 unfold Ey at h;split at h
 ·cases h;rfl
 ·cases h
noncomputable def gd(c:Bool):Option Unit:=if c=aC then aA () else none
theorem Tt{c:Bool}{u:Unit}(h:gd c=aA u):c=aC:=by
 unfold gd at h;split at h
 ·assumption
 ·cases h
noncomputable def Xu(i:Nat)(f:XE):XS:=λs=>(f s).bind λl=>(Lk s i).bind λm=>(gd (decide (m.length<=10000))).bind λ_=>aA (.nx (s.set i (aA (.lst (m++[l])))))
noncomputable def VZ(i:Nat)(fk:XE)(f:XE):XS:=λs=>(fk s).bind λk=>(f s).bind λl=>(Ll k).bind λk=>(Lk s i).bind λm=>(gd (Zw m&&ZJ l&&decide (0<=k/\k<=1000000/\m.length<=10000))).bind λ_=>aA (.nx (s.set i (aA (.lst (m.take k.toNat++l::m.drop k.toNat)))))
noncomputable def YF(i:Nat)(fk:XE)(f:XE):XS:=λs=>(f s).bind λl=>(fk s).bind λk=>(Ll k).bind λk=>(Lk s i).bind λm=>(gd (Zw m&&ZJ l)).bind λ_=>(Oy m.length k).map λj=>.nx (s.set i (aA (.lst (m.set j l))))
section
variable {X:Cx} {O:List Nat} {i:Nat} {st:bb} {f fk:XE}
theorem DG{H:Hp}{p:aG}{a:List V}(h:H p=aA (.lst a)):E4 K "list" (.ref p) H:=.inl ⟨rfl,_,SqL.of h⟩
theorem NZ{s:ZA}{a:Te}{fps:Nat->List aG}{c:List aG}:∀j,j∉[i]->a[j]?=a[j]?/\Kep (VU fps s.length i c j) (fps j):=λj b=>⟨rfl,.inl (ZI (by simpa using b))⟩
theorem UB(h:PS X st (NC (E5 X.K "list" NI (Qe i) (Pe (tM X.K f) HY))))(n:i∈O:=by decide):VS X O [i] st (Xu i f):=PS.imp h λD Q H ⟨N,fps,s,G,r,e,k⟩=>by
 obtain⟨l,F,e⟩:=Zd e;obtain⟨m,c,e⟩:=Zd e;obtain⟨_,B,e⟩:=Zd e;have c:=VV c;have u:=of_decide_eq_true (Tt B);cases e;obtain⟨p,J,P,x,v,w,o⟩:=r.lst_at n c;refine⟨.ref p,x,DG v,s,l,r.env,F,λy R M s2 I E g=>?_⟩;refine⟨p,J,y,rfl,rfl,s2 _ _ v,by rw[w.len];exact lt_size (by omega),?_⟩;have C:=r.grow s2;have fr:=λq d j z=>r.dom j q z (g q d).1;refine k _ _ _ (C.relist n c o x ((w.mono s2).append (Iss.one I)) ?_ λq d=>?_) NZ
 ·have t:=r.nd i n;rw[o] at t;exact gH.mpr ⟨t,E,λa L b A z=>fr b A i (by rw[o,<-z];exact L)⟩
 ·rcases bj.mp d with h | h
  ·exact .inl h
  ·exact .inr ⟨⟨Same.off r.same (g q h).1,(g q h).2⟩,fr q h⟩
theorem Iss.pureEq{H:Hp}{l:List PV}{a:List V}{c:List aG}(h:Iss K H l a c)(b:Zw l=aC):Iss K H l a []:=by have:=Iss.pure _ _ _ b h;subst this;exact h
theorem OZ{l:List PV}(n:Nat)(h:Zw l=aC):Zw (l.take n)=aC:=by rw[YE,ak] at *;exact λx a=>h x (iG a)
theorem O0{l:List PV}(n:Nat)(h:Zw l=aC):Zw (l.drop n)=aC:=by rw[YE,ak] at *;exact λx a=>h x (List.mem_of_mem_drop a)
theorem MR(h:PS X st (NC (E5 X.K "list" NJ (Qe i) (Pe (tF X.K fk) (Pe (tF X.K f) HY)))))(t:i∈O:=by decide):VS X O [i] st (VZ i fk f):=PS.imp h λD Y H ⟨U,fps,s,J,r,e,k⟩=>by obtain⟨kk,x,e⟩:=Zd e;obtain⟨l,I,e⟩:=Zd e;obtain⟨n,G,e⟩:=Zd e;obtain⟨m,c,e⟩:=Zd e;obtain⟨_,C,e⟩:=Zd e;rw[VY G] at x;have c:=VV c;have A:=Tt C;simp only[bU,decide_eq_true_eq] at A;obtain⟨⟨d,N⟩,F,S,o⟩:=A;cases e;obtain⟨p,P,W,B,u,w,M⟩:=r.lst_at t c;refine⟨.ref p,B,DG u,λ_=>False,s,_,λ_ z=>z.elim,r.env,x,λz R Q s1 L _=>⟨λ_=>False,s,l,λ_ z=>z.elim,r.env.mono s1,I,λy Z T s2 v _=>?_⟩⟩;have a:=s1.trans s2;obtain⟨rfl,_⟩:=L.int_inv;have:=Is.pure _ _ _ N v;subst this;refine⟨p,P,n,y,rfl,rfl,a _ _ u,F,by omega,by rw[w.len];exact lt_size (by omega),?_⟩;have b:=(w.mono a).pureEq d;obtain⟨f1,g,_⟩:=b.take n.toNat;obtain⟨f2,j,_⟩:=b.drop n.toNat;have g:=g.pureEq (OZ _ d);have j:=j.pureEq (O0 _ d);exact k _ _ _ ((r.grow a).relist t c M B (g.append (Iss.cons v j)) (by simp) λq E=>by simp at E) NZ
theorem XX(h:PS X st (Pb (tF X.K f) (HH (Qe i) (tF X.K fk) LG)))(n:i∈O:=by decide):VS X O [i] st (YF i fk f):=PS.imp h λD S H ⟨P,fps,s,E,r,e,k⟩=>by obtain⟨l,I,e⟩:=Zd e;obtain⟨kk,d,e⟩:=Zd e;obtain⟨C,A,e⟩:=Zd e;obtain⟨m,b,e⟩:=Zd e;obtain⟨_,w,e⟩:=Zd e;rw[VY A] at d;have b:=VV b;have t:=Tt w;simp only[bU] at t;obtain⟨c,u⟩:=t;obtain⟨j,B,rfl⟩:=map_some e;obtain⟨p,L,Q,v,F,o,J⟩:=r.lst_at n b;refine⟨λ_=>False,s,l,λ_ z=>z.elim,r.env,I,λy N R s1 g _=>?_⟩;refine⟨.ref p,v,λ_=>False,s,_,λ_ z=>z.elim,r.env.mono s1,d,λz T M s2 G _=>?_⟩;have a:=s1.trans s2;obtain⟨rfl,_⟩:=G.int_inv;have:=Is.pure _ _ _ u g;subst this;refine⟨p,L,C,j,rfl,rfl,a _ _ F,by rw[o.len];exact B,?_⟩;exact k _ _ _ ((r.grow a).relist n b J v (Iss.setP j c u ((o.mono a).pureEq c) (g.mono s2)) (by simp) λq x=>by simp at x) NZ
end
theorem Iss.setRow{H:Hp}{o:List V}:∀{m:List PV}{xs:List V}{fq:List aG}{j:Nat}{n n':List PV}{q:aG},Iss K H m xs fq->m[j]?=aA (.lst n)->xs[j]?=aA (.ref q)->fq.Nodup->Vb (H q)->Zw n=aC->Iss K (L2.upd H q (.lst o)) n' o []->
  Iss K (L2.upd H q (.lst o)) (m.set j (.lst n')) xs fq
 | [],_,_,_,_,_,_,_,e,_,_,_,_,_=>by simp at e
 | a::m,xs,fq,0,n,n',q,h,e,ex,nd,mu,pn,h'=>by obtain⟨x,r,f1,f2,rfl,g,d,rfl⟩:=h.inv;simp at e ex;subst e ex;obtain⟨s,w,p,e,B,c,rfl⟩:=g.lst_inv;cases e;have:=Iss.pure _ _ _ pn c;subst this;have k:q∉f2:=(bM.mp nd).1;exact Iss.cons (Is.lst Zp h') (Iss.tr (TK.upd' mu) _ _ _ (λz c=>RdK.upd_ne λe=>k (e▸c)) d)
 | a::m,xs,fq,j+1,n,n',q,h,e,ex,nd,mu,pn,h'=>by obtain⟨x,r,f1,f2,rfl,g,d,rfl⟩:=h.inv;simp at e ex;obtain⟨v,f,i⟩:=gH.mp nd;obtain⟨y,A,l,t,b⟩:=d.get e;rw[ex] at l;cases l;obtain⟨s,w,p,u,_,_,rfl⟩:=t.lst_inv;cases u;have k:q∉f1:=λz=>i q z q (b q a0) rfl;exact Iss.cons (Is.tr (TK.upd' mu) _ _ _ (λz c=>RdK.upd_ne λe=>k (e▸c)) g) (Iss.setRow d e ex f mu pn h')
noncomputable def Wb(i:Nat)(fa fb:XE)(f:XE):XS:=λs=>(f s).bind λl=>(fa s).bind λa=>(fb s).bind λb=>(Ll a).bind λa=>(Ll b).bind λb=>(Lk s i).bind λm=>(Oy m.length a).bind λj=>(m[j]?).bind λr=>(Ey r).bind λn=>
 (gd (Zw n&&ZJ l)).bind λ_=>(Oy n.length b).map λc=>.nx (s.set i (aA (.lst (m.set j (.lst (n.set c l))))))
noncomputable def L6(T:Tgt)(f:XE):XS:=λs=>(f s).bind λl=>if ZJ l=aC then(Yu T l s).map .nx else none
theorem JV{X:Cx}{O:List Nat}{st:bb}{f:XE}{T:Tgt}(h:PS X st (Pb (tF X.K f) (gT X.K T)))(u:∀i∈T.slots,i∉O:=by decide):VS X O T.slots st (L6 T f):=PS.imp h λD q H ⟨C,fps,s,n,r,e,k⟩=>by
 obtain⟨l,m,e⟩:=Zd e;split at e
 case isFalse=>cases e
 rename_i y;obtain⟨A,w,rfl⟩:=map_some e;refine⟨λ_=>False,s,l,λ_ z=>z.elim,r.env,m,λv c F s1 b _=>?_⟩;have:=Is.pure _ _ _ y b;subst this;obtain⟨ls,vs,fs,rfl,t,o,sub,a⟩:=Qy b w;obtain⟨x,d,g⟩:=Rel.setAll (r.grow s1) t o u λj B p E z=>by have:=sub p z;simp at this
 exact a q D.nx (k x _ c d g)
end VL
namespace VL
open PySem PySem.Spec PyProof.Rows L2
variable {K:aD}
section
variable {X:Cx} {a b c d:au} {fa fb fc fd:XE} {pos:dk}
theorem RQ(c:X.A.units+64<iT)(e:VE X a fa)(d:VE X b fb):VE X (.Compare a [.Eq] [b] pos) (Zj (WX aB) fa fb):=LM (LX c) (Qw aB) e d (Uj _)
theorem F4(c:X.A.units+64<iT)(e:VE X a fa)(d:VE X b fb):VE X (.Compare a [.NotEq] [b] pos) (Zj (WX aC) fa fb):=LM (LY c) (Qw aC) e d (Uj _)
theorem N0(c:X.A.units+64<iT)(e:VE X a fa)(d:VE X b fb):VT X (.Compare a [.Eq] [b] pos) (xB (Zj (WX aB) fa fb)):=Qq (LX c) (Qw aB) e d (Uj _)
theorem PJ(c:X.A.units+64<iT)(e:VE X a fa)(d:VE X b fb):VT X (.Compare a [.NotEq] [b] pos) (xB (Zj (WX aC) fa fb)):=Qq (LY c) (Qw aC) e d (Uj _)
noncomputable def DH:PV->Option Bool
 | .bl c=>aA c
 | _=>none
end
section
variable {X:Cx} {a b:au} {fa fb:XE} {pos:dk}
noncomputable def gCat:PV->PV->Option PV
 | .lst m,.lst n=>if m.length+n.length<=10000 then aA (.lst (m++n)) else none
 | _,_=>none
noncomputable def Sh:PV->PV->Option PV
 | .lst m,.lst n=>if m.length+n.length<=10000/\Zw m=aC/\Zw n=aC then aA (.lst (m++n)) else none
 | _,_=>none
theorem QC(G:VE X a fa)(o:VE X b fb):VM X (.BinOp a .Add b pos) (Zj Sh fa fb):=PE.imp (Ly Gh G o) λL H Q ⟨s,l,env,e,k⟩=>by
 obtain⟨h,j,A,E,e⟩:=T6 e;refine⟨λ_=>False,s,h,λ_ z=>z.elim,env,A,λx I f1 s1 B _=>⟨λ_=>False,s,j,λ_ z=>z.elim,env.mono s1,E,λy M f2 s2 C _=>?_⟩⟩
 cases h with
 | lst m=>cases j with
  | lst n=>
   have e:(if m.length+n.length<=10000/\Zw m=aC/\Zw n=aC then aA (PV.lst (m++n)) else none)=aA l:=e;split at e
   case isFalse=>cases e
   rename_i f;cases e;obtain⟨p,F,J,rfl,D,i,rfl⟩:=B.lst_inv;obtain⟨u,v,w,rfl,g,c,rfl⟩:=C.lst_inv;refine⟨p,u,F,v,rfl,rfl,s2 _ _ D,g,by rw[i.len,c.len];exact cV (lt_size f.1),λq d=>?_⟩;refine k _ _ [q] (s1.trans (s2.trans (Same.new d _))) (Is.lst Zp ((((i.mono s2).pureEq f.2.1).append (c.pureEq f.2.2)).mono (Same.new d _))) (by simp) λr t=>?_;rw[av.mp t];exact⟨Same.off (s1.trans s2) d,by rw[Zp];exact cT⟩
  | _=>cases e
 | _=>cases e
noncomputable def PK:PV->PV->Option PV
 | .lst m,.int k=>if Zw m=aC/\-1000000<=k/\k<=1000000/\m.length*k.toNat<=10000 then aA (.lst (aU k.toNat m).flatten) else none
 | _,_=>none
theorem Iss.rep{H:Hp}{m:List PV}{a:List V}(h:Iss K H m a []):∀k:Nat,Iss K H (aU k m).flatten (aU k a).flatten []
 | 0=>Iss.nil
 | k+1=>by rw[cb,cb,dc,dc];exact h.append (Iss.rep h k)
theorem L7(B:VE X a fa)(i:VE X b fb):VM X (.BinOp a .Mult b pos) (Zj PK fa fb):=PE.imp (Ly Gi B i) λE H Q ⟨s,l,env,e,k⟩=>by
 obtain⟨d,h,o,w,e⟩:=T6 e;refine⟨λ_=>False,s,d,λ_ z=>z.elim,env,o,λx C f1 s1 t _=>⟨λ_=>False,s,h,λ_ z=>z.elim,env.mono s1,w,λy F f2 s2 u _=>?_⟩⟩
 cases d with
 | lst m=>cases h with
  | int n=>
   have e:(if Zw m=aC/\-1000000<=n/\n<=1000000/\m.length*n.toNat<=10000 then aA (PV.lst (aU n.toNat m).flatten) else none)=aA l:=e;split at e
   case isFalse=>cases e
   rename_i f;cases e;obtain⟨p,A,D,rfl,v,g,rfl⟩:=t.lst_inv;refine⟨p,n,A,rfl,u.int_inv.1,s2 _ _ v,by omega,by omega,by rw[g.len];exact cV (lt_size f.2.2.2),λq c=>?_⟩;refine k _ _ [q] (s1.trans (s2.trans (Same.new c _))) (Is.lst Zp ((Iss.rep ((g.mono s2).pureEq f.1) n.toNat).mono (Same.new c _))) (by simp) λr j=>?_;rw[av.mp j];exact⟨Same.off (s1.trans s2) c,by rw[Zp];exact cT⟩
  | _=>cases e
 | _=>cases e
end
theorem Iss.fps{H:Hp}:∀{ls:List PV}{vs:List V}{fp:List aG},Iss K H ls vs fp->∃fps:Nat->List aG,(∀(i:Nat) l,ls[i]?=aA l->∃v,vs[i]?=aA v/\Is K H l v (fps i))/\∀i,ls.length<=i->fps i=[]
 | [],vs,fp,h=>⟨λ_=>[],λi l e=>by simp at e,λ_ _=>rfl⟩
 | a::ls,vs,fp,h=>by
  obtain⟨x,r,f1,f2,rfl,f,d,rfl⟩:=h.inv;obtain⟨fps,g,p2⟩:=d.fps;refine⟨λi=>match i with | 0=>f1 | k+1=>fps k,λi l e=>?_,λi c=>?_⟩
  ·cases i with
   | zero=>simp at e;subst e;exact⟨x,rfl,f⟩
   | succ k=>
    obtain⟨v,a,b⟩:=g k l (by simpa using e);exact⟨v,by simpa using a,b⟩
  ·cases i with
   | zero=>simp at c
   | succ k=>exact p2 k (by simpa using c)
noncomputable def ZQ(m:Nat)(ls:List PV):ZA:=ls.map aA++aU (m-ls.length) none
noncomputable def O1:Out->Option PV
 | .rt v=>aA v
 | .nx _=>aA .non
 | _=>none
noncomputable def Xg(m:Nat)(f:XS):List PV->Option PV:=λls=>(f (ZQ m ls)).bind O1
theorem N1{N:List ah}{n:Nat}{O W:List Nat}{f:XS}{vs:List V}{H:Hp}{Q:VK}{E:XK}(u:∀i∈O,n<=i)(h:Xq K (Xg N.length f) n vs H Q E):Fi K O W f { nx:=λ_ s=>Q .non s,rt:=Q } (L2.start N vs) H:=by
 obtain⟨L,ls,y,l,g,e,q⟩:=h;obtain⟨o,F,t⟩:=Zd e;obtain⟨fps,B,p2⟩:=g.fps;have k:=g.len
 have r:∀i:Nat,ls.length<=i->∀l,(ZQ N.length ls)[i]?≠aA (aA l):=λi g l z=>by
  unfold ZQ at z;rw[bQ (by simpa using g),bZ] at z;split at z<;>cases z
 have x:Rel K O H fps (ZQ N.length ls) (L2.start N vs) H:=by
  refine⟨Same.refl H,?_,λi a z=>?_,λi w=>?_,λi g=>?_,λi g p m=>?_,λi g j J p m=>?_⟩
  ·unfold ZQ L2.start;simp[k]
  ·by_cases c:i<ls.length
   ·unfold ZQ at z;rw[ay (by simpa using c),aR] at z
    cases q:ls[i]? with
    | none=>rw[q] at z;cases z
    | some b=>
     rw[q] at z;cases z;obtain⟨v,C,A⟩:=B i a q;refine⟨v,?_,A⟩;unfold L2.start;rw[ay (by simpa [k] using c),aR,C];rfl
   ·exact absurd z (r i (by omega) a)
  ·by_cases c:i<ls.length
   ·exact absurd (by unfold ZQ;rw[ay (by simpa using c),aR,aM c];rfl) (w ls[i])
   ·exact p2 i (by omega)
  ·rw[p2 i (by have:=u i g;omega)];exact cW
  ·rw[p2 i (by have:=u i g;omega)] at m;simp at m
  ·rw[p2 i (by have:=u i g;omega)] at m;simp at m
 refine⟨H,fps,ZQ N.length ls,o,x,F,?_⟩
 cases o with
 | nx s'=>
  cases t;exact λM I s G _=>q .non s [] G.same Is.non cW λp m=>by simp at m
 | rt v=>
  cases t;exact λv y s D i d n=>q v s y D i d n
 | bk s'=>cases t
 | ct s'=>cases t
section
variable {P:bH} {w:bu} {mg:ah->Option aF} {base:bP}
theorem O2{x:ah}{st:bb}{N d:List ah}{k n:Nat}{O W:List Nat}(m:Nat)(f:XS)(D:Def K mg x st)(S:Zn N d (Zf st))
  (g:∀(kV doc pm:aF)(an:Option aG)(b ct:aF)(us:List aF),us.length=d.length->gW (cN x x (YN st) (Z9 st) (Zf st) .none kV doc pm an b ct) ⟨us,[]⟩=pure (d.zip us))
  (p:d.length=n) (o:N.length=m) (l:∀i∈O,n<=i)
  (c:∀(e:aG)(b:aF)(A:bc)(a:List jG)(s:aL)(H:Hp)(E:XK),Room k (A.deeper (fB x (Zf st) s.heap.objs.size e b))->Lj (TV OJ P w K mg base N x (Zf st) e b A a s H E).nox O W (Z9 st) f) :
  XZ P w K mg base x d (Xq K (Xg m f) n) (k+1):=by
 subst o;refine D.cal S g (λvs H Q E h=>by rw[p];exact h.1) λe b A a s H vs Q E j h=>⟨_,c e b A a s H E j,N1 l h⟩
end
end VL
namespace VL
open PySem PySem.Spec PyProof.Rows L2
variable {K:aD}
section
variable {X:Cx} {O:List Nat} {tg js iter:au} {jr:List au} {scope:cq} {pos:dk} {fi:XL} {T:Tgt} {ft:XT} {fe:XE}
theorem Tu(own fr:List ah)(ix:List Nat){i:Nat}{y:ah}{f b:dk}(l:X.N.Nodup)(g:X.N[i]?=aA y)(d:X.env.scope.names.lookup y=aA .local)(c:X.calm=aC)(j:VI X tg iter fi)(S:Wv X.N X.env.scope scope own fr ix=aC)
  (m:∀cl C s H a,PG (Zv X (own++fr) scope cl C s H a) tg (gT X.K T)) (h:∀cl C s H a,GD (Zv X (own++fr) scope cl C s H a) jr ft) (o:∀cl C s H a,VM (Zv X (own++fr) scope cl C s H a) js fe)
  (n:∀i∈T.slots,i<own.length:=by decide)
  (e:fS (.ListComp js [⟨tg,iter,jr,0⟩] scope pos) (aA (.Name y f)) b.line X.env=pure aC:=by rfl)
  (k:∀x,bI iter X.env x=pure x:=by intro _;rfl):VS X O [i] (.Assign [.Name y f] (.ListComp js [⟨tg,iter,jr,0⟩] scope pos) b) (Zx i (Zt own.length ix fi T ft fe)):=
 PS.imp (LK own fr ix l g d c j S m (λcl C s H a=>(show Oz (Zv X (own++fr) scope cl C s H a) jr (Q5 X.K ft) from h cl C s H a)) (λcl C s H a=>(show PE (Zv X (own++fr) scope cl C s H a) js (tM X.K fe) from o cl C s H a)) e k) (NY (Qz n))
end
section
variable {P:bH} {w:bu} {mg:ah->Option aF} {base:bP}
theorem GI{x:ah}{st:bb}{N e:List ah}{k n:Nat}{O W:List Nat}{d:aG}{g:dJ}(m:Nat)(f:XS)(F:Fun K x x st d g)(S:Zn N e (Zf st))
  (p:e.length=n) (o:N.length=m) (l:∀i∈O,n<=i)
  (c:∀(d:aG)(b:aF)(A:bc)(a:List jG)(s:aL)(H:Hp)(E:XK),Room k (A.deeper (fB x (Zf st) s.heap.objs.size d b))->Lj (TV OJ P w K mg base N x (Zf st) d b A a s H E).nox O W (Z9 st) f) :
  Ta P w K mg base OJ (k+1) d g e (Xq K (Xg m f) n):=by
 subst o;refine F.ok S (λvs H Q E h=>by rw[p];exact h.1) λb A a s H vs Q E j h=>⟨_,c d b A a s H E j,?_⟩;exact N1 l h
theorem L8{st:bb}{x:ah}{D:List PV->Option PV}{k:Nat}{h:aG}(q:Def K mg "law" st)(g:mg "law" = aA (.ref h))
  (l:∀(kV c d:aF)(i:Option aG)(b ct u:aF),gW (cN "law" "law" (YN st) (Z9 st) (Zf st) .none kV c d i b ct) ⟨[u],[]⟩=pure [(x,u)])
  (H:∀(base:bP)(f:aG)(a:dJ),K.In base->base.Ns cE mg->Fun K "law" "law" st f a->Ta P w K mg base OJ k f a [x] (Xq K D 1)) :
  ∃a:dJ,(∀(s:aL)(u:aF),ir s a ⟨[u],[]⟩ [(x,u)])/\∀base:bP,K.In base->base.Ns cE mg->Ta P w K mg base OJ k h a [x] (Xq K D 1):=by
 obtain⟨f,a,o,F⟩:=q.ex;have e:=g.symm.trans o;cases e;refine⟨a,?_,λbase m p=>H base h a m p F⟩;obtain⟨v,t,kV,c,d,i,b,ct,j,rfl,r,n⟩:=F.ex;exact λs u=>.of_eq (l kV c d i b ct u)
end
theorem GJ{H:Hp}{a:aG}{b:List Int}{D:List PV->Option PV}{E:XK}(e:D [.cst (iL b)]=aA (.bl aC))(f:Gj H)(c:SqL K H a (b.map V.int)):Xq K D 1 [.ref a] H (λv _=>v = .bl aC) E:=by
 have d:CsK K H a (b.map V.int):=by
  rcases c with h | h
  ·rcases h with h | ⟨o,h⟩
   ·rcases f a with z | ⟨o,j,z⟩
    ·rw[h] at z;cases z
    ·rw[h] at z;cases z
   ·exact .inl ⟨o,h⟩
  ·exact .inr h
 exact⟨rfl,[.cst (iL b)],[],.bl aC,Iss.one (Is.cst d (Iss.ofInts b)),e,λv k g _ i _ _=>i.bl_inv.1⟩
end VL
namespace VL
open PySem L2
noncomputable def GK(K:aD):Bool:=K.all λp=>match p.2.data with
 | .fields vs=>(match vs.toList with
  | _::.str n _::_=>!(Mr n)
  | _=>aC)
 | _=>aC
theorem noLam{K:aD}(g:GK K=aC):∀(q:ah)(c:aG),Mr q=aC->cJ K (.ref c) q=aC->False:=λq c f a=>by
 have a:(match K.lookup c with
   | some ⟨_,_,.fields vs,_⟩=>(match vs.toList with | _::.str n _::_=>n==q | _=>aB)
   | _=>aB)=aC:=a
 split at a
 ·rename_i k j vs i d;split at a
  ·rename_i y n t r b;have h:n=q:=beq_iff_eq.mp a;subst h;have e:=ak.mp g (c,_) (PySem.W.mem_of_lookupK d);simp only[b,f,Bool.not_true] at e;cases e
  ·cases a
 ·cases a
@[simp] theorem eVar_def(i:Nat)(s:ZA):Za i s=(s[i]?).join:=rfl
@[simp] theorem eC_def(l:PV)(s:ZA):eC l s=aA l:=rfl
@[simp] theorem Tv(g:PV->PV->Option PV)(a b:XE)(s:ZA):Zj g a b s=(a s).bind λx=>(b s).bind λy=>g x y:=rfl
@[simp] theorem eUn_def(g:PV->Option PV)(a:XE)(s:ZA):Gx g a s=(a s).bind g:=rfl
@[simp] theorem Si(f:XE)(s:ZA):eP f s=(f s).bind λl=>if ZJ l=aC then aA l else none:=rfl
@[simp] theorem evs_nil(s:ZA):Tg [] s=aA []:=rfl
@[simp] theorem ZK(f:XE)(fs:List XE)(s:ZA):Tg (f::fs) s=(f s).bind λx=>(Tg fs s).map (x::·):=rfl
@[simp] theorem YG(D:List PV->Option PV)(fs:List XE)(s:ZA):Zc D fs s=(Tg fs s).bind D:=rfl
@[simp] theorem eTup_def(fs:List XE)(s:ZA):Pu fs s=(Tg fs s).map .tup:=rfl
@[simp] theorem eLst_def(fs:List XE)(s:ZA):VH fs s=(Tg fs s).map .lst:=rfl
@[simp] theorem W0(g:PV->Option Int->Option Int->Option PV)(a:XE)(lo hi:XO)(s:ZA):PH g a lo hi s=(a s).bind λx=>(lo s).bind λl=>(hi s).bind λu=>g x l u:=rfl
@[simp] theorem JW(s:ZA):L0 s=aA none:=rfl
@[simp] theorem gI_ii(g:Int->Int->Int)(i j:Int):gI g (.int i) (.int j)=aA (.int (g i j)):=rfl
@[simp] theorem gB_ii(g:Int->Int->Bool)(i j:Int):gB g (.int i) (.int j)=aA (.bl (g i j)):=rfl
@[simp] theorem GL(C:Int->Int->Prop)[∀i j,Decidable (C i j)](g:Int->Int->Int)(i j:Int):MJ C g (.int i) (.int j)=if C i j then aA (.int (g i j)) else none:=rfl
@[simp] theorem gIx_ti(l:List PV)(i:Int):ZT (.tup l) (.int i)=Um l i:=rfl
@[simp] theorem gIx_li(l:List PV)(i:Int):ZT (.lst l) (.int i)=Um l i:=rfl
@[simp] theorem gIx_ci(l:List PV)(i:Int):ZT (.cst l) (.int i)=Um l i:=rfl
@[simp] theorem GN(f:XE)(s:ZA):xB f s=(f s).bind DH:=by
 unfold xB
 cases f s with
 | none=>rfl
 | some a=>cases a<;>rfl
@[simp] theorem blO_bl(b:Bool):DH (.bl b)=aA b:=rfl
@[simp] theorem L9(a b:XT)(s:ZA):Pq a b s=(a s).bind λc=>if c=aC then b s else aA aB:=rfl
@[simp] theorem JX(a b:XT)(s:ZA):K9 a b s=(a s).bind λc=>if c=aC then aA aC else b s:=rfl
@[simp] theorem Ka(a:XT)(s:ZA):OO a s=(a s).map not:=rfl
@[simp] theorem Kb(a b:XE)(s:ZA):Tf a b s=(xB a s).bind λc=>if c=aC then b s else aA (.bl aB):=rfl
@[simp] theorem eOr_def(a b:XE)(s:ZA):DU a b s=(xB a s).bind λc=>if c=aC then aA (.bl aC) else b s:=rfl
@[simp] theorem eNot_def(a:XE)(s:ZA):JP a s=(xB a s).map λc=>.bl !c:=rfl
@[simp] theorem N2(c:XT)(a b:XE)(s:ZA):Gv c a b s=(c s).bind λk=>if k=aC then a s else b s:=rfl
@[simp] theorem eIsN_def(neg:Bool)(a:XE)(s:ZA):LR neg a s=(a s).bind (F0 neg):=rfl
@[simp] theorem sNext_def(s:ZA):YZ s=aA (.nx s):=rfl
@[simp] theorem PL(f g:XS)(s:ZA):Zq f g s=(f s).bind λo=>match o with | .nx s'=>g s' | r=>aA r:=rfl
@[simp] theorem Wc(c:XT)(f g:XS)(s:ZA):Q6 c f g s=(c s).bind λk=>if k=aC then f s else g s:=rfl
@[simp] theorem Kc(f:XE)(s:ZA):ZY f s=(f s).map .rt:=rfl
@[simp] theorem Sj(i:Nat)(f:XE)(s:ZA):Zx i f s=(f s).map λl=>.nx (s.set i (aA l)):=rfl
@[simp] theorem retO_rt(v:PV):O1 (.rt v)=aA v:=rfl
@[simp] theorem pureV_int(i:Int):ZJ (.int i)=aC:=rfl
@[simp] theorem pureV_bl(i:Bool):ZJ (.bl i)=aC:=rfl
@[simp] theorem pureV_str(i:ah):ZJ (.str i)=aC:=rfl
@[simp] theorem pureV_non:ZJ .non=aC:=rfl
@[simp] theorem YH(l:List PV):ZJ (.tup l)=Zw l:=by rw[ZJ]
@[simp] theorem pureL_nil:Zw []=aC:=rfl
@[simp] theorem pureL_cons(a:PV)(l:List PV):Zw (a::l)=(ZJ a&&Zw l):=rfl
theorem MS{b:Type}{l:List b}{f:b->PV}(h:∀a∈l,ZJ (f a)=aC):Zw (l.map f)=aC:=by rw[YE,List.all_map,ak];exact h
@[simp] theorem pureL_iL(l:List Int):Zw (l.map PV.int)=aC:=Z1 l
abbrev pP(l:List Int):PV:=.tup (iL l)
abbrev wP(W:List (List Int)):PV:=.tup (W.map pP)
@[simp] theorem XY(W:List (List Int)):Zw (W.map pP)=aC:=MS λa _=>by simp
theorem O3{l:List Int}{k:Nat}(h:k<l.length):(iL l)[k]?=aA (.int (Xa l k)):=by simp[Xa,aM h]
theorem Vm{l:List Int}{k:Nat}(h:k<l.length):Um (iL l) (k:Int)=aA (.int (Xa l k)):=WT (O3 h)
theorem Tw{W:List (List Int)}{k:Nat}(h:k<W.length):Um (W.map pP) (k:Int)=aA (pP (Zr W k)):=by refine WT ?_;rw[aR,Po h];rfl
@[simp] theorem GO(l:List Int):VJ [.tup (l.map PV.int)]=aA (.int l.sum):=by simp[VJ,Th,YY l]
@[simp] theorem Kd(l:List Int):VJ [.lst (l.map PV.int)]=aA (.int l.sum):=by simp[VJ,Th,YY l]
@[simp] theorem Ke(l:List Bool):Rg [.lst (l.map PV.bl)]=aA (.bl (l.all id)):=by simp[Rg,Th,XC l]
@[simp] theorem GP(l:List Bool):LV [.lst (l.map PV.bl)]=aA (.bl (l.any id)):=by simp[LV,Th,XC l]
@[simp] theorem Kf(l:List PV):Yo [.tup l]=aA (.int l.length):=rfl
@[simp] theorem O4(l:List PV):Yo [.lst l]=aA (.int l.length):=rfl
@[simp] theorem gLen_c(l:List PV):Yo [.cst l]=aA (.int l.length):=rfl
@[simp] theorem YC(l:List PV):ZH [.lst l]=aA (.tup l):=rfl
@[simp] theorem gTuple_t(l:List PV):ZH [.tup l]=aA (.tup l):=rfl
@[simp] theorem Kg(l:List PV):Ux [.tup l]=if Zw l=aC then aA (.lst l) else none:=rfl
@[simp] theorem PN(l:List PV):Ux [.lst l]=if Zw l=aC then aA (.lst l) else none:=rfl
@[simp] theorem gMin2_ii(i j:Int):Py [.int i,.int j]=aA (.int (if j<i then j else i)):=rfl
@[simp] theorem gMax2_ii(i j:Int):F3 [.int i,.int j]=aA (.int (if j>i then j else i)):=rfl
@[simp] theorem N3(c:Bool):T8 [.bl c]=aA (.int (if c then 1 else 0)):=rfl
@[simp] theorem gInt1_i(c:Int):T8 [.int c]=aA (.int c):=rfl
@[simp] theorem gInst_ii(i:Int):Wn [.int i,.ty "int"]=aA (.bl aC):=rfl
@[simp] theorem gInst_ib(i:Int):Wn [.int i,.ty "bool"]=aA (.bl aB):=rfl
@[simp] theorem gInst_tt(l:List PV):Wn [.tup l,.ty "tuple"]=aA (.bl aC):=rfl
@[simp] theorem gInst_ll(l:List PV):Wn [.lst l,.ty "list"]=aA (.bl aC):=rfl
theorem N4(n:Nat)(i j:Int):X8 (n+1) (.int i) (.int j)=aC:=rfl
theorem WB{d c:Type}{f:d->PV}{g:c->PV}{p:PV->PV->Bool}(h:∀a b,p (f a) (g b)=aC):∀(l:List d)(m:List c),((l.map f).zip (m.map g)).all (λz=>p z.1 z.2)=aC
 | [],_=>by simp
 | _::_,[]=>by simp
 | a::l,b::m=>by rw[eG,eG,i7,gQ,WB h l m,h a b];rfl
theorem N5(n:Nat)(l m:List Int):X8 (n+2) (pP l) (pP m)=aC:=WB (λa b=>N4 n a b) l m
theorem V0(n:Nat)(l m:List (List Int)):X8 (n+3) (wP l) (wP m)=aC:=WB (λa b=>N5 n a b) l m
@[simp] theorem Sk(neg:Bool)(i j:Int):WX neg (.int i) (.int j)=aA (.bl (if neg then !decide (i=j) else decide (i=j))):=by
 unfold WX;rw[ju (N4 7 i j)];congr 2;cases neg<;>simp
theorem RS{f:Type}{T:Tgt}{c:XT}{d:XE}{e:ZA}{q g:f->PV}:∀{ls:List f},(∀a∈ls,∃s1,Yu T (q a) e=aA s1/\c s1=aA aC/\d s1=aA (g a))->Xs T c d e (ls.map q)=aA (ls.map g)
 | [],_=>rfl
 | a::r,h=>by obtain⟨s1,l,k,m⟩:=h a a0;have j:=RS (ls:=r) λb i=>h b (aV _ i);rw[eG,eG];unfold Xs;rw[l];simp only[a9,k,if_true,m,j,dX]
theorem V1{d:Type}{T:Tgt}{e:XT}{f:XE}{j:ZA}{q g:d->PV}{c:d->Bool}:∀{ls:List d},(∀a∈ls,∃s1,Yu T (q a) j=aA s1/\e s1=aA (c a)/\(c a=aC->f s1=aA (g a)))->Xs T e f j (ls.map q)=aA ((ls.filter c).map g)
 | [],_=>rfl
 | a::r,h=>by
  obtain⟨s1,m,l,n⟩:=h a a0;have i:=V1 (ls:=r) λb k=>h b (aV _ k);rw[eG];unfold Xs;rw[m];simp only[a9,l]
  cases hc:c a with
  | true=>simp[n hc,i,hc]
  | false=>simp[i,hc]
theorem Z2{f:Type}{n:Nat}{ix:List Nat}{e:XL}{T:Tgt}{c:XT}{d:XE}{s:ZA}(ls:List f)(q g:f->PV)(b:e s=aA (ls.map q))(i:ls.length<=10000)
  (h:∀a∈ls,∃s1,Yu T (q a) (ZU n ix s)=aA s1/\c s1=aA aC/\d s1=aA (g a)):Zt n ix e T c d s=aA (.lst (ls.map g)):=by
 unfold Zt;rw[b];simp only[a9,aS,ju i,RS h,dX]
theorem V2{d:Type}{n:Nat}{ix:List Nat}{i:XL}{T:Tgt}{e:XT}{f:XE}{s:ZA}(ls:List d)(q g:d->PV)(c:d->Bool)(b:i s=aA (ls.map q))(j:ls.length<=10000)
  (h:∀a∈ls,∃s1,Yu T (q a) (ZU n ix s)=aA s1/\e s1=aA (c a)/\(c a=aC->f s1=aA (g a))):Zt n ix i T e f s=aA (.lst ((ls.filter c).map g)):=by
 unfold Zt;rw[b];simp only[a9,aS,ju j,V1 h,dX]
theorem Xh{T:Tgt}{fb:XS}:∀{ls:List PV}{s:ZA}(Jv:Nat->ZA->Prop),Jv 0 s->(∀(i:Nat) l st,ls[i]?=aA l->Jv i st->∃s1 s2,Yu T l st=aA s1/\fb s1=aA (.nx s2)/\Jv (i+1) s2)->
  ∃f,Wr T fb ls s=aA (.nx f)/\Jv ls.length f
 | [],s,Jv,h0,_=>⟨s,rfl,h0⟩
 | l::r,s,Jv,h0,h=>by obtain⟨s1,s2,a,b,c⟩:=h 0 l s rfl h0;obtain⟨f,d,e⟩:=Xh (ls:=r) (s:=s2) (λi=>Jv (i+1)) c λi l' st g j=>h (i+1) l' st (by simpa using g) j;refine⟨f,?_,e⟩;unfold Wr;rw[a];simp only[a9,b];exact d
theorem V3{n i:Nat}{l:PV}(h:(Uy n)[i]?=aA l):i<n/\l = .int (i:Int):=by have a:=(aW.mp h).1;unfold Uy at a h;rw[aS,b0] at a;rw[aR,bB a] at h;exact⟨a,(aq h).symm⟩
theorem PQ{lo:Int}{n i:Nat}{l:PV}(h:(X9 lo n)[i]?=aA l):i<n/\l = .int (lo+(i:Int)):=by have a:=(aW.mp h).1;unfold X9 at a h;rw[aS,b0] at a;rw[aR,bB a] at h;exact⟨a,(aq h).symm⟩
@[simp] theorem Sl(n:Nat):(Uy n).length=n:=by unfold Uy;simp
@[simp] theorem Kh(lo:Int)(n:Nat):(X9 lo n).length=n:=by unfold X9;simp
@[simp] theorem bindT_one(i:Nat)(l:PV)(s:ZA):Yu (.one i) l s=aA (s.set i (aA l)):=rfl
theorem U5(m:List PV):Wz m=(aJ m.length).map λ(i:Nat)=>.tup [.int (i:Int),m.getD i .non]:=by
 apply cO;intro i;rw[aR];by_cases h:i<m.length
 ·have:(Wz m)[i]?=aA (.tup [.int (i:Int),m[i]]):=by unfold Wz;simp
  rw[this,bB h];simp[aM h]
 ·rw[bJ (by rw[RN];omega),bJ (by simpa using h)];rfl
theorem Sm(m n:List PV)(h:n.length=m.length):Uz m n=(aJ m.length).map λ(i:Nat)=>.tup [m.getD i .non,n.getD i .non]:=by
 apply cO;intro i;rw[aR];by_cases a:i<m.length
 ·have:(Uz m n)[i]?=aA (.tup [m[i],n[i]]):=by unfold Uz;rw[aR,gF (z:=(m[i],n[i])) |>.mpr ⟨aM a,aM (by omega)⟩];rfl
  rw[this,bB a];simp[aM a,aM (show i<n.length by omega)]
 ·rw[bJ (by rw[PD];omega),bJ (by simpa using a)];rfl
theorem Tx(l:List Int)(i:Nat)(h:i<l.length):(iL l).getD i .non = .int (Xa l i):=by rw[aN,O3 h];rfl
@[simp] theorem JY(f:XE)(s:ZA):ZR [f] s=(f s).bind λa=>(Ll a).bind λj=>if -1000000<=j/\j<=1000000 then aA (Uy j.toNat) else none:=by
 unfold ZR
 cases h:f s with
 | none=>simp[h]
 | some a=>cases a<;>simp[h,Ll]
@[simp] theorem JZ(f g:XE)(s:ZA):Yz [f,g] s=(f s).bind λa=>(g s).bind λb=>(Ll a).bind λi=>(Ll b).bind λj=>if -1000000<=i/\i<=1000000/\-1000000<=j/\j<=1000000 then aA (X9 i (j-i).toNat) else none:=by
 unfold Yz
 cases h:f s with
 | none=>simp[h]
 | some a=>cases h2:g s with
  | none=>simp[h,h2]
  | some b=>cases a<;>cases b<;>simp[h,h2,Ll]
@[simp] theorem V4(i:Int):Ll (.int i)=aA i:=rfl
@[simp] theorem J0(i:List PV):Ey (.lst i)=aA i:=rfl
@[simp] theorem Ki(b1 b2:Bool)(f g:XE)(s:ZA):OW b1 b2 [f,g] s=(f s).bind λl=>(g s).bind λr=>(seqB b1 l).bind λm=>(seqB b2 r).map λn=>Uz m n:=by
 unfold OW;cases h:f s<;>cases h2:g s<;>simp[h,h2]
@[simp] theorem seqB_f(l:List PV):seqB aB (.tup l)=aA l:=rfl
@[simp] theorem seqB_t(l:List PV):seqB aC (.lst l)=aA l:=rfl
@[simp] theorem seqB_c(l:List PV):seqB aC (.cst l)=aA l:=rfl
@[simp] theorem xLst_def(f:XE)(s:ZA):VQ f s=(f s).bind Fh:=rfl
@[simp] theorem asS_l(l:List PV):Fh (.lst l)=aA l:=rfl
@[simp] theorem asS_c(l:List PV):Fh (.cst l)=aA l:=rfl
theorem Sn{f:XE}{s:ZA}{l:List PV}(h:f s=aA (.tup l)):Ti f s=aA l:=by unfold Ti;rw[h]
@[simp] theorem sFor_def(O:List Nat)(fi:XL)(T:Tgt)(fb:XS)(s:ZA):YB O fi T fb s=(fi (Yg O s)).bind λls=>Wr T fb ls s:=rfl
@[simp] theorem xTrue_def(s:ZA):ZF s=aA aC:=rfl
theorem ZP{f:XE}{s:ZA}{n:Nat}(h:f s=aA (.int (n:Int)))(a:n<=10000):ZR [f] s=aA (Uy n):=by rw[JY,h];simp only[a9,V4];rw[ju ⟨by omega,by omega⟩,eZ]
theorem W3{f g:XE}{s:ZA}{i j:Int}(h:f s=aA (.int i))(a:g s=aA (.int j))(c : -10000<=i/\i<=10000)(b : -10000<=j/\j<=10000):Yz [f,g] s=aA (X9 i (j-i).toNat):=by rw[JZ,h,a];simp only[a9,V4];rw[ju ⟨by omega,by omega,by omega,by omega⟩]
theorem GQ{i j:Int}(a : -10000<=i)(h:i<=10000):CMul i j:=by
 refine .inl ?_;have e:(2^64:Int)=18446744073709551616:=by decide
 rw[e];omega
theorem Tz{c:Bool}(h:c=aC):gd c=aA ():=by unfold gd;rw[ju h]
theorem So{i:Nat}{f:XE}{s:ZA}{m:List PV}{l:PV}(h:f s=aA l)(b:Lk s i=aA m)(a:m.length<=10000):Xu i f s=aA (.nx (s.set i (aA (.lst (m++[l]))))):=by unfold Xu;rw[h];simp only[a9,b,Tz (decide_eq_true a)]
theorem O5{i:Nat}{a f:XE}{s:ZA}{m:List PV}{l:PV}{k:Int}(o:a s=aA (.int k))(h:f s=aA l)(g:Lk s i=aA m)(e:Zw m=aC)(d:ZJ l=aC)(j:0<=k)(n:k<=1000000)(b:m.length<=10000) :
  VZ i a f s=aA (.nx (s.set i (aA (.lst (m.take k.toNat++l::m.drop k.toNat))))):=by
 unfold VZ;rw[o,h];have c:(Zw m&&ZJ l&&decide (0<=k/\k<=1000000/\m.length<=10000))=aC:=by rw[e,d,decide_eq_true ⟨j,n,b⟩];rfl
 simp only[a9,V4,g,Tz c]
theorem RU{i:Nat}{a f:XE}{s:ZA}{m:List PV}{l:PV}{k:Int}{j:Nat}(h:f s=aA l)(n:a s=aA (.int k))(g:Lk s i=aA m)(e:Zw m=aC)(d:ZJ l=aC)(b:Oy m.length k=aA j) :
  YF i a f s=aA (.nx (s.set i (aA (.lst (m.set j l))))):=by
 unfold YF;rw[n,h];have c:(Zw m&&ZJ l)=aC:=by rw[e,d];rfl
 simp only[a9,V4,g,Tz c,b,dX]
theorem Sq{i:Nat}{d fb f:XE}{s:ZA}{m n:List PV}{l:PV}{a b:Int}{j c:Nat}(h:f s=aA l)(u:d s=aA (.int a))(e:fb s=aA (.int b))(q:Lk s i=aA m)(k:Oy m.length a=aA j)(t:m[j]?=aA (.lst n))(p:Zw n=aC)(g:ZJ l=aC)(r:Oy n.length b=aA c) :
  Wb i d fb f s=aA (.nx (s.set i (aA (.lst (m.set j (.lst (n.set c l))))))):=by
 unfold Wb;rw[h,u,e];have o:(Zw n&&ZJ l)=aC:=by rw[p,g];rfl
 simp only[a9,V4,J0,q,k,t,Tz o,r,dX]
theorem W4{n k:Nat}(h:k<n):Oy n (k:Int)=aA k:=by unfold Oy;rw[ju (by omega),ju (by omega)];rfl
@[simp] theorem CMul_l{i j:Int}(h : -(2^64)<i/\i<2^64):CMul i j:=.inl h
end VL
namespace VL
open PySem
open PySem.Sem (wp)
open PySem.Builtin
theorem UC:fillsNumberSlot (.type "tuple") "mul" = pure aB:=rfl
theorem QD:seqRepeat? (.type "tuple")=pure (aA (.builtin "tuple.__mul__")):=rfl
theorem Sr(a:Int)(t:Tok)(l:aG)(b:Array aF)(n:Nat)(c:Option aG)(e:Array (Option aF)) :
  Meets (iO.«int.__rmul__» ⟨[.int a t,.ref l],[]⟩) (λ_ R s=>s.heap.get? l=aA { cls:=.type "tuple",dict:=c,data:=.seq b n,slots:=e }/\R (.ok (.ret aF.notImplemented)) s):=
 .of_wp λprog w A R s h=>by obtain⟨i,g,d,tk,os⟩:=s;obtain⟨f,h⟩:=h;wp_walk;exact⟨_,rfl,h⟩
theorem Ss(l:aG)(a:Array aF)(n:Nat)(i:Option aG)(j:Array (Option aF))(x:Int)(u:Tok)(r:1<x)(y:x<2^63)(e:a.isEmpty=aB)(o:a.size*x.toNat<=sizeLine)
  (b:Array aF) (k:iZ (λf p=>f++p) #[] (aU x.toNat a)=b) (q:b.size<=sizeLine) :
  Meets (iO.«tuple.__mul__» ⟨[.ref l,.int x u],[]⟩) (λ_ R s=>s.heap.get? l=aA { cls:=.type "tuple",dict:=i,data:=.seq a n,slots:=j }/\R (.ok (.ret (jF s.heap.objs.size))) { s with heap:=s.heap.push { cls:=jY "tuple",data:=Data.seq b },toks:=s.toks }):=
 .of_wp λprog w A R s h=>by
  obtain⟨v,g,d,tk,os⟩:=s;obtain⟨t,h⟩:=h;have c:a.size*x.toNat<=2^40:=by rw[hW] at o;omega
  have m:(a.size:Int)*x=((a.size*x.toNat:Nat):Int):=by rw[Int.natCast_mul,Int.toNat_of_nonneg (by omega)]
  wp_walk
  refine eJ (by simp;omega) ?_
  wp_walk
  refine eJ (by simp[e];omega) ?_
  wp_walk
  refine eJ (by simp[e];omega) ?_
  wp_walk
  refine eJ (decide_eq_false (by omega)) ?_
  wp_walk
  refine eJ (decide_eq_false (by rw[m];unfold Tuple.tupleTooMany;simp only[decide_eq_true_eq];omega)) ?_
  wp_walk
  rw[k];exact⟨_,rfl,h⟩
theorem Rj(l:aG)(a:Array aF)(n:Nat)(b:Option aG)(c:Array (Option aF))(u:Tok) :
  Meets (iO.«tuple.__mul__» ⟨[.ref l,.int 1 u],[]⟩) (λ_ R s=>s.heap.get? l=aA { cls:=.type "tuple",dict:=b,data:=.seq a n,slots:=c }/\R (.ok (.ret (jF l))) s):=
 .of_wp λprog w A R s h=>by
  obtain⟨f,g,d,tk,os⟩:=s;obtain⟨e,h⟩:=h
  wp_walk
  exact⟨_,rfl,h⟩
end VL
namespace VL
open PySem PySem.Spec PyProof.Rows L2
noncomputable def IZ(K:aD):R2:=λx y H Q=>∃a k xs,x = .ref a/\y = .int k/\SqT K H a xs/\xs≠[]/\1<=k/\k<2^62/\xs.length*k.toNat<=sizeLine/\
 (k=1->Q (.ref a) H)/\∀p,H p=none->Q (.ref p) (upd H p (.tup (aU k.toNat xs).flatten))
theorem J1{X:Cx}:U2 X (dC .Mult) (IZ X.K):=by
 intro S s W H x y v u Q I D z h;obtain⟨a,k,Z,rfl,rfl,R,L,U,Y,j,G,J⟩:=h;cases D;obtain⟨t,rfl⟩:=z;obtain⟨c,f,C,_⟩:=I.tuple R;obtain⟨⟨w,g,p,i⟩,d,N,n,M⟩:=id C;subst N M;have m:=f.length
 refine gD rfl ⟨_,d,rfl⟩ (λr=>gj r k t) UC F.fills_int_mul F.slot_int_rmul QD F.slot_int_index.lookup
  (eK F.slot_int_rmul (gj s k t) F.entry_int_rmul (F.args_int_rmul_2 _ _) (Sr k t a c.toArray n g i) ⟨d,rfl,⟨_,d,rfl⟩,?_⟩)
 by_cases P:k=1
 ·subst P;exact eK F.slot_tuple_mul ⟨_,d,rfl⟩ F.entry_tuple_mul (F.args_tuple_mul_2 _ _) (Rj a c.toArray n g i t) ⟨d,.ref a,H,I,rfl,G rfl⟩
 ·have l:c.toArray.isEmpty=aB:=by
   cases c with
   | nil=>exact absurd (f.nil_iff.mp rfl) L
   | cons _ _=>rfl
  have E:iZ (λB O=>B++O) #[] (aU k.toNat c.toArray)=(aU k.toNat c).flatten.toArray:=by have:=Uo c k.toNat [];exact this
  have A:(aU k.toNat c).flatten.length<=sizeLine:=by rw[Qk,br,<-m];exact j
  refine eK F.slot_tuple_mul ⟨_,d,rfl⟩ F.entry_tuple_mul (F.args_tuple_mul_2 _ _) (Ss a c.toArray n g i k t (by omega) (by omega) l (by rw[aO,<-m];exact j) _ E (by rw[aO];exact A)) ⟨d,?_⟩;refine⟨.ref s.heap.objs.size,_,I.laid (λb T q=>aE _ q) (aH _) ?_,rfl,J _ (I.hok.fresh (aH _))⟩;exact⟨⟨by rw[Qk,br];exact j,λo e=>Qc e⟩,_,f.rep k.toNat,je _ _⟩
noncomputable def PR:PV->PV->Option PV
 | .tup m,.int k=>if Zw m=aC/\m≠[]/\1<=k/\k<=1000000/\m.length*k.toNat<=10000 then aA (.tup (aU k.toNat m).flatten) else none
 | _,_=>none
theorem J2{K:aD}:RB K (IZ K) PR:=λH x y a b l s fb h i e Q k=>by
 cases a with
 | tup m=>cases b with
  | int n=>
   unfold PR at e;simp only at e;split at e
   case isFalse=>cases e
   rename_i c;cases e;obtain⟨p,t,rfl,o,f⟩:=h.tup_inv;refine⟨p,n,t,rfl,i.int_inv.1,SqT.of o,λz=>c.2.1 (List.length_eq_zero_iff.mp (by rw[<-f.len,z];rfl)),c.2.2.1,by omega,by rw[f.len];exact cV (lt_size c.2.2.2.2),λz=>?_,λq g=>?_⟩
   ·subst z;have j:(aU (Int.toNat 1) m).flatten=m:=by simp
    rw[j] at k;exact k _ _ s (Same.refl _) h λr d=>.inl d
   ·exact k _ _ [] (Same.new g _) (Is.tup Zp ((Iss.rep (f.pureEq c.1) n.toNat).mono (Same.new g _))) λr d=>by simp at d
  | _=>cases e
 | _=>cases e
end VL
namespace PW
open PySem L2 VL
noncomputable def RV:XS:=(ZY (eP (Zc VJ [Zj ZT (Za 0) (Za 1)])))
noncomputable def W5:List PV->Option PV:=Xg 2 RV
noncomputable def RW:XS:=(ZY (eP (Tf (Zc Wn [Za 0,eC (.ty "int")]) (JP (Zc Wn [Za 0,eC (.ty "bool")])))))
noncomputable def Xd:List PV->Option PV:=Xg 1 RW
noncomputable def RX:XS:=(ZY (eP (Tf (Zc Wn [Za 0,eC (.ty "tuple")]) (Tf (Zj (WX aB) (Zc Yo [Za 0]) (Za 1)) (Zc Rg [Zt 1 [] (Ti (Za 0)) (.one 0) ZF (Zc Xd [Za 0])])))))
noncomputable def RY:List PV->Option PV:=Xg 2 RX
end PW
set_option maxHeartbeats 1000000
namespace VL
open PySem PySem.Spec PyProof.Rows L2
variable {K:aD}
noncomputable def Fj(K:aD)(D:List PV->Option PV)(n:Nat):Sp:=λvs H Q _=>vs.length=n/\∃v0 vr l0 ls fp0 l',vs=v0::vr/\Is K H l0 v0 fp0/\fp0.Nodup/\(∀p∈fp0,Vb (H p))/\Iss K H ls vr []/\D (l0::ls)=aA l'/\
 ∀H' fq,Same (Wq H (·∈fp0)) H'->Is K H' l' v0 fq->fq.Nodup->(∀p∈fq,Wq H (·∈fp0) p=none/\Vb (H' p))->Q .non H'
noncomputable def GR(K:aD)(O W:List Nat)(H0:Hp)(fps:Nat->List aG)(σ:Te)(D:Yv):Out->Prop
 | .nx s'=>∀jq σ' H',Rel K O H0 jq s' σ' H'->σ'[0]?=σ[0]?->D.nx σ' H'
 | _=>True
noncomputable def GS(K:aD)(O W:List Nat)(f:XS):TS:=λD σ H=>∃H0 fps s s',Rel K O H0 fps s σ H/\f s=aA (.nx s')/\GR K O W H0 fps σ D (.nx s')
noncomputable def Ez(X:Cx)(O W:List Nat)(st:bb)(f:XS):Prop:=PS X st (GS X.K O W f)
noncomputable def J3(X:Cx)(O W:List Nat)(st:List bb)(f:XS):Prop:=PSs X st (GS X.K O W f)
section
variable {X:Cx} {O W W1 W2:List Nat} {st:bb} {Z8:List bb} {f g:XS} {pos:dk}
theorem VS.vs0(h:VS X O W st f)(g:0∉W:=by decide):Ez X O W st f:=PS.imp h λD l H ⟨i,fps,s,b,r,e,k⟩=>⟨i,fps,s,.nx b,r,e,λc a j d q=>k c a j d (q 0 g).1⟩
theorem Kj(h:Ez X O W st f):J3 X O W [st] f:=NB h
theorem R3(m:Ez X O W1 st f)(t:J3 X O W2 Z8 g):J3 X O (W1++W2) (st::Z8) (Zq f g):=PSs.imp (Pa m t) λD x H ⟨c,fps,s,d,r,e,k⟩=>by
 obtain⟨i,n,e⟩:=Zd e
 cases i with
 | nx s1=>exact⟨c,fps,s,s1,r,n,λa v w h j=>⟨c,a,s1,d,h,e,λp b u q o=>k p b u q (o.trans j)⟩⟩
 | bk s1=>cases e
 | ct s1=>cases e
 | rt l=>cases e
theorem Su{Q T fb:XE}(h:PS X st (Pb (tF X.K Q) (HH (Fg (Gb X.K) (Qe 0) (tF X.K T)) (tF X.K fb) LG)))(v:0∈O:=by decide):Ez X O [0] st (Wb 0 T fb Q):=PS.imp h λD σ H ⟨H0,fps,s,s',r,e,k⟩=>by
 obtain⟨l,e0,e⟩:=Zd e;obtain⟨a,R,e⟩:=Zd e;obtain⟨b,Z,e⟩:=Zd e;obtain⟨ai,ea,e⟩:=Zd e;obtain⟨bi,eb,e⟩:=Zd e;obtain⟨m,G,e⟩:=Zd e;obtain⟨j,ej,e⟩:=Zd e;obtain⟨ZM,J,e⟩:=Zd e;obtain⟨n,er,e⟩:=Zd e;obtain⟨_,eg,e⟩:=Zd e;rw[VY ea] at R;rw[VY eb] at Z;rw[L5 er] at J;have G:=VV G;have hc:=Tt eg;simp only[bU] at hc;obtain⟨M,pl⟩:=hc;obtain⟨c,ec,e⟩:=map_some e;cases e;obtain⟨p,xs,fq,U,hp,I,x⟩:=r.lst_at v G;refine⟨λ_=>False,s,l,λ_ z=>z.elim,r.env,e0,λy H1 fy s1 Y _=>?_⟩;refine⟨.ref p,U,λ_=>False,s,_,λ_ z=>z.elim,r.env.mono s1,R,λz H2 fz s2 i2 _=>?_⟩;obtain⟨rfl,_⟩:=i2.int_inv;have i:=s1.trans s2;obtain⟨q,f1,g,iq,u⟩:=(I.mono i).get J;obtain⟨f,C,fz',rfl,P,S,rfl⟩:=id iq.lst_inv;refine⟨p,xs,ai,.ref f,rfl,rfl,SqL.of (i _ _ hp),?_,λ_=>False,s,_,λ_ z=>z.elim,r.env.mono i,Z,λw W fw F i3 _=>?_⟩
 ·unfold Um;rw[I.len,ej];exact g
 obtain⟨rfl,_⟩:=i3.int_inv;have d:=i.trans F;have N:=r.grow d;have B:f∈fps 0:=by rw[x];exact aV _ (u f a0)
 have mu:=(N.own 0 v f B).2;have A:W f=aA (.lst C):=F _ _ P;have:=Is.pure _ _ _ pl Y;subst this;refine⟨f,C,bi,c,rfl,rfl,A,by rw[S.len];exact ec,?_⟩;have E:=r.nd 0 v;rw[x] at E;have L:f≠p:=λz=>(bM.mp E).1 (z▸u f a0);have t:Iss X.K (L2.upd W f (.lst (C.set c y))) (n.set c l) (C.set c y) []:=Iss.tr (TK.upd' mu) _ _ _ (λq g=>by simp at g) (Iss.setP c M pl ((S.mono F).pureEq M) (Y.mono (s2.trans F)));have rows:=Iss.setRow (I.mono d) J g (bM.mp E).2 mu M t;refine k _ _ _ (N.mutate (o:=.lst (C.set c y)) (l':=.lst (m.set j (.lst (n.set c l)))) (fp':=p::fq) v B U (UA G) (Is.lst (by rw[L2.upd_ne (ao L)];exact d _ _ hp) rows) E (λq g=>?_) (λj hj q g z=>r.dis 0 v j hj q (by rw[x];exact g) z) cT) rfl;refine⟨(r.own 0 v q (by rw[x];exact g)).1,?_⟩;by_cases e:q=f
 ·subst e;rw[Zp];exact cT
 ·rw[L2.upd_ne e];exact(N.own 0 v q (by rw[x];exact g)).2
end
noncomputable def F5:Out->Option PV
 | .nx s=>match s[0]? with | some (aA l)=>aA l | _=>none
 | _=>none
noncomputable def Fl(m:Nat)(f:XS):List PV->Option PV:=λls=>if Zw (ls.drop 1)=aC then(f (ZQ m ls)).bind F5 else none
theorem Kk{N:List ah}{n:Nat}{W:List Nat}{f:XS}{vs:List V}{H:Hp}{Q:VK}{E:XK}(h:Fj K (Fl N.length f) n vs H Q E):GS K [0] W f { nx:=λ_ F=>Q .non F,rt:=Q } (L2.start N vs) H:=by
 obtain⟨hl,y,G,l0,L,g,l',rfl,J,A,C,t,e,q⟩:=h;unfold Fl at e;split at e
 case isFalse=>cases e
 obtain⟨B,S,m⟩:=Zd e;have d:Iss K H (l0::L) (y::G) (g++[]):=Iss.cons J t;have k:=d.len;generalize o:l0::L=ls at *
 have u:∀i:Nat,ls.length<=i->∀l,(ZQ N.length ls)[i]?≠aA (aA l):=λi d l z=>by
  unfold ZQ at z;rw[bQ (by simpa using d),bZ] at z;split at z<;>cases z
 have D:Rel K [0] (Wq H (·∈g)) (λi=>if i=0 then g else []) (ZQ N.length ls) (L2.start N (y::G)) H:=by
  refine⟨RO,?_,λi a z=>?_,λi I=>?_,λi d=>?_,λi d p s=>?_,λi d j P p s=>?_⟩
  ·have Z:G.length+1=ls.length:=k;unfold ZQ L2.start;simp;omega
  ·by_cases c:i<ls.length
   ·unfold ZQ at z;rw[ay (by simpa using c),aR] at z
    cases q:ls[i]? with
    | none=>rw[q] at z;cases z
    | some b=>
     rw[q] at z;cases z
     cases i with
     | zero=>
      rw[<-o] at q;simp at q;subst q;exact⟨y,by unfold L2.start;simp,by simpa using J⟩
     | succ i=>
      rw[<-o] at q;obtain⟨v,f1,O,M,R⟩:=t.get (i:=i) (a:=a) (by simpa using q);have:f1=[]:=by cases f1 with | nil=>rfl | cons x r=>exact absurd (R x a0) (by simp)
      subst this;refine⟨v,?_,by simpa using M⟩;unfold L2.start;rw[ay (by rw[aS,k];exact c),aR];simp[O]
   ·exact absurd z (u i (by omega) a)
  ·by_cases c:i<ls.length
   ·exact absurd (by unfold ZQ;rw[ay (by simpa using c),aR,aM c];rfl) (I ls[i])
   ·have:i≠0:=by rw[<-o] at c;simp at c;omega
    simp[this]
  ·simp at d;subst d;simpa using A
  ·simp at d;subst d;have s:p∈g:=by simpa using s
   exact⟨by unfold Wq;rw[ju s],C p s⟩
  ·simp at d;subst d;simp[P]
 cases B with
 | nx s'=>
  have m:(match s'[0]? with | some (aA l)=>aA l | _=>none)=aA l':=m;split at m
  case h_2=>cases m
  rename_i l Y;cases m;refine⟨_,_,_,s',D,S,λU X F w T=>?_⟩;obtain⟨v,a,b⟩:=w.is 0 _ Y;rw[T] at a;have:v=y:=by unfold L2.start at a;simp at a;exact a.symm
  subst this;exact q F (U 0) w.same b (w.nd 0 (by simp)) λp s=>w.own 0 (by simp) p s
 | rt v=>cases m
 | bk s'=>cases m
 | ct s'=>cases m
section
variable {P:bH} {w:bu} {mg:ah->Option aF} {base:bP}
theorem J4{x:ah}{st:bb}{N d:List ah}{k n:Nat}{W:List Nat}(m:Nat)(f:XS)(D:Def K mg x st)(S:Zn N d (Zf st))
  (g:∀(kV doc pm:aF)(an:Option aG)(b ct:aF)(us:List aF),us.length=d.length->gW (cN x x (YN st) (Z9 st) (Zf st) .none kV doc pm an b ct) ⟨us,[]⟩=pure (d.zip us))
  (l:d.length=n) (j:N.length=m)
  (c:∀(e:aG)(b:aF)(A:bc)(a:List jG)(s:aL)(H:Hp)(E:XK),Room k (A.deeper (fB x (Zf st) s.heap.objs.size e b))->J3 (TV OJ P w K mg base N x (Zf st) e b A a s H E).nox [0] W (Z9 st) f) :
  XZ P w K mg base x d (Fj K (Fl m f) n) (k+1):=by
 subst j;refine D.cal S g (λvs H Q E h=>by rw[l];exact h.1) λe b A a s H vs Q E i h=>⟨_,c e b A a s H E i,Kk h⟩
end
noncomputable def PU(i:Nat)(D:List PV->Option PV)(fs:List XE):XS:=λs=>match s[i]? with
 | some (aA l0)=>(Tg fs s).bind λls=>if Zw ls=aC then(D (l0::ls)).map λl'=>.nx (s.set i (aA l')) else none
 | _=>none
theorem Kl{X:Cx}{O:List Nat}{i:Nat}{st:bb}{D:List PV->Option PV}{n:Nat}{fs:List XE}(h:PS X st (NC (LB (Fj X.K D n) [] E0 (Pe (Qe i) (Ex X.K fs)))))(hn:fs.length+1=n:=by rfl)(t:i∈O:=by decide):VS X O [i] st (PU i D fs):=PS.imp h λD' Z H ⟨H0,fps,s,Y,r,e,k⟩=>by
 unfold PU at e;split at e
 case h_2=>cases e
 rename_i l0 P;obtain⟨ls,N,e⟩:=Zd e;split at e
 case isFalse=>cases e
 rename_i I;obtain⟨l',C,rfl⟩:=map_some e;obtain⟨E,S,iv⟩:=r.is i _ P;refine⟨E,S,λ_=>False,s,ls,λ_ z=>z.elim,r.env,N,λvs x fp s1 J _=>?_⟩;have:=Iss.pure _ _ _ I J;subst this;show Fj X.K D n ((E::vs)++[]) x _ E0;rw[dA];have g:=r.grow s1;refine⟨by rw[b9,J.len,WV N];exact hn,E,vs,l0,ls,fps i,l',rfl,iv.mono s1,r.nd i t,λp B=>(g.own i t p B).2,J,C,λL A W iq G Q=>?_⟩;have v:i<s.length:=UA P;have c:∀b o,b∉fps i->x b=aA o->L b=aA o:=λb o l ho=>W b o (by unfold Wq;rw[jv l];exact ho);have tk:JH x L:=⟨λb R l=>c b _ (λz=>by have:=(g.own i t b z).2;rw[l] at this;exact this) l,λb o R l=>c b _ (λz=>by have:=(g.own i t b z).2;rw[l] at this;exact this) l,λb o R l=>c b _ (λz=>by have:=(g.own i t b z).2;rw[l] at this;exact this) l⟩
 have y:∀p∈A,p∈fps i\/x p=none:=λp B=>by
  have:=(Q p B).1;unfold Wq at this;split at this
  ·exact .inl (by assumption)
  ·exact .inr this
 have fr:∀j,j≠i->∀p∈A,p∉fps j:=λj d p B z=>by
  rcases y p B with h | h
  ·exact g.dis i t j d p h z
  ·exact g.dom j p z h
 have m:VU fps s.length i A i=A:=QA v;refine k (VU fps s.length i A) Z L ⟨λb u l=>c b u (λz=>by rw[(g.own i t b z).1] at l;cases l) (g.same b u l),by rw[bq];exact r.len,λj a e=>?_,λj h=>?_,λj d=>?_,λj d q f=>?_,λj d k' M q f=>?_⟩ NZ
 ·rw[aj] at e;by_cases d:i=j
  ·subst d;rw[ju rfl,ju v] at e;cases e;rw[m];exact⟨E,S,iq⟩
  ·rw[jv d] at e;obtain⟨w,U,h2⟩:=g.is j a e;rw[ZI (ao d)];refine⟨w,U,Is.tr tk _ _ _ (λq f=>RdK.of λu hu=>?_) h2⟩;exact c q u (λz=>g.dis i t j (ao d) q z f) hu
 ·by_cases d:i=j
  ·subst d;exact absurd (by rw[aj,ju rfl,ju v]) (h l')
  ·rw[ZI (ao d)];exact r.emp j λa z=>h a (by rw[aj,jv d];exact z)
 ·by_cases e:j=i
  ·subst e;rw[m];exact G
  ·rw[ZI e];exact r.nd j d
 ·by_cases e:j=i
  ·subst e;rw[m] at f;refine⟨?_,(Q q f).2⟩;rcases y q f with h | h
   ·exact(g.own j d q h).1
   ·exact Same.off g.same h
  ·rw[ZI e] at f;refine⟨(r.own j d q f).1,?_⟩;have T:=(g.own j d q f).2;have F:q∉fps i:=λz=>g.dis j d i (ao e) q f z
   cases hh:x q with
   | none=>exact absurd hh (g.dom j q f)
   | some o=>rw[c q o F hh,<-hh];exact T
 ·by_cases e:j=i
  ·subst e;rw[m] at f;rw[ZI M];exact fr k' M q f
  ·rw[ZI e] at f;by_cases C:k'=i
   ·subst C;rw[m];exact λz=>fr j e q z f
   ·rw[ZI C];exact r.dis j d k' M q f
end VL
namespace VL
open PySem PySem.Spec PyProof.Rows L2
variable {K:aD}
noncomputable def CMulW(i j:Int):Prop:=i.natAbs.log2<67108863/\j.natAbs.log2<67108863
noncomputable def R4(i j:Int):Prop:=j≠0/\j.natAbs.log2<9000
instance (i j:Int):Decidable (CMulW i j):=by unfold CMulW;infer_instance
instance (i j:Int):Decidable (R4 i j):=by unfold R4;infer_instance
theorem N6(i:Int):dz i<=i.natAbs.log2+1:=by
 unfold dz;split
 ·exact cB _
 ·exact aH _
theorem CMulW.ok{i j:Int}(h:CMulW i j):IntMulOk i j:=by
 unfold IntMulOk iO.Int.intTooBig;have b:=N6 i;have a:=N6 j;have d:=h.1;have c:=h.2
 have:decide (((dz i:Int)+(dz j:Int))>(bitsLine:Int))=aB:=decide_eq_false (by
  have e:(bitsLine:Int)=134217728:=rfl;rw[e];omega)
 rw[this];simp
section
variable {X:Cx} {a b:au} {fa fb:XE} {pos:dk}
theorem J5:U2 X (dC .Mult) (rI CMulW λi j=>.int (i*j)):=HN λ_ _ _ _ _ _ _ a q=>mul_int q a.ok
theorem Km:U2 X (dC .FloorDiv) (rI R4 λi j=>.int (i.fdiv j)):=HN λ_ _ _ _ _ _ _ a q=>ik a.1 q (.inl (PyProof.noPylong_of_log2 a.2))
abbrev PX:=MJ CMulW (· * ·)
abbrev Ha:=MJ R4 j7
theorem TB(d:VE X a fa)(c:VE X b fb):VE X (.BinOp a .Mult b pos) (Zj PX fa fb):=Ww J5 (U4 _ _) d c
theorem Kn(d:VE X a fa)(c:VE X b fb):VE X (.BinOp a .FloorDiv b pos) (Zj Ha fa fb):=Ww Km (U4 _ _) d c
end
theorem Sv:∀{ns:List Int}{n:Int},n∈ns->n.natAbs.log2<=gZ (ns.map .int)
 | m::r,n,h=>by
  rw[eG];simp only[gZ,PySem.W.WData.weight];rcases aa.mp h with rfl | h
  ·by_cases a:n=0
   ·subst a;have:Nat.log2 (Int.natAbs 0)=0:=by decide +kernel
    omega
   ·rw[jv (by simpa using a)];omega
  ·have:=Sv h;omega
open PySem.W PySem.Calls in
theorem law_walkB{l:PySem.W.OpenLaw}{q:bH}{i:List ah}{XP:(ah->Option aF)->bP->Prop}{W:bu->bP->Prop}{d:DefRec}{KK:Params->aD}{x:ah}{D:List PV->Option PV}(k:Nat)(hn:l.most=aA 63)(N:d.params.defaults=[])
  (hr:Room k jA) (v:∀(w:bu)(q:ah)(c:aG),Mr q=aC->cJ (KK w.params) (.ref c) q=aC->False) (hD:∀b:List Int,b.length<=63->(∀n∈b,n.natAbs.log2<=1048576)->D [.cst (iL b)]=aA (.bl aC))
  (hY:∀(w:bu)(h:bP),W w h->(KK w.params).In h)
  (F:∀(w:bu)(m:ah->Option aF)(G:aG)(h:bP),(KK w.params).In h->h.Ns cE m->m d.name=aA (.ref G)->
   ∃L:dJ,(∀(s:aL)(u:aF),ir s L ⟨[u],[]⟩ [(x,u)])/\∀base:bP,(KK w.params).In base->base.Ns cE m->Ta l.prog w (KK w.params) m base OJ k G L [x] (Xq (KK w.params) D 1)) (A:PyProof.Rows.importsNone q=aC:=by decide +kernel) :
  PySem.W.WalkO q i XP W l.row.toRowW d [] (λf vs=>PySem.call f vs):=by
 intro w S U m mb p yy G o pm cd doc dv kv ho hd hcd E O B Q T as t y hrd I hlo;obtain rfl:dv = .none:=Dflts.none E N;obtain rfl:kv = .none:=Dflts.noKw E;obtain⟨a,vs,b,rfl,rfl,C,j,g⟩:=Att.script_of hn t I
 have Y:∀n∈b,n.natAbs.log2<=1048576:=λn h=>by
  have R:(WData.list (b.map jK)).layable=aC:=ak.mp y _ (av.mpr rfl);unfold WData.layable at R;have M:=of_decide_eq_true (Bool.and_eq_true_iff.mp R).2;have J:WData.weightAll (b.map jK)<=1048576:=by simpa [WData.weight] using M
  exact aQ (Sv h) J
 have P:=hY w _ yy;obtain⟨L,Z,hF⟩:=F w m G _ P p.T.g O;refine enter_call (iu (L2.law_call (v w) P p.T.g p.T.b p.T.builtins p.T.nolimit (p.T.seer A) B C j (aQ g (by decide)) hr hF Z (λH hO hS=>GJ (hD b g Y) hO hS) λH e X z=>z) λr X hq=>?_);obtain⟨rfl,M,J,h4⟩:=hq;exact⟨.inl ⟨.bool aC,.bool aC,[],rfl,λ_=>rfl,.bool aC,Att.post_true l _,λ_=>⟨List.Pairwise.nil,λ_ hm=>(nomatch hm)⟩⟩,M,J,h4⟩
end VL
namespace PW
open PySem L2 VL
noncomputable def V5:XS:=(Zq (Q6 (xB (Zj JN (Za 1) (Zc Yo [Za 0]))) (ZY (eP (Zj ZT (Za 0) (Za 1)))) YZ)
  (ZY (eP (Zj Vl (Zj Qo (Zj Yd (Zj Yd (Zj Qo (Za 1) (Za 1)) (Zj Qo (eC (.int 3)) (Za 1))) (eC (.int 1))) (eC (.int 5003))) (eC (.int 1999))))))
noncomputable def Z5:List PV->Option PV:=Xg 2 V5
noncomputable def Sw:XS:=(Zq (Zx 3 (eP (Zj OL (Za 0) (eC (.int 2)))))
  (Zq (Q6 (Pq (xB (Zj (WX aB) (Zj Vl (Za 0) (eC (.int 2))) (eC (.int 1)))) (xB (Zj MK (Za 0) (Zj JM (eC (.int 10)) (eC (.int 9)))))) (Zq (YB [] (ZR [Za 1]) (.one 4) (Zx 3 (eP (Zj OL (Za 3) (eC (.int 1000))))))
  (ZY (eP (Zj Vl (Za 3) (Za 2))))) YZ)
  (Zq (Zx 3 (eP (Zj Yd (Zj Vl (Za 3) (eC (.int 999979))) (Zj Qo (eC (.int 1009)) (Za 1)))))
  (Zq (Zx 3 (eP (Zj Vl (Zj Yd (Zj Qo (Za 3) (Za 3)) (Zj Qo (eC (.int 40503)) (Za 3))) (eC (.int 999983)))))
  (ZY (eP (Zj Vl (Zj OL (Zj Vl (Zj Yd (Zj Qo (Za 3) (Za 3)) (Zj Qo (eC (.int 7)) (Za 1))) (eC (.int 999961))) (eC (.int 11))) (Za 2))))))))
noncomputable def Zu:List PV->Option PV:=Xg 5 Sw
noncomputable def TC:XS:=(Zq (Zx 4 (eP (Zc Py [eC (.int 9),Zj Yd (Zj ZT (Zj ZT (Za 0) (Za 1)) (Za 2)) (Za 3)])))
  (Zq (Wb 0 (Za 1) (Za 2) (Za 4))
  (Wb 0 (Za 2) (Za 1) (Za 4))))
noncomputable def Wd:List PV->Option PV:=Fl 5 TC
noncomputable def QE:XS:=(Zq (Zx 2 (Zc Z5 [Za 0,eC (.int 0)]))
  (Zq (Zx 3 (eP (Zj Yd (eC (.int 1)) (Zc Zu [Za 2,eC (.int 0),Za 1]))))
  (Zq (Zx 4 (Zt 1 [3] (ZR [Za 3]) (.one 0) ZF (Zj PK (VH [eC (.int 0)]) (Za 1))))
  (Zq (Zx 5 (VH []))
  (Zq (YB [4,5] (ZR [Za 3]) (.one 6) (VZ 5 (Zc Zu [Zc Z5 [Za 0,Zj Yd (eC (.int 6)) (Za 6)],eC (.int 10),Zj Yd (Za 6) (eC (.int 1))]) (Za 6)))
  (Zq (YB [4,5] (Yz [eC (.int 1),Za 3]) (.one 6) (Zq (Zx 7 (Zc Z5 [Za 0,Za 6]))
  (PU 4 Wd [Zj ZT (Za 5) (Za 6),Zj ZT (Za 5) (Zc Zu [Za 7,eC (.int 1),Za 6]),Zj Yd (eC (.int 1)) (Zc Zu [Za 7,eC (.int 2),eC (.int 3)])])))
  (Zq (Q6 (xB (Zj MK (Za 3) (eC (.int 1)))) (YB [4,5] (ZR [Zc Zu [Za 2,eC (.int 3),eC (.int 6)]]) (.one 6) (Zq (Zx 7 (Zc Z5 [Za 0,Zj Yd (eC (.int 7)) (Za 6)]))
  (Zq (Zx 8 (Zc Zu [Za 7,eC (.int 4),Za 3]))
  (Zq (Zx 9 (eP (Zj Vl (Zj Yd (Zj Yd (Za 8) (eC (.int 1))) (Zc Zu [Za 7,eC (.int 5),Zj Wx (Za 3) (eC (.int 1))])) (Za 3))))
  (PU 4 Wd [Za 8,Za 9,Zj Yd (eC (.int 1)) (Zc Zu [Za 7,eC (.int 6),eC (.int 2)])]))))) YZ)
  (ZY (eP (Zc ZH [Zt 1 [] (VQ (Za 4)) (.one 0) ZF (Zc ZH [Za 0])]))))))))))
noncomputable def QF:List PV->Option PV:=Xg 10 QE
noncomputable def Ko:XS:=(ZY (eP (Zc ZH [Zt 1 [1,0] (VQ (Za 2)) (.one 0) ZF (Gv (xB (Zj (WX aB) (Za 0) (Za 1))) (Zc W5 [Za 2,Za 1]) (Gx JS (Zj ZT (Zj ZT (Za 2) (Za 1)) (Za 0))))])))
noncomputable def Sx:List PV->Option PV:=Xg 3 Ko
noncomputable def UD:XS:=(Zq (Zx 2 (Zt 1 [1] (ZR [Zc Yo [Za 0]]) (.one 0) (xB (Zj (WX aC) (Za 0) (Za 1))) (eP (Za 0))))
  (ZY (eP (Zc ZH [Zt 1 [0,2] (VQ (Za 2)) (.one 0) ZF (Zc Sx [Za 1,Za 0,Za 2])]))))
noncomputable def YI:List PV->Option PV:=Xg 3 UD
noncomputable def J6:XS:=(ZY (eP (Tf (Zc Wn [Za 0,eC (.ty "tuple")]) (Tf (Zj (WX aB) (Zc Yo [Za 0]) (Za 1)) (Zc Rg [Zt 1 [] (Ti (Za 0)) (.one 0) ZF (Zc Xd [Za 0])])))))
noncomputable def TF:List PV->Option PV:=Xg 2 J6
end PW
namespace L2
open PySem PySem.Spec PyProof.Rows
abbrev WJ:=aG->c9->List (List S6×V)->It
end L2
namespace VL
open PySem PySem.W PyProof.Rows L2
noncomputable def pV(p:Int×Int):List V:=[.int p.1,.int p.2]
end VL
namespace VL
open PySem PySem.Spec PyProof.Rows L2
variable {K:aD}
instance (x:ah) (n:Int):Decidable (MulOk x n):=by unfold MulOk;infer_instance
end VL
set_option maxHeartbeats 3200000
namespace VX
open PySem PySem.Spec PyProof.Rows L2 VL
abbrev XR:=ZA->Option ah
noncomputable def DX(K:aD)(O:List Nat)(fx:XR)(E:XK):TS:=λ_ σ H=>∃H0 fps s n,Rel K O H0 fps s σ H/\fx s=aA n/\∀C H',gk K cE n=aA (aA (.ref C))->Same H0 H'->E (.ref C) none H'
noncomputable def VX(X:Cx)(O:List Nat)(E:XK)(st:bb)(fx:XR):Prop:=PS X st (DX X.K O fx E)
abbrev XF:=ZA->Option (ah×PV)
end VX
namespace VL
open PySem PySem.Spec PyProof.Rows L2
theorem Inv.freezeL{X:Cx}{j:List (aG×c9)}{l:Te}{H:Hp}{s:aL}{d:aG}{f:List V}{o:c9}(I:L2.Inv X j l H s)(h:H d=aA (.lst f))(p:s.heap.get? d=aA o) :
  L2.Inv X j l (upd H d (.frz o (.lst f))) s:=by
 have ne:∀b u,H b=aA u->(∀k,u≠.lst k)->b≠d:=λb u q n z=>by rw[z,h] at q;exact n _ (aq q).symm
 have m:∀b,H b=none->b≠d:=λb q z=>by rw[z,h] at q;cases q
 have un:Un X.fs [] H (upd H d (.frz o (.lst f))) s.heap s.heap:=
  ⟨λb o q _ _ _=>q,λb o q _ _ _=>⟨o.slots,q⟩,λb o q n _=>by rw[upd_ne (m b n)];exact n,λb o q _=>⟨o,q⟩,
   λb f q=>by rw[upd_ne (ne b _ q λ_ z=>nomatch z)];exact q,λb o u q=>by rw[upd_ne (ne b _ q λ_ z=>nomatch z)];exact q,λb r q=>⟨#[],by rw[upd_ne (ne b _ q λ_ z=>nomatch z),q];simp⟩⟩
 have g:HOk X.prog X.w (upd H d (.frz o (.lst f))) s.heap:=λb u q=>by
  have e:∀c y,H c=aA (.own y)->upd H d (.frz o (.lst f)) c=aA (.own y):=λc y z=>by rw[upd_ne (ne c _ z λ_ z=>nomatch z)];exact z
  have a:∀c xs',H c=aA (.tup xs')->upd H d (.frz o (.lst f)) c=aA (.tup xs'):=λc y z=>by rw[upd_ne (ne c _ z λ_ z=>nomatch z)];exact z
  by_cases i:b=d
  ·subst i;rw[Zp] at q;cases q;exact⟨p,(I.hok b _ h).stay (λ_ _ _ z=>z) (λc z=>e c _ z) a λc u z=>by rw[upd_ne (ne c _ z λ_ z=>nomatch z)];exact z⟩
  ·rw[upd_ne i] at q;exact(I.hok b u q).stay (λ_ _ _ z=>z) (λc z=>e c _ z) a λc u z=>by rw[upd_ne (ne c _ z λ_ z=>nomatch z)];exact z
 have:=I.un (t':=s.toks) un g;exact this
noncomputable def Rk(f:XE):XE:=λs=>(f s).bind λl=>match l with
 | .lst m=>(XB m).map λns=>.cst (iL ns)
 | _=>none
theorem UE{X:Cx}{e:au}{f:XE}(h:VM X e f):VE X e (Rk f):=by
 intro x s E H Q I ⟨N,st,l,S,env,G,k⟩;obtain⟨m,C,i⟩:=Zd (G)
 cases m with
 | lst ms=>
  obtain⟨g,D,B⟩:=map_some (i);subst B;have A:=Xr D;subst A;refine Ym (h x s E H (λv c=>∃p,v = .ref p/\c p=aA (.lst (g.map V.int))/\Same H c/\H p=none) I ⟨st,.lst (iL g),env.free,C,λv T W d is M J=>?_⟩) λu s1 ⟨v,c,j,t,p,L,a,d,y⟩=>?_
  ·obtain⟨p,U,P,rfl,a,F,rfl⟩:=is.lst_inv;obtain⟨rfl,rfl⟩:=F.iL;exact⟨p,rfl,a,d,(J p (by simp)).1⟩
  ·subst L;obtain⟨z,O,n,r,R,e⟩:=j.lstM a;refine⟨.ref p,_,Inv.freezeL j a e,t,k _ _ [] (λb o q=>?_) ?_ (by simp)⟩
   ·rw[upd_ne (λw=>by rw[w,y] at q;cases q)];exact d b o q
   ·unfold Is;exact⟨p,_,rfl,.inl ⟨_,Zp⟩,Iss.ofInts _⟩
 | _=>cases i
end VL
namespace L2
open PySem PySem.Spec PyProof.Rows
abbrev QG(x:ah):ah->Bool:=λy=>y==x
structure CellF(N:List ah)(around scope:cq)(x:ah)(fr:List ah)(ix:List Nat):Prop where
 kind:scope.kind = .function
 cf:∀n acc,fT n scope.names acc=(x,n)::acc
 pc:∀h,jM h scope.names=h.push { cls:=.type "cell",data:=.cell none }
 cells:∀y∈scope.names,y.2 = .cell->y.1=x
 names:∀y∈scope.names,y.2 = .local->scope.names.lookup y.1=aA .local
 frees:∀y∈scope.names,y.2 = .free->(around.names.lookup y.1=aA .cell\/around.names.lookup y.1=aA .free)
 slots:fr.map aA=ix.map (λi=>N[i]?)
 outs:∀z∈fr,(z,bC)∈scope.names
 apart:∀z∈fr,scope.names.lookup z=aA .free
 ne:∀z∈fr,z≠x
theorem CellF.clos{X:Cx}{f:List (aG×c9)}{d:St}{H:Hp}{s:aL}{a:cq}{x:ah}{fr:List ah}{ix:List Nat}(S:CellF X.N X.env.scope a x fr ix)(I:Inv X f d H s):∀y∈a.names,y.2 = .free->(X.env.cells.lookup y.1).isSome=aC:=λy b g=>by obtain⟨c,e⟩:=I.ok.has y.1 (S.frees y b g);rw[e];rfl
theorem MT{M:Model}{A:bc}{E:aF->aL->Prop}{s:aL}{N:List ah}{d b:cq}{a:aG}{f:ah}{c:jG}{x:ah}{fr:List ah}{ix:List Nat}{cl:List (ah×aG)}{Q:jG->aL->Prop}(S:CellF N d b x fr ix)
  (i:Q (newEnv b s.heap.objs.size a ((x,s.heap.objs.size+1)::cl) f none .none (aA c) iU) { s with heap:=(s.heap.push { cls:=.type "dict",data:=.dict #[] }).push { cls:=.type "cell",data:=.cell none } }) :
  az M A (fZ b a cl [] f none .none (aA c)) Q E s:=by
 simp only[fZ,Option.isSome_some,if_true];refine aI (wpAny_alloc ?_);refine aI (wpAny_layCells _ (λh g cells=>by cases hkc:g==bY<;>simp[hkc]) _ _ _ _ ?_);refine aI (ag (ag ?_));have e:(s.heap.push { cls:=.type "dict",data:=.dict #[] }).objs.size=s.heap.objs.size+1:=bg ..;rw[S.pc];simp only[S.cf,e];exact i
theorem Yh{x y:ah}{a c:aG}{cl:List (ah×aG)}(h:((x,a)::cl).lookup y=aA c):(y=x/\c=a)\/(y≠x/\cl.lookup y=aA c):=by
 rw[bF] at h
 cases q:y==x with
 | true=>rw[q] at h;exact .inl ⟨by simpa using q,by simpa using h.symm⟩
 | false=>rw[q] at h;exact .inr ⟨by simpa using q,h⟩
section
variable {X:Cx} {tg js iter:au} {jr:List au} {scope:cq} {pos:dk} {x:ah} {fr:List ah} {ix:List Nat} {wi:TI} {g:TG} {tt:TT} {te:TE}
abbrev Dh(X:Cx)(scope:cq)(x:ah)(C:aG):List (ah×aG):=(x,C+1)::YW X.env.cells scope.names []
theorem O6{jn:List (aG×c9)}{F:St}{J:Hp}{s2:aL}{L:List aG}{h₁:bP}{tk:Nat}{C:aG}(S:CellF X.N X.env.scope scope x fr ix)(a:Inv X jn F J s2)(f2:∀b∈L,X2 X jn J b)(I:∀b∈L,b<s2.heap.objs.size)
  (D:s2.heap.objs.size<=C) (U:h₁.Ns C λ_=>none) (Z:h₁.IsCell (C+1) none) (t:∀b o,s2.heap.get? b=aA o->h₁.get? b=aA o) :
  Inv (T2 (QG x) X (x::fr) scope (Dh X scope x C) C s2 J L) [] (ZL 1 ix F) J { s2 with heap:=h₁,toks:=tk }:=by
 have Q:=a.stkSub;have cs:=S.clos a;have sub:∀y c,(YW X.env.cells scope.names []).lookup y=aA c->X.env.cells.lookup y=aA c:=λy c e=>XU scope.names [] cs (λh=>by simp at h) e;have lt:∀y c,(YW X.env.cells scope.names []).lookup y=aA c->c<s2.heap.objs.size:=λy c e=>by obtain⟨v,q⟩:=a.cell y c (sub y c e);exact q.lt
 have P:(T2 (QG x) X (x::fr) scope (Dh X scope x C) C s2 J L).Ok:=by
  refine⟨a.ok.mod,S.kind,a.ok.glob,a.ok.blt,D,λy z c A f=>?_,λy N=>?_,λy c R e=>?_,a.ok.hd,a.ok.frames,.inl rfl,λb w=>⟨?_,λy c e=>?_⟩,a.bs,?_,λb o e w=>?_,λb w z=>?_,a.stack,a.stkFree,a.ok.tab.un a.base,λ_ z=>absurd rfl z⟩
  ·rcases Yh A with⟨g,d⟩ | ⟨g,d⟩<;>rcases Yh f with⟨b1,M⟩ | ⟨b1,M⟩
   ·rw[g,b1]
   ·have h:=lt z c M;rw[d] at h;exact absurd (aZ h D) (f9.mpr (iD C))
   ·have h:=lt y c d;rw[M] at h;exact absurd (aZ h D) (f9.mpr (iD C))
   ·exact a.ok.inj y z c (sub y c d) (sub z c M)
  ·have N:=N
   have:∃k',(relabel scope X.env).names.lookup y=aA k'/\(k' = .cell\/k' = .free):=by
    rcases N with h | h
    ·exact⟨_,h,.inl rfl⟩
    ·exact⟨_,h,.inr rfl⟩
   obtain⟨k',e,O⟩:=this;obtain⟨k,e0⟩:=Y8 e;have T:=Yi (env:=X.env) e0;have e:(scope.names.map λ(n,k)=>if(k==bC&&X.env.scope.kind==.function&&X.env.kindOf n==aA .cell) then(n,bY) else(n,k)).lookup y=aA k':=e;rw[T] at e;have m:=cQ e0;by_cases B:y=x
   ·subst B;exact⟨C+1,by show((y,C+1)::_:List (ah×aG)).lookup y=_;simp[bF]⟩
   cases k with
   | free=>
    obtain⟨c,hc⟩:=bW.mp (XW (cells:=X.env.cells) _ [] m);refine⟨c,?_⟩;show((x,C+1)::_:List (ah×aG)).lookup y=_;rw[bF,show(y==x)=aB by simpa using B];exact hc
   | cell=>exact absurd (S.cells _ m rfl) B
   | _=>simp at e;subst e;rcases O with z | z<;>cases z
  ·show s2.heap.objs.size<=c;have R:(y==x)=aC:=R;rcases Yh e with⟨g,d⟩ | ⟨g,d⟩
   ·rw[d];exact el D
   ·exact absurd (by simpa using R) g
  ·exact aw (aZ (I b w) D)
  ·rcases Yh e with⟨g,d⟩ | ⟨g,d⟩
   ·rw[d];exact dm (aZ (I b w) (el D))
   ·exact(f2 b w).2.2.2.2.1 y c (sub y c d)
  ·exact aQ a.ok.bsz a.sz
  ·rcases(f2 b w).2.2.2.1 with z | z
   ·exact a.ok.noex b o e z
   ·exact absurd (aZ (aP (a.ok.bs b o e).1) z) (bh _)
  ·rcases aa.mp (Q b z) with e | e
   ·exact(f2 b w).2.1 e
   ·exact(f2 b w).2.2.1 e
 have sl:fr.length=ix.length:=by simpa using congrArg fE S.slots
 refine⟨P,rfl,a.bare,Un.kept t,⟨_,U,λi y v A f s=>?_⟩,λy c e=>?_,a.hok.fresh D,λy c e=>?_,λp hp=>absurd (show p∈([]:List (aG×c9)) from hp) (by simp),a.hok.kept t,?_⟩
 ·have A:(x::fr)[i]?=aA y:=A;unfold ZL at f
  cases i with
  | zero=>simp at f
  | succ i=>
   have A:fr[i]?=aA y:=by simpa using A
   have f:(ix.map λi=>(F[i]?).join)[i]?=aA (aA v):=by simpa using f
   rw[aR] at f
   cases ej:ix[i]? with
   | none=>rw[ej] at f;cases f
   | some j=>
    rw[ej] at f;have f:(F[j]?).join=aA v:=by simpa using f
    have f:F[j]?=aA (aA v):=by
     cases q:F[j]? with
     | none=>rw[q] at f;cases f
     | some z=>rw[q] at f;exact congrArg aA f
    have hN:X.N[j]?=aA y:=by have q:=congrArg (λl=>l[i]?) S.slots;simp only[aR,A,ej] at q;exact(aq q).symm
    have E:=dD A;have hm:=S.outs y E;have hk:=S.frees _ hm rfl;obtain⟨m,hn,hl⟩:=a.loc;obtain⟨u,r,l⟩:=hl j y v hN f (by rcases hk with k | k;exact .inr (.inl k);exact .inr (.inr k));refine⟨u,r,?_⟩;rcases l with⟨k,_⟩ | ⟨_,c,hc,G⟩
    ·have k:X.env.scope.names.lookup y=aA .local:=k;rcases hk with q | q<;>rw[k] at q<;>cases q
    ·obtain⟨c',H⟩:=bW.mp (XW _ [] hm);have ec:=sub y c' H;rw[hc] at ec;cases ec;refine .inr ⟨?_,c,?_,?_⟩
     ·have s:=s;rcases s with s | s
      ·have T:=Yi (env:=X.env) (S.apart y E);have s:(scope.names.map λ(n,k)=>if(k==bC&&X.env.scope.kind==.function&&X.env.kindOf n==aA .cell) then(n,bY) else(n,k)).lookup y=aA .local:=s;rw[T] at s;exfalso;split at s<;>cases s
      ·exact s
     ·show((x,C+1)::_:List (ah×aG)).lookup y=_;rw[bF,show(y==x)=aB by simpa using S.ne y E];exact H
     ·obtain⟨o,Y,W⟩:=G;exact⟨o,t _ _ Y,W⟩
 ·rcases Yh e with⟨g,d⟩ | ⟨g,d⟩
  ·rw[d];exact⟨_,Z⟩
  ·obtain⟨v,o,Y,W⟩:=a.cell y c (sub y c d);exact⟨v,o,t _ _ Y,W⟩
 ·rcases Yh e with⟨g,d⟩ | ⟨g,d⟩
  ·rw[d];exact a.hok.fresh (by omega)
  ·exact a.freeC y c (sub y c d)
 ·show(ZL 1 ix F).length=(x::fr).length;unfold ZL;rw[bX,cS,aS,b9,sl];omega
theorem QH{M:List (aG×c9)}{O:St}{I:Hp}{s2:aL}{Y:List aG}{it:aG}{tn:Nat->bP->Prop}{J:It}{Fin:List V->Hp->Prop}{RR:aF->aG->ji->aL->Prop}{E:aF->aL->Prop}
  (l:X.calm=aC) (S:CellF X.N X.env.scope scope x fr ix)
  (hg:∀cl C s H ex,PG (T2 (QG x) X (x::fr) scope cl C s H ex) tg g) (ht:∀cl C s H ex,Oz (T2 (QG x) X (x::fr) scope cl C s H ex) jr tt) (he:∀cl C s H ex,PE (T2 (QG x) X (x::fr) scope cl C s H ex) js te)
  (P:Inv X M O I s2) (T:Qf X.prog X.w X.K tg J Y it tn) (w:tn 0 s2.heap) (f2:∀b∈Y,X2 X M I b)
  {W:Nat->Nat->List V->Hp->Prop} {m0:Nat} (w0:W 0 m0 [] I)
  (turn:∀i m ys H,W i m ys H->ys.length<=sizeLine/\
   ((J.stop i H/\Fin ys H)\/
    (J.go i H/\∃N:List V->Hp->Prop,(∀ys' H',N ys' H'->∃m',m'<m/\W (i+1) m' ys' H')/\
     ∀x H',J.yld i H x H'->g x (ZL 1 ix O) H' λk I=>k.drop 1=(ZL 1 ix O).drop 1/\tt k I λb Z=>if b=aC then te k Z λy H4=>N (ys++[y]) H4 else N ys Z)))
  (Q:∀(D C:aG)(oC:c9)(m:ah->Option aF)(s':aL)(H':Hp)(ys:List V),Inv X (M++[(C,oC)]) O (upd H' D (.lst ys)) s'->s'.heap.get? C=aA oC->s'.heap.Ns C m->X2 X M (upd H' D (.lst ys)) C->H' D=none->Fin ys H'->RR (.ref D) C (.ok .next) s') :
  az (model X.prog X.w) X.A (newList []) (λu r=>az (model X.prog X.w) X.A (fZ scope X.env.globals (YW X.env.cells scope.names []) [] X.env.qual none .none (aA X.env)) (λf G=>
   g9 (model X.prog X.w) X.A (.compStart (.ListComp js [⟨tg,iter,jr,0⟩] scope pos) 0 (.ref it) u { f with scope:=relabel scope X.env }) (RR u f.locals) G) E r) E s2:=by
 have F:∀b∈Y,b<s2.heap.objs.size:=λb L=>by obtain⟨o,e,_⟩:=T.obj 0 s2.heap w b L;exact aP e
 refine cY (MT S ?_)
 dsimp only
 generalize p:s2.heap.push { cls:=.type "list",dict:=none,data:=.seq ([]:List aF).toArray }=G2;have R:G2.objs.size=s2.heap.objs.size+1:=by rw[<-p,bg]
 have a:=(bP.Ns.new G2 (.type "dict")).push { cls:=.type "cell",data:=.cell none };generalize d:(G2.push { cls:=.type "dict",data:=.dict #[] }).push { cls:=.type "cell",data:=.cell none }=h₁ at a ⊢;have ext:∀b o,G2.get? b=aA o->h₁.get? b=aA o:=λb o e=>d▸aE _ (aE _ e);have B:h₁.IsCell (G2.objs.size+1) none:=by refine⟨{ cls:=.type "cell",data:=.cell none },?_,rfl⟩;rw[<-d,show G2.objs.size+1=(G2.push { cls:=.type "dict",data:=.dict #[] }).objs.size from(bg ..).symm];exact aY _ rfl
 generalize hCC:G2.objs.size=C at a R B ⊢;generalize n:s2.heap.objs.size=D at R ⊢;have hDC:D≠C:=by omega
 have j:∀b,b<s2.heap.objs.size->b≠C/\b≠D:=λb L=>by rw[n] at L;exact⟨aw (by omega),aw L⟩
 have A:∀b o,s2.heap.get? b=aA o->h₁.get? b=aA o:=λb o e=>ext b o (p▸aE _ e)
 have t:h₁.get? D=aA { cls:=.type "list",data:=.seq ([]:List aF).toArray 0 }:=by
  have e0:G2.get? D=aA { cls:=.type "list",data:=.seq ([]:List aF).toArray 0 }:=by rw[<-p,<-n];exact aY _ rfl
  exact ext _ _ e0
 have I0:=λtk=>O6 (tk:=tk) S P f2 F (C:=C) (by omega) a B A;refine RG (s2:=s2) (h₁:=h₁) (fv:=QG x) (N:=x::fr) (C:=C) (D:=D) (cl:=Dh X scope x C) (kk:=1) (ix:=ix) l (hg _ _ _ _ _) (ht _ _ _ _ _) (he _ _ _ _ _) P T w f2 w0 turn Q F R n A t I0 λy c e z=>?_;rcases Yh e with⟨a1,U⟩ | ⟨a1,U⟩
 ·have q:C+1=D:=U.symm.trans z;omega
 ·obtain⟨v,q⟩:=P.cell y c (XU scope.names [] (S.clos P) (λh=>by simp at h) U);exact(j c q.lt).2 z
theorem R5(c:X.calm=aC)(y:PI X tg iter wi)(S:CellF X.N X.env.scope scope x fr ix)
  (L:∀cl C s H ex,PG (T2 (QG x) X (x::fr) scope cl C s H ex) tg g) (t:∀cl C s H ex,Oz (T2 (QG x) X (x::fr) scope cl C s H ex) jr tt) (M:∀cl C s H ex,PE (T2 (QG x) X (x::fr) scope cl C s H ex) js te)
  (B:∀x,bI iter X.env x=pure x:=by intro _;rfl):PE X (.ListComp js [⟨tg,iter,jr,0⟩] scope pos) (TZ 1 ix wi g tt te):=by
 intro l s z H Q I h;refine eD rfl B (XA (S.clos I)) S.kind S.names (Ym (y l s z H _ I h) λv s1 q=>Ym q λp s2 F=>?_);obtain⟨U,Z,Y,J,H2,e,E,T,i,f2,W,⟨O,j⟩,turn⟩:=F;subst e;refine QH c S L t M E T i f2 j turn ?_;intro D C P m N G r u A n a w d;refine⟨m,n,λR f=>⟨.ref D,upd G D (.lst r),?_,rfl,d D w⟩⟩;exact(u.unpinned).turned (λb o k e=>f.extBut b o k e) a.1 a.2.1 a.2.2.2.1 a.2.2.2.2.1 a.2.2.2.2.2
noncomputable def QI(N:List ah)(around scope:cq)(x:ah)(fr:List ah)(ix:List Nat):Bool:=
 (match scope.kind with | .function=>aC | _=>aB)&&(scope.names.filter (λy=>y.2==.cell)==[(x,.cell)])&&scope.names.all (λy=>y.2 != .local || scope.names.lookup y.1==aA .local)&&
 scope.names.all (λy=>y.2 != .free || (around.names.lookup y.1==aA .cell || around.names.lookup y.1==aA .free))&&(fr.map aA==ix.map (λi=>N[i]?))&&
 fr.all (λz=>scope.names.contains (z,bC))&&fr.all (λz=>scope.names.lookup z==aA .free)&&fr.all (λz=>z != x)
theorem Hb{x:ah}:∀(names:List (ah×cu))(n:Nat)(a:List (ah×aG)),(names.filter (λy=>y.2==.cell)=[(x,.cell)]->fT n names a=(x,n)::a)/\(names.filter (λy=>y.2==.cell)=[]->fT n names a=a)
 | [],n,a=>⟨λh=>by simp at h,λ_=>rfl⟩
 | (y,k)::r,n,a=>by
  have b:=λn a=>Hb (x:=x) r n a;unfold fT
  cases q:k==bY with
  | true=>
   rw[ju rfl,fD,show((y,k).2==bY)=aC from q,ju rfl];refine⟨λh=>?_,λh=>by simp at h⟩;injection h with h1 h2;cases h1;exact(b _ _).2 h2
  | false=>
   rw[jv bK,fD,show((y,k).2==bY)=aB from q,jv bK];exact b n a
theorem Hd{x:ah}:∀(names:List (ah×cu))(h:bP),(names.filter (λy=>y.2==.cell)=[(x,.cell)]->jM h names=h.push { cls:=.type "cell",data:=.cell none })/\(names.filter (λy=>y.2==.cell)=[]->jM h names=h)
 | [],h=>⟨λh=>by simp at h,λ_=>rfl⟩
 | (y,k)::r,h=>by
  have a:=λh=>Hd (x:=x) r h;unfold jM
  cases q:k==bY with
  | true=>
   rw[ju rfl,fD,show((y,k).2==bY)=aC from q,ju rfl];refine⟨λh=>?_,λh=>by simp at h⟩;injection h with h1 h2;exact(a _).2 h2
  | false=>
   rw[jv bK,fD,show((y,k).2==bY)=aB from q,jv bK];exact a h
theorem R6{N:List ah}{b a:cq}{x:ah}{fr:List ah}{ix:List Nat}(h:QI N b a x fr ix=aC):CellF N b a x fr ix:=by
 unfold QI at h;simp only[bU] at h;obtain⟨⟨⟨⟨⟨⟨⟨i,f⟩,k⟩,j⟩,m⟩,o⟩,l⟩,p⟩:=h;have f:a.names.filter (λy=>y.2==.cell)=[(x,.cell)]:=by simpa using f
 refine⟨?_,λn g=>(Hb _ n g).1 f,λh=>(Hd _ h).1 f,λy c e=>?_,λy c e=>?_,λy c e=>?_,by simpa using m,λz d=>?_,λz d=>?_,λz d=>?_⟩
 ·split at i
  ·assumption
  ·cases i
 ·have:y∈a.names.filter (λy=>y.2==.cell):=fJ.mpr ⟨c,by rw[e];rfl⟩;rw[f] at this;rw[av.mp this]
 ·have:=ak.mp k y c;rw[e] at this;simpa using this
 ·have:=ak.mp j y c;rw[e] at this;simpa using this
 ·simpa using ak.mp o z d
 ·simpa using ak.mp l z d
 ·simpa using ak.mp p z d
end
end L2
namespace VL
open PySem PySem.Spec PyProof.Rows L2
section
variable {X:Cx} {tg js iter:au} {jr:List au} {scope:cq} {pos:dk} {fi:XL} {T:Tgt} {ft:XT} {fe:XE}
theorem R7(x:ah)(fr:List ah)(ix:List Nat)(b:X.calm=aC)(d:VI X tg iter fi)(S:QI X.N X.env.scope scope x fr ix=aC)
  (e:∀cl C s H a,PG (T2 (QG x) X (x::fr) scope cl C s H a) tg (gT X.K T)) (g:∀cl C s H a,GD (T2 (QG x) X (x::fr) scope cl C s H a) jr ft) (h:∀cl C s H a,VE (T2 (QG x) X (x::fr) scope cl C s H a) js fe)
  (f:∀i∈T.slots,i<1:=by decide) (c:∀x,bI iter X.env x=pure x:=by intro _;rfl):VE X (.ListComp js [⟨tg,iter,jr,0⟩] scope pos) (Zt 1 ix fi T ft fe):=
 PE.imp (R5 b d (R6 S) e (λcl C s H a=>(show Oz (T2 (QG x) X (x::fr) scope cl C s H a) jr (Q5 X.K ft) from g cl C s H a)) (λcl C s H a=>(show PE (T2 (QG x) X (x::fr) scope cl C s H a) js (tF X.K fe) from h cl C s H a)) c) (NW f)
theorem MU(x:ah)(fr:List ah)(ix:List Nat)(b:X.calm=aC)(d:VI X tg iter fi)(S:QI X.N X.env.scope scope x fr ix=aC)
  (e:∀cl C s H a,PG (T2 (QG x) X (x::fr) scope cl C s H a) tg (gT X.K T)) (g:∀cl C s H a,GD (T2 (QG x) X (x::fr) scope cl C s H a) jr ft) (h:∀cl C s H a,VM (T2 (QG x) X (x::fr) scope cl C s H a) js fe)
  (f:∀i∈T.slots,i<1:=by decide) (c:∀x,bI iter X.env x=pure x:=by intro _;rfl):VM X (.ListComp js [⟨tg,iter,jr,0⟩] scope pos) (Zt 1 ix fi T ft fe):=
 PE.imp (R5 b d (R6 S) e (λcl C s H a=>(show Oz (T2 (QG x) X (x::fr) scope cl C s H a) jr (Q5 X.K ft) from g cl C s H a)) (λcl C s H a=>(show PE (T2 (QG x) X (x::fr) scope cl C s H a) js (tM X.K fe) from h cl C s H a)) c) (Qz f)
end
end VL
namespace L2
open PySem PySem.Spec PyProof.Rows
theorem MV{X:Cx}(G:X.calm=aC):YT X (.builtin "any") (λn H Q=>∃(b:Bool) (p:aG) (ns:List Int),n=[.ref p]/\Tc b X.K H p (ns.map V.int)/\Q (.bl (ns.any λz=>z != 0)) H):=by
 intro N s T H n R Q I r h;obtain⟨b,p,bs,rfl,B,q⟩:=h;obtain⟨u,rfl,y⟩:=Vc r;cases y;obtain⟨j,l,a,S⟩:=I.seqB B;have E:p<s.heap.objs.size:=let⟨_,e⟩:=a.has;aP e;have k:=l.length;rw[aS] at k;refine call_any_walk (Z4 a ?_);refine⟨_,_,_,_,_,_,λi=>bs.getD i 0 != 0,rfl,Walks.seqB (A:=X.A.in1) b (I.ok.hd G) s.heap.objs.size p (aw E) j.toArray,⟨IterB.new (aY _ rfl),a.at λo e=>aE _ e⟩,λi v L O M g w=>?_,λP tk J=>?_⟩
 ·have g:j.toArray[i]?=aA v:=g;have g:j[i]?=aA v:=by simpa using g
  have d:i<bs.length:=by rw[k];exact(aW.mp g).1
  obtain⟨u,m,D⟩:=l.get (i:=i) (x:=.int bs[i]) (by rw[aR,aM d];rfl);rw[g] at m;cases m;obtain⟨t,rfl⟩:=D;refine PyProof.Rows.truthy_int ?_;have e:bs.getD i 0=bs[i]:=by rw[aN,aM d];rfl
  rw[<-e];exact w
 ·have e:(aJ j.toArray.size).any (λi=>bs.getD i 0 != 0)=bs.any λz=>z != 0:=by
   rw[aO,<-k,gv,du,du];constructor
   ·rintro⟨i,d,h⟩;have d:=aX.mp d;rw[aN,aM d] at h;exact⟨_,dN d,h⟩
   ·rintro⟨x,C,h⟩;obtain⟨i,d,rfl⟩:=fG.mp C;refine⟨i,aX.mpr d,?_⟩;rw[aN,aM d];exact h
  rw[e];refine⟨.bl (bs.any λz=>z != 0),H,I.kept (λc o f=>J c o ?_ (aE _ f)),rfl,q⟩;intro F;rw[av.mp F] at f;exact absurd (aP f) (bh _)
end L2
namespace VL
open PySem PySem.Spec PyProof.Rows L2
variable {K:aD}
noncomputable def Sy:List PV->Option PV
 | [l]=>(Th l).bind λm=>(XB m).map λns=>.bl (ns.any λz=>z != 0)
 | _=>none
theorem J7:RC K (λd H Q=>∃(b:Bool) (p:aG) (a:List Int),d=[.ref p]/\Tc b K H p (a.map V.int)/\Q (.bl (a.any λz=>z != 0)) H) Sy:=λH vs ls l t h e Q k=>by
 unfold Sy at e;split at e
 ·obtain⟨m,j,q⟩:=Zd e;obtain⟨a,n,rfl⟩:=map_some q;obtain⟨v,rfl,i⟩:=h.one_inv;obtain⟨p,d,r,rfl,c,o,s⟩:=WW (K:=K) i j;have g:=Xr n;subst g;obtain⟨rfl,rfl⟩:=o.iL;obtain⟨b,f⟩:=Qt c;exact⟨b,p,a,rfl,f,k _ H [] (Same.refl H) (Is.bl _) λp c=>by simp at c⟩
 ·cases e
abbrev He:=MJ (λ_ j=>j≠0) Int.fmod
theorem J8{X:Cx}{a b:au}{d fb:XE}{c:dk}(f:VE X a d)(e:VE X b fb):VE X (.BinOp a .Mod b c) (Zj He d fb):=Ww Jk (U4 _ _) f e
end VL
namespace VL
open PySem PySem.Spec PyProof.Rows L2
section
variable {X:Cx} {a b:au} {fa fb:XE} {pos:dk}
theorem Kp(g:X.prog.given.tree=none)(f:Room 35 X.A)(c:X.stack=X.env::X.outer)(a:X.env.scope.isGenerator=aB)(b:X.env.scope.isCoroutine=aB):U2 X (dC .FloorDiv) (rI (λ_ j=>j≠0) λi j=>.int (i.fdiv j)):=by
 intro l s m H x y v u Q I e d h;obtain⟨i,j,rfl,rfl,k,q⟩:=h;obtain⟨t,rfl⟩:=e;obtain⟨t',rfl⟩:=d;refine ik k ⟨.int (i.fdiv j),H,I.tok _,⟨_,rfl⟩,q⟩ (.inr (jm I.nolimit ?_ ?_))
 ·have:=f.dp;show X.A.depth+100<iB;omega
 ·exact PySem.SeerAt.of (I.ok.mod.seer.keeps I.bk) g (by rw[I.ok.frames,c]) a b I.ok.blt I.ok.glob
abbrev Kq:=MJ (λ_ j=>j≠0) j7
theorem Kr(g:X.prog.given.tree=none)(h:Room 35 X.A)(i:VE X a fa)(f:VE X b fb)(d:X.stack=X.env::X.outer:=by rfl)(c:X.env.scope.isGenerator=aB:=by rfl)(e:X.env.scope.isCoroutine=aB:=by rfl):VE X (.BinOp a .FloorDiv b pos) (Zj Kq fa fb):=Ww (Kp g h d c e) (U4 _ _) i f
end
end VL
namespace PW
open PySem L2 VL
noncomputable def PY:XS:=(ZY (Zc YI [Za 0,eC (.int 0)]))
noncomputable def WC:List PV->Option PV:=Xg 1 PY
noncomputable def O7:XS:=(ZY (Zt 1 [1] (ZR [Za 0]) (.one 0) ZF (eP (Gv (xB (Zj (WX aB) (Za 0) (Za 1))) (eC (.int 1)) (eC (.int 0))))))
noncomputable def We:List PV->Option PV:=Xg 2 O7
noncomputable def O8:XS:=(Zq (Zx 1 (eP (Zc Yo [Za 0])))
  (Zq (Zx 2 (Zt 2 [1] (NU aB [Za 0]) (.many [0,1]) ZF (eP (Rk (Zj Sh (Zc Ux [Za 1]) (Zc We [Za 2,Za 0]))))))
  (Zq (Zx 3 (Zt 1 [1] (ZR [Za 1]) (.one 0) ZF (eP (Rk (Zj Sh (Zc We [Za 1,Za 0]) (Zj PK (VH [eC (.int 0)]) (Za 1)))))))
  (ZY (Zj Sh (Za 2) (Za 3))))))
noncomputable def Vn:List PV->Option PV:=Xg 4 O8
noncomputable def Tj:XS:=(ZY (Zt 1 [2,0] (Yz [Zj Yd (Za 2) (eC (.int 1)),Za 1]) (.one 0) (xB (Zj (WX aC) (Zj ZT (Zj ZT (Za 2) (Za 0)) (Za 1)) (eC (.int 0)))) (eP (Za 0))))
noncomputable def Ys:List PV->Option PV:=Xg 3 Tj
noncomputable def GU:XS:=(ZY (Zt 2 [2] (OW aC aC [Za 0,Za 1]) (.many [0,1]) ZF (eP (Zj Wx (Za 0) (Zj PX (Za 2) (Za 1))))))
noncomputable def UG:List PV->Option PV:=Xg 3 GU
noncomputable def Wo:XS:=(Zq (Zx 3 (Zc Ux [Za 0]))
  (Zq (Zx 4 (Zc Ys [Za 3,Za 1,Za 2]))
  (Zq (XG (xB (Zj MK (Zc Yo [Za 4]) (eC (.int 0)))) (Zq (Zx 5 (eP (Zj ZT (Za 4) (eC (.int 0)))))
  (Zq (Q6 (K9 (xB (Zj (WX aB) (Zj ZT (Zj ZT (Za 3) (Za 2)) (Za 2)) (eC (.int 0)))) (xB (Zj JN (Zc OU [Zj ZT (Zj ZT (Za 3) (Za 5)) (Za 2)]) (Zc OU [Zj ZT (Zj ZT (Za 3) (Za 2)) (Za 2)])))) (Zq (Zx 6 (eP (Zj ZT (Za 3) (Za 2))))
  (Zq (YF 3 (Za 2) (Zj ZT (Za 3) (Za 5)))
  (YF 3 (Za 5) (Za 6)))) YZ)
  (Zq (YB [3] (VQ (Za 4)) (.one 7) (YF 3 (Za 7) (Rk (Zc UG [Zj ZT (Za 3) (Za 7),Zj ZT (Za 3) (Za 2),Zj Kq (Zj ZT (Zj ZT (Za 3) (Za 7)) (Za 2)) (Zj ZT (Zj ZT (Za 3) (Za 2)) (Za 2))]))))
  (Zx 4 (Zc Ys [Za 3,Za 1,Za 2]))))))
  (ZY (Za 3)))))
noncomputable def ZC:List PV->Option PV:=Xg 8 Wo
noncomputable def Rl:XS:=(ZY (Zt 1 [0] (ZR [Zc Yo [Za 0]]) (.one 0) ZF (eP (Rk (Zt 1 [0] (VQ (Za 1)) (.one 0) ZF (eP (Zj ZT (Za 0) (Za 1))))))))
noncomputable def Yb:List PV->Option PV:=Xg 1 Rl
noncomputable def XH:XS:=(Zq (Zx 3 (Zc ZC [Za 0,Za 1,Za 2]))
  (Zq (XG (xB (Zc Sy [PH VR (Zj ZT (Za 3) (Za 2)) (S7 (Zj Yd (Za 2) (eC (.int 1)))) (S7 (Za 1))])) (Zq (Zx 3 (Zc Yb [Zc ZC [Zc Yb [Za 3],Za 1,Za 2]]))
  (Zx 3 (Zc ZC [Za 3,Za 1,Za 2]))))
  (ZY (Za 3))))
noncomputable def Yr:List PV->Option PV:=Xg 4 XH
noncomputable def PZ:XS:=(Zq (Zx 3 (eP (Zj ZT (Zj ZT (Za 0) (Za 2)) (Za 2))))
  (Zq (YB [] (Yz [Zj Yd (Za 2) (eC (.int 1)),Za 1]) (.one 4) (Q6 (xB (Zc LV [Zt 1 [3] (VQ (PH VR (Zj ZT (Za 0) (Za 4)) L0 (S7 (Za 1)))) (.one 0) ZF (Zj (WX aC) (Zj He (Za 0) (Za 1)) (eC (.int 0)))])) (ZY (eP (Za 4))) YZ))
  (ZY (eP (eC .non)))))
noncomputable def Xv:List PV->Option PV:=Xg 5 PZ
noncomputable def V6:XS:=(Zq (Zx 3 (Zc Yr [Za 0,Za 1,Za 2]))
  (Zq (Zx 4 (Zc Xv [Za 3,Za 1,Za 2]))
  (Zq (XG (xB (LR aC (Za 4))) (Zq (YF 3 (Za 2) (Rk (Zc UG [Zj ZT (Za 3) (Za 2),Zj ZT (Za 3) (Za 4),eC (.int 1)])))
  (Zq (Zx 3 (Zc Yr [Za 3,Za 1,Za 2]))
  (Zx 4 (Zc Xv [Za 3,Za 1,Za 2])))))
  (Zq (Q6 (xB (Zj JN (Zj ZT (Zj ZT (Za 3) (Za 2)) (Za 2)) (eC (.int 0)))) (YF 3 (Za 2) (Rk (Zt 1 [] (VQ (Zj ZT (Za 3) (Za 2))) (.one 0) ZF (eP (Gx JS (Za 0)))))) YZ)
  (ZY (Za 3))))))
noncomputable def YD:List PV->Option PV:=Xg 5 V6
noncomputable def MW:XS:=(ZY (eP (Zc ZH [Zt 2 [] (OW aB aB [Za 0,Za 1]) (.many [0,1]) ZF (Zj Ha (Za 0) (Za 1))])))
noncomputable def W6:List PV->Option PV:=Xg 2 MW
noncomputable def Tn:XS:=(ZY (eP (Zc VJ [Zt 2 [2,1] (NU aB [Za 0]) (.many [0,1]) ZF (Zj PX (Za 1) (Zj ZT (Zj ZT (Za 3) (Za 0)) (Za 2)))])))
noncomputable def Y1:List PV->Option PV:=Xg 3 Tn
noncomputable def P0:XS:=(ZY (eP (Zc ZH [Zt 1 [0,1] (ZR [Zc Yo [Za 0]]) (.one 0) ZF (Zc Y1 [Za 1,Za 2,Za 0])])))
noncomputable def WD:List PV->Option PV:=Xg 2 P0
noncomputable def QJ:XS:=(ZY (eP (Zc ZH [Zt 1 [1] (Ti (Za 0)) (.one 0) ZF (Zc WD [Za 0,Za 1])])))
noncomputable def Yk:List PV->Option PV:=Xg 2 QJ
noncomputable def N7:XS:=(Zq (Zx 1 (Zc WC [Za 0]))
  (Zq (Zx 2 (eP (Zc Yo [Za 1])))
  (Zq (Zx 3 (Zc Vn [Za 1]))
  (Zq (YB [] (ZR [Za 2]) (.one 4) (Zx 3 (Zc YD [Za 3,Za 2,Za 4])))
  (Zq (Zx 5 (eP (Zc ZH [Zt 1 [3] (ZR [Za 2]) (.one 0) ZF (Zj ZT (Zj ZT (Za 1) (Za 0)) (Za 0))])))
  (Zq (Zx 6 (eP (Zc ZH [Zt 1 [2] (VQ (PH VR (Za 3) L0 (S7 (Za 2)))) (.one 0) ZF (Zc ZH [PH VR (Za 0) (S7 (Za 1)) L0])])))
  (Zq (Zx 7 (eP (Zc ZH [Zt 1 [2] (VQ (PH VR (Za 3) (S7 (Za 2)) L0)) (.one 0) ZF (Zc ZH [PH VR (Za 0) L0 (S7 (Za 1))])])))
  (Zq (Zx 8 (eP (Zc ZH [Zt 1 [5] (Ti (Zc Yk [Za 1,Za 7])) (.one 0) ZF (Zc W6 [Za 0,Za 1])])))
  (Zq (Zx 9 (eP (Zc ZH [Zt 2 [2] (OW aB aB [Zc Yk [Za 6,Za 1],Za 5]) (.many [0,1]) ZF (Zc W6 [Za 0,Zj PR (Pu [Za 1]) (Za 2)])])))
  (ZY (eP (Pu [Za 6,Za 8,Za 7,Za 9,Za 5]))))))))))))
noncomputable def TH:List PV->Option PV:=Xg 10 N7
noncomputable def O9:XS:=(ZY (eP (Tf (Zc Wn [Za 0,eC (.ty "tuple")]) (Tf (Zj (WX aB) (Zc Yo [Za 0]) (Za 1)) (Zc Rg [Zt 1 [1] (Ti (Za 0)) (.one 0) ZF (Zc TF [Za 0,Za 1])])))))
noncomputable def Vo:List PV->Option PV:=Xg 2 O9
noncomputable def Ks:XS:=(Zq (Q6 (K9 (OO (xB (Zc Wn [Za 0,eC (.ty "tuple")]))) (K9 (xB (Zj (WX aC) (Zc Yo [Za 0]) (eC (.int 5)))) (OO (xB (Zc TF [Zj ZT (Za 0) (eC (.int 4)),Za 1]))))) (ZY (eP (eC (.bl aB)))) YZ)
  (ZY (eP (Zc Rg [Zt 1 [1] (Ti (PH GF (Za 0) L0 (S7 (eC (.int 4))))) (.one 0) ZF (Zc Vo [Za 0,Za 1])]))))
noncomputable def Sz:List PV->Option PV:=Xg 2 Ks
noncomputable def MX:XS:=(Zq (Zx 2 (eP (Zc Yo [Za 0])))
  (Zq (Zx 3 (VH []))
  (Zq (YB [3,5] (ZR [Za 2]) (.one 4) (Zq (Zx 5 (VH []))
  (Zq (YB [3,5] (ZR [Za 2]) (.one 6) (Xu 5 (eP (Zc VJ [Zt 1 [6,0,4,1] (ZR [Za 2]) (.one 0) ZF (Zj PX (Zj ZT (Zj ZT (Za 2) (Za 3)) (Za 0)) (Zj ZT (Zj ZT (Za 4) (Za 0)) (Za 1)))]))))
  (Xu 3 (eP (Zc ZH [Za 5]))))))
  (ZY (eP (Zc ZH [Za 3]))))))
noncomputable def YJ:List PV->Option PV:=Xg 7 MX
noncomputable def Kt:XS:=(ZY (eP (Zc ZH [Zt 1 [0] (ZR [Za 0]) (.one 0) ZF (Zc ZH [Zt 1 [0] (ZR [Za 1]) (.one 0) ZF (Zc T8 [Zj (WX aB) (Za 1) (Za 0)])])])))
noncomputable def SA:List PV->Option PV:=Xg 1 Kt
noncomputable def Xi:XS:=(Zq (Zx 1 (VH []))
  (Zq (YB [1,3] (Yz [eC (.int 1),Zc Yo [Za 0]]) (.one 2) (Zq (Zx 3 (Zt 1 [0,2] (Yz [eC (.int 1),Zc Yo [Za 0]]) (.one 0) ZF (eP (Zj Wx (eC (.int 0)) (Zj ZT (Zj ZT (Za 1) (Za 2)) (Za 0))))))
  (Zq (YF 3 (Zj Wx (Za 2) (eC (.int 1))) (Zc VJ [Zj ZT (Za 0) (Za 2)]))
  (Xu 1 (eP (Zc ZH [Za 3]))))))
  (ZY (eP (Zc ZH [Za 1])))))
noncomputable def Xj:List PV->Option PV:=Xg 4 Xi
noncomputable def Hf:XS:=(Zq (Zx 1 (Zc QF [Za 0,eC (.int 7)]))
  (Zq (Zx 2 (eP (Zj Wx (Zc Yo [Za 1]) (eC (.int 1)))))
  (Zq (Zx 3 (Zc TH [Za 1]))
  (Zq (Q6 (OO (xB (Zc Sz [Za 3,Za 2]))) (ZY (eP (eC (.bl aB)))) YZ)
  (Zq (L6 (.many [4,5,6,7,8]) (Za 3))
  (Zq (YB [] (VQ (VH [Pu [Za 4,Za 5],Pu [Za 5,Za 4],Pu [Za 6,Za 7],Pu [Za 7,Za 6]])) (.many [9,10]) (Q6 (xB (Zj (WX aC) (Zc YJ [Za 9,Za 10]) (Zc SA [Za 2]))) (ZY (eP (eC (.bl aB)))) YZ))
  (Zq (YB [] (ZR [Za 2]) (.one 11) (Q6 (K9 (xB (Zj JN (Zj ZT (Za 8) (Za 11)) (eC (.int 1)))) (Pq (xB (Zj MK (Za 11) (eC (.int 0)))) (xB (Zj (WX aC) (Zj Vl (Zj ZT (Za 8) (Za 11)) (Zj ZT (Za 8) (Zj Wx (Za 11) (eC (.int 1))))) (eC (.int 0)))))) (ZY (eP (eC (.bl aB)))) YZ))
  (Zq (Zx 12 (eP (Zc ZH [Zt 1 [8,2] (ZR [Za 2]) (.one 0) ZF (Zc ZH [Zt 1 [1,0] (ZR [Za 2]) (.one 0) ZF (Zj PX (Zj ZT (Za 1) (Za 2)) (Zc T8 [Zj (WX aB) (Za 2) (Za 0)]))])])))
  (ZY (eP (Tf (Zj (WX aB) (Zc YJ [Zc YJ [Za 4,Zc Xj [Za 1]],Za 6]) (Za 12)) (Zj (WX aB) (Zc TH [Za 1]) (Za 3)))))))))))))
noncomputable def D_law:List PV->Option PV:=Xg 13 Hf
end PW
namespace VL
open PySem PySem.Spec PyProof.Rows L2
theorem Vy{N P:List ah}{h:cq}(a:h.kind = .function:=by rfl)(b:h.isCoroutine=aB:=by rfl)(c:h.isGenerator=aB:=by rfl)(d:N.Nodup:=by decide +kernel)(e:N.take P.length=P:=by rfl)
  (f:∀x∈P,h.names.lookup x=aA .local\/h.names.lookup x=aA .cell:=by decide +kernel) (g:∀y∈h.names,y.2≠.free:=by decide +kernel):Zn N P h:=⟨a,b,c,d,e,f,g⟩
section
variable {X:Cx} {e e1 e2 e3 e4 e5:au} {f f1 f2 f3 f4 f5:XE} {es:List au} {fs:List XE} {x:ah} {p pos pos':dk} {k k' n:Nat} {O W:List Nat}
theorem vo(i:Nat)(c:X.N[i]?=aA x:=by rfl)(d:Eo X.env.scope x:=by first | exact i5 rfl | exact gO (i5 rfl) | exact gO (gO rfl))(b:(x==("__debug__" : ah))=aB:=by decide)
  (a:(x==("__classdict__" : ah))=aB:=by decide):VE X (.Name x pos) (Za i):=FV (pv i c d b a)
theorem YS(a:VE X e1 f1)(b:aT [e1] X.env=(aB,eval e1 X.env)::aT [] X.env:=by rfl):VA X [e1] [f1]:=VG a Gy b
theorem Ws(a:VE X e1 f1)(b:VE X e2 f2)(c:aT [e1,e2] X.env=(aB,eval e1 X.env)::aT [e2] X.env:=by rfl)(d:aT [e2] X.env=(aB,eval e2 X.env)::aT [] X.env:=by rfl):VA X [e1,e2] [f1,f2]:=VG a (YS b d) c
theorem To(a:VE X e1 f1)(b:VE X e2 f2)(c:VE X e3 f3)(d:aT [e1,e2,e3] X.env=(aB,eval e1 X.env)::aT [e2,e3] X.env:=by rfl)(e:aT [e2,e3] X.env=(aB,eval e2 X.env)::aT [e3] X.env:=by rfl)(f:aT [e3] X.env=(aB,eval e3 X.env)::aT [] X.env:=by rfl):VA X [e1,e2,e3] [f1,f2,f3]:=VG a (Ws b c e f) d
theorem DI(a:VE X e1 f1)(b:VE X e2 f2)(c:VE X e3 f3)(d:VE X e4 f4)(e:aT [e1,e2,e3,e4] X.env=(aB,eval e1 X.env)::aT [e2,e3,e4] X.env:=by rfl)(f:aT [e2,e3,e4] X.env=(aB,eval e2 X.env)::aT [e3,e4] X.env:=by rfl)(g:aT [e3,e4] X.env=(aB,eval e3 X.env)::aT [e4] X.env:=by rfl)(h:aT [e4] X.env=(aB,eval e4 X.env)::aT [] X.env:=by rfl):VA X [e1,e2,e3,e4] [f1,f2,f3,f4]:=VG a (To b c d f g h) e
theorem Rn{f:List ah}{D:List PV->Option PV}(C:XZ X.prog X.w X.K X.mg X.base x f (Xq X.K D n) k)(g:Room k' X.A)(j:VA X (e::es) fs)(h:k<=k':=by decide)(d:Gl X x:=by rfl)(c:fs.length=n:=by rfl)
  (a:(x==("__debug__" : ah))=aB:=by decide) (i:aT (e::es) X.env=(aB,eval e X.env)::aT es X.env:=by rfl) (b:(dh pos (aT es X.env)).any (·.1)=aB:=by rfl) :
  VM X (.Call (.Name x p) (e::es) [] pos) (Zc D fs):=NR C (g.mono h) d j c a i b
theorem Vp{f:List ah}{D:List PV->Option PV}(C:XZ X.prog X.w X.K X.mg X.base x f (Xq X.K D n) k)(g:Room k' X.A)(j:VA X (e::es) fs)(h:k<=k':=by decide)(d:Gl X x:=by rfl)(c:fs.length=n:=by rfl)
  (a:(x==("__debug__" : ah))=aB:=by decide) (i:aT (e::es) X.env=(aB,eval e X.env)::aT es X.env:=by rfl) (b:(dh pos (aT es X.env)).any (·.1)=aB:=by rfl) :
  VE X (.Call (.Name x p) (e::es) [] pos) (Zc D fs):=VM.ve (NR C (g.mono h) d j c a i b)
theorem vb{id:String}{r:List V->Hp->VK->Prop}{g:List PV->Option PV}(c:YT X (.builtin id) r)(j:RC X.K r g)(h:X.mg x=none)(l:VA X (e::es) fs)(i:Gl X x:=by rfl)(f:cU x=aA (.builtin id):=by decide +kernel)(d:x≠"__name__":=by decide)(a:(x==("__debug__" : ah))=aB:=by decide)
  (k:aT (e::es) X.env=(aB,eval e X.env)::aT es X.env:=by rfl) (b:(dh pos (aT es X.env)).any (·.1)=aB:=by rfl):VE X (.Call (.Name x p) (e::es) [] pos) (Zc g fs):=Pw c j i h f l d a k b
theorem N8(c:X.mg "len" = none)(g:VE X e f)(d:Gl X "len":=by rfl)(b:aT [e] X.env=(aB,eval e X.env)::aT [] X.env:=by rfl)(a:(dh pos (aT [] X.env)).any (·.1)=aB:=by rfl):VE X (.Call (.Name "len" p) [e] [] pos) (Zc Yo [f]):=
 Pw Lz Gz d c (by decide +kernel) (YS g b) (by decide) (by decide) b a
theorem Xw{a:XE}(i:Nat)(d:X.N.Nodup)(g:VM X e a)(c:X.N[i]?=aA x:=by rfl)(f:Jc X.env.scope x:=by first | exact i5 rfl | exact gO rfl)(b:fS e (aA (.Name x pos')) pos.line X.env=pure aB:=by rfl)(h:X.fn x=aC\/X.env.scope.names.lookup x=aA .local:=by first | exact .inl rfl | exact .inr rfl | assumption) :
  VS X O [i] (.Assign [.Name x pos'] e pos) (Zx i a):=GG d c f g b h
theorem Q7(i:Nat)(b:X.N.Nodup)(a:X.N[i]?=aA x:=by rfl)(c:Jc X.env.scope x:=by first | exact i5 rfl | exact gO rfl)(d:X.fn x=aC\/X.env.scope.names.lookup x=aA .local:=by first | exact .inl rfl | exact .inr rfl | assumption):PG X (.Name x pos) (VB i):=WS b a c d
theorem Q8(i:Nat){N:List ah}{a:cq}{cl:List (ah×aG)}{C:aG}{s:aL}{H:Hp}{b:List aG}(e:N.Nodup:=by decide +kernel)(d:N[i]?=aA x:=by rfl)(c:Jc (Zv X N a cl C s H b).env.scope x:=by exact i5 rfl)(f:(Zv X N a cl C s H b).env.scope.names.lookup x=aA .local:=by rfl):PG (Zv X N a cl C s H b) (.Name x pos) (VB i):=WS e d c (.inr f)
end
section
variable {X:Cx} {tg iter js e1 e2:au} {fi:XL} {T:Tgt} {ft:XT} {fe f1 f2:XE} {p pos pos':dk} {O W:List Nat} {body:List bb} {fb:XS} {scope:cq}
theorem Lm(d:VI X tg iter fi)(f:PG X tg (gT X.K T))(c:Lj X O W body fb)(e:iM (model X.prog X.w) X.A X.env X.xe:=by exact fM)(a:X.calm=aC:=by rfl)(g:∀i∈T.slots,i∉O:=by decide)
  (b:∀x,bI iter X.env x=pure x:=by intro _;rfl):VS X O (T.slots++W) (.For tg iter body [] pos) (YB O fi T fb):=GH e a d f c g b
theorem QK(c:X.mg "range" = none)(d:VE X e1 f1)(b:Gl X "range":=by rfl)(a:aT [e1] X.env=[(aB,eval e1 X.env)]:=by rfl):VI X tg (.Call (.Name "range" p) [e1] [] pos) (ZR [f1]):=MM b c (YS d (by rw[a];rfl)) a
theorem F6(d:X.mg "range" = none)(f:VE X e1 f1)(c:VE X e2 f2)(e:Gl X "range":=by rfl)(b:aT [e1,e2] X.env=[(aB,eval e1 X.env),(aB,eval e2 X.env)]:=by rfl)(a:aT [e2] X.env=[(aB,eval e2 X.env)]:=by rfl):VI X tg (.Call (.Name "range" p) [e1,e2] [] pos) (Yz [f1,f2]):=MN e d (Ws f c (by rw[b,a]) (by rw[a];rfl)) b a
theorem OA(o:ah)(fr:List ah)(ix:List Nat)(a:VI X (.Name o pos') iter fi)(g:∀{cl C s H ex},VE (Zv X ([o]++fr) scope cl C s H ex) js fe)(S:Wv X.N X.env.scope scope [o] fr ix=aC:=by kernel_rfl)
  (e:([o]++fr).Nodup:=by decide +kernel) (d:∀cl C s H ex,Jc (Zv X ([o]++fr) scope cl C s H ex).env.scope o:=by intro _ _ _ _ _;exact i5 rfl) (f:∀cl C s H ex,(Zv X ([o]++fr) scope cl C s H ex).env.scope.names.lookup o=aA .local:=by intro _ _ _ _ _;rfl) (b:X.calm=aC:=by rfl) (c:∀x,bI iter X.env x=pure x:=by intro _;rfl) :
  VE X (.ListComp js [⟨.Name o pos',iter,[],0⟩] scope pos) (Zt 1 ix fi (.one 0) ZF fe):=Ts [o] fr ix b a S (λ_ _ _ _ _=>WS (i:=0) e rfl (d _ _ _ _ _) (.inr (f _ _ _ _ _))) (λ_ _ _ _ _=>Ya) (λ_ _ _ _ _=>g) (λi a=>by cases a with | head=>exact Nat.zero_lt_one | tail _ h=>cases h) c
end
section
variable {K:aD} {P:bH} {w:bu} {mg:ah->Option aF} {base:bP} {x a b c d e:ah} {st:bb} {N:List ah} {k m:Nat} {O W:List Nat} {f:XS}
abbrev Di(x:ah)(st:bb)(us:List aF)(r:List (ah×aF)):Prop:=∀(kV doc pm:aF)(an:Option aG)(cdv ct:aF),gW (cN x x (YN st) (Z9 st) (Zf st) .none kV doc pm an cdv ct) ⟨us,[]⟩=pure r
abbrev GV(P:bH)(w:bu)(K:aD)(mg:ah->Option aF)(base:bP)(N:List ah)(x:ah)(st:bb)(k:Nat)(O W:List Nat)(f:XS):Prop:=∀{fa:aG}{cdv:aF}{A:bc}{outer:List jG}{s:aL}{H:Hp}{E:XK},Room k (A.deeper (fB x (Zf st) s.heap.objs.size fa cdv))->Lj (TV OJ P w K mg base N x (Zf st) fa cdv A outer s H E).nox O W (Z9 st) f
theorem GW(O:List Nat)(D:Def K mg x st)(S:Zn N [a] (Zf st))(q:GV P w K mg base N x st k O W f)(d:∀t,Di x st [t] [(a,t)]:=by intro _ _ _ _ _ _ _;rfl)(g:N.length=m:=by rfl)(e:∀i∈O,1<=i:=by decide):XZ P w K mg base x [a] (Xq K (Xg m f) 1) (k+1):=
 O2 m f D S (λ_ _ _ _ _ _ b c=>match b,c with | [t],_=>d t _ _ _ _ _ _) rfl g e λ_ _ _ _ _ _ _ h=>q h
theorem Ln(O:List Nat)(D:Def K mg x st)(S:Zn N [a,b] (Zf st))(q:GV P w K mg base N x st k O W f)(e:∀t u,Di x st [t,u] [(a,t),(b,u)]:=by intro _ _ _ _ _ _ _ _;rfl)(h:N.length=m:=by rfl)(g:∀i∈O,2<=i:=by decide):XZ P w K mg base x [a,b] (Xq K (Xg m f) 2) (k+1):=
 O2 m f D S (λ_ _ _ _ _ _ c d=>match c,d with | [t,u],_=>e t u _ _ _ _ _ _) rfl h g λ_ _ _ _ _ _ _ j=>q j
theorem J9(O:List Nat)(D:Def K mg x st)(S:Zn N [a,b,c] (Zf st))(q:GV P w K mg base N x st k O W f)(g:∀t u v,Di x st [t,u,v] [(a,t),(b,u),(c,v)]:=by intro _ _ _ _ _ _ _ _ _;rfl)(j:N.length=m:=by rfl)(h:∀i∈O,3<=i:=by decide):XZ P w K mg base x [a,b,c] (Xq K (Xg m f) 3) (k+1):=
 O2 m f D S (λ_ _ _ _ _ _ d e=>match d,e with | [t,u,v],_=>g t u v _ _ _ _ _ _) rfl j h λ_ _ _ _ _ _ _ l=>q l
end
end VL
namespace PW
open PySem L2 VL
noncomputable def Vz(i:Nat):bb:=gS.main.body.getD i (.Pass ⟨0,0,0,0⟩)
section
variable (P:bH) (w:bu) (K:aD) (mg:ah->Option aF) (base:bP)
abbrev SD:Prop:=XZ P w K mg base "_law_cell" ["_law_script","_law_k"] (Xq K Z5 2) 1
abbrev SE:Prop:=XZ P w K mg base "_law_part" ["_law_cell_here","_law_turn","_law_many"] (Xq K Zu 3) 1
abbrev QL:Prop:=XZ P w K mg base "_law_web" ["_law_script","_law_most"] (Xq K QF 2) 2
abbrev UH:Prop:=XZ P w K mg base "ties_at" ["web","house"] (Xq K W5 2) 1
abbrev SF:Prop:=XZ P w K mg base "row_of" ["web","house","others"] (Xq K Sx 3) 2
abbrev YL:Prop:=XZ P w K mg base "square_without" ["web","base"] (Xq K YI 2) 3
abbrev WE:Prop:=XZ P w K mg base "square_of" ["web"] (Xq K WC 1) 4
abbrev Vq:Prop:=XZ P w K mg base "unit_row" ["many","at"] (Xq K We 2) 1
abbrev Vr:Prop:=XZ P w K mg base "block_of" ["square"] (Xq K Vn 1) 2
abbrev Y2:Prop:=XZ P w K mg base "rows_to_clear" ["rows","many","place"] (Xq K Ys 3) 1
abbrev QM:Prop:=XZ P w K mg base "less" ["row","by","often"] (Xq K UG 3) 1
abbrev Y3:Prop:=XZ P w K mg base "cleared_below" ["block","many","place"] (Xq K ZC 3) 36
abbrev XI:Prop:=XZ P w K mg base "turned_over" ["block"] (Xq K Yb 1) 1
abbrev XJ:Prop:=XZ P w K mg base "crossed_out" ["block","many","place"] (Xq K Yr 3) 37
abbrev WG:Prop:=XZ P w K mg base "unfit_row" ["block","many","place"] (Xq K Xv 3) 1
abbrev Wf:Prop:=XZ P w K mg base "part_found" ["block","many","place"] (Xq K YD 3) 38
abbrev UI:Prop:=XZ P w K mg base "divided" ["line","row"] (Xq K W6 2) 1
abbrev Y4:Prop:=XZ P w K mg base "row_by_column" ["row","square","column"] (Xq K Y1 3) 1
abbrev WH:Prop:=XZ P w K mg base "row_times" ["row","square"] (Xq K WD 2) 2
abbrev Wg:Prop:=XZ P w K mg base "multiplied" ["one","other"] (Xq K Yk 2) 3
abbrev QN:Prop:=XZ P w K mg base "parts" ["web"] (Xq K TH 1) 39
abbrev UJ:Prop:=XZ P w K mg base "_law_whole" ["_law_number"] (Xq K Xd 1) 1
abbrev TJ:Prop:=XZ P w K mg base "_law_row" ["_law_found","_law_houses"] (Xq K TF 2) 2
abbrev Vs:Prop:=XZ P w K mg base "_law_square" ["_law_found","_law_size"] (Xq K Vo 2) 3
abbrev SG:Prop:=XZ P w K mg base "_law_told" ["_law_found","_law_size"] (Xq K Sz 2) 4
abbrev UK:Prop:=XZ P w K mg base "_law_times" ["_law_one","_law_other"] (Xq K YJ 2) 1
abbrev SH:Prop:=XZ P w K mg base "_law_unit" ["_law_size"] (Xq K SA 1) 1
abbrev Xk:Prop:=XZ P w K mg base "_law_web_square" ["_law_web_here"] (Xq K Xj 1) 1
end
section
variable {P:bH} {w:bu} {K:aD} {mg:ah->Option aF} {base:bP}
abbrev SI:bb:=Vz 22
theorem MY:Zn ["_law_script","_law_k"] ["_law_script","_law_k"] (Zf SI):=Vy
theorem MZ(a:Def K mg "_law_cell" SI)(B:Vk mg):SD P w K mg base:=
 Ln [] a MY λb=>
  (Ze (Ve (NN (vo 1) (N8 B.len (vo 0))) (Zi (ZE (VE.pure (Zk (vo 0) (vo 1))))) YR)
  (Zi (ZE (VE.pure (X5 (Wy (Yf (Yf (Wy (vo 1) (vo 1)) (Wy Zg (vo 1))) Zg) Zg) Zg)))))
abbrev SJ:bb:=Vz 23
theorem sc_l_part:Zn ["_law_cell_here","_law_turn","_law_many","_law_x","_law_k"] ["_law_cell_here","_law_turn","_law_many"] (Zf SJ):=Vy
theorem M0(b:Def K mg "_law_part" SJ)(B:Vk mg):SE P w K mg base:=
 J9 [] b sc_l_part λa=>
  (Ze (Xw 3 sc_l_part.nd (VE.pure (Qp (vo 0) Zg)))
  (Ze (Ve (VW.vt (LP (N0 a.units (X5 (vo 0) Zg) Zg) (NP (NO (vo 0) (Gs Zg Zg))))) (Ze (Lm (QK B.range (vo 1)) (Q7 4 sc_l_part.nd) (Zi (Xw 3 sc_l_part.nd (VE.pure (Qp (vo 3) Zg)))))
  (Zi (ZE (VE.pure (X5 (vo 3) (vo 2)))))) YR)
  (Ze (Xw 3 sc_l_part.nd (VE.pure (Yf (X5 (vo 3) Zg) (Wy Zg (vo 1)))))
  (Ze (Xw 3 sc_l_part.nd (VE.pure (X5 (Yf (Wy (vo 3) (vo 3)) (Wy Zg (vo 3))) Zg)))
  (Zi (ZE (VE.pure (X5 (Qp (X5 (Yf (Wy (vo 3) (vo 3)) (Wy Zg (vo 1))) Zg) Zg) (vo 2)))))))))
abbrev QO:bb:=Vz 24
theorem sc_l_tie:Zn ["_law_times_here","_law_one","_law_other","_law_more","_law_many"] ["_law_times_here","_law_one","_law_other","_law_more"] (Zf QO):=Vy
theorem Ku(d:Def K mg "_law_tie" QO)(B:Vk mg):XZ P w K mg base "_law_tie" (["_law_times_here","_law_one","_law_other","_law_more"]:List ah) (Fj K Wd 4) 1:=
 J4 (k:=0) 5 TC d sc_l_tie (λ_ _ _ _ _ _ b c=>match b,c with | [_,_,_,_],_=>rfl) rfl rfl (λf e A a s H E g=>
  (R3 (VS.vs0 (Xw 4 sc_l_tie.nd (VE.pure (vb (MA rfl) JT B.min (Ws Zg (Yf (Zk (Zk (vo 0) (vo 1)) (vo 2)) (vo 3)))))))
  (R3 (Su (X1 (vo 4) (Wu (LF ix_list (pv 0) (vo 1) (λ_ _=>rfl)) (vo 2) YV)))
  (Kj (Su (X1 (vo 4) (Wu (LF ix_list (pv 0) (vo 2) (λ_ _=>rfl)) (vo 1) YV)))))))
abbrev QP:bb:=Vz 25
theorem sc_l_web:Zn ["_law_script","_law_most","_law_first","_law_houses","_law_times_here","_law_spots","_law_k","_law_cell_here","_law_one","_law_other"] ["_law_script","_law_most"] (Zf QP):=Vy
theorem Kv(e:Def K mg "_law_web" QP)(B:Vk mg)(b:SD P w K mg base)(a:SE P w K mg base)(c:XZ P w K mg base "_law_tie" (["_law_times_here","_law_one","_law_other","_law_more"]:List ah) (Fj K Wd 4) 1):QL P w K mg base:=
 Ln [4,5] e sc_l_web λd=>
  (Ze (Xw 2 sc_l_web.nd (Rn b d (Ws (vo 0) Zg)))
  (Ze (Xw 3 sc_l_web.nd (VE.pure (Yf Zg (Vp a d (To (vo 2) Zg (vo 1))))))
  (Ze (Tu (["_law_k"]:List ah) (["_law_houses"]:List ah) [3] (i:=4) sc_l_web.nd rfl rfl rfl (QK B.range (vo 3)) (by kernel_rfl) (λ_ _ _ _ _=>(Q8 0)) (λ_ _ _ _ _=>Ya) (λ_ _ _ _ _=>(L7 (OS (YS Zg)) (vo 1))))
  (Ze (Xw 5 sc_l_web.nd (Qs Tr))
  (Ze (Lm (QK B.range (vo 3)) (Q7 6 sc_l_web.nd) (Zi (MR (WR (NH dO PySem.F.slot_list_insert PySem.F.type_list_insert MI (pv 5) (Xp (Vp a d (To (Vp b d (Ws (vo 0) (Yf Zg (vo 6)))) Zg (Yf (vo 6) Zg))) (Xp (vo 6) Uk)))))))
  (Ze (Lm (F6 B.range Zg (vo 3)) (Q7 6 sc_l_web.nd) (Ze (Xw 7 sc_l_web.nd (Rn b d (Ws (vo 0) (vo 6))))
  (Zi (Kl (WR (OK c (d.mono (by decide)) rfl (Xp (pv 4) (To (Zk (vo 5) (vo 6)) (Zk (vo 5) (Vp a d (To (vo 7) Zg (vo 6)))) (Yf Zg (Vp a d (To (vo 7) Zg Zg)))))))))))
  (Ze (Ve (NO (vo 3) Zg) (Zi (Lm (QK B.range (Vp a d (To (vo 2) Zg Zg))) (Q7 6 sc_l_web.nd) (Ze (Xw 7 sc_l_web.nd (Rn b d (Ws (vo 0) (Yf Zg (vo 6)))))
  (Ze (Xw 8 sc_l_web.nd (Rn a d (To (vo 7) Zg (vo 3))))
  (Ze (Xw 9 sc_l_web.nd (VE.pure (X5 (Yf (Yf (vo 8) Zg) (Vp a d (To (vo 7) Zg (Uu (vo 3) Zg)))) (vo 3))))
  (Zi (Kl (WR (OK c (d.mono (by decide)) rfl (Xp (pv 4) (To (vo 8) (vo 9) (Yf Zg (Vp a d (To (vo 7) Zg Zg)))))))))))))) YR)
  (Zi (ZE (VE.pure (Zs Zl ZD rfl B.tuple (by decide +kernel) (YS (OA "_law_row_here" [] [] (YQ (vo 4)) (Zs Zl ZD rfl B.tuple (by decide +kernel) (YS (vo 0))))))))))))))))
abbrev UL:bb:=Vz 1
theorem Na:Zn ["web","house"] ["web","house"] (Zf UL):=Vy
theorem Nb(a:Def K mg "ties_at" UL)(B:Vk mg):UH P w K mg base:=
 Ln [] a Na λb=>
  (Zi (ZE (VE.pure (vb (WU rfl) Qu B.sum (YS (Zk (vo 0) (vo 1)))))))
abbrev SK:bb:=Vz 5
theorem M1:Zn ["web","house","others"] ["web","house","others"] (Zf SK):=Vy
theorem M3(c:Def K mg "row_of" SK)(B:Vk mg)(a:UH P w K mg base):SF P w K mg base:=
 J9 [] c M1 λb=>
  (Zi (ZE (VE.pure (Zs Zl ZD rfl B.tuple (by decide +kernel) (YS (OA "other" ["house","web"] [1,0] (YQ (vo 2)) (IW (N0 b.units (vo 0) (vo 1)) (Vp a b (Ws (vo 2) (vo 1))) (LU (Zk (Zk (vo 2) (vo 1)) (vo 0))))))))))
abbrev YM:bb:=Vz 4
theorem sc_square_without:Zn ["web","base","others"] ["web","base"] (Zf YM):=Vy
theorem V7(c:Def K mg "square_without" YM)(B:Vk mg)(a:SF P w K mg base):YL P w K mg base:=
 Ln [] c sc_square_without λb=>
  (Ze (Xw 2 sc_square_without.nd (WY (["house"]:List ah) (["base"]:List ah) [1] rfl (QK B.range (N8 B.len (vo 0))) (by kernel_rfl) (λ_ _ _ _ _=>(Q8 0)) (λ_ _ _ _ _=>(NX (PJ b.units (vo 0) (vo 1)))) (λ_ _ _ _ _=>(VE.pure (vo 0)))))
  (Zi (ZE (VE.pure (Zs Zl ZD rfl B.tuple (by decide +kernel) (YS (OA "house" ["web","others"] [0,2] (YQ (vo 2)) (Vp a b (To (vo 1) (vo 0) (vo 2))))))))))
abbrev WI:bb:=Vz 3
theorem QQ:Zn ["web"] ["web"] (Zf WI):=Vy
theorem QR(c:Def K mg "square_of" WI)(B:Vk mg)(a:YL P w K mg base):WE P w K mg base:=
 GW [] c QQ λb=>
  (Zi (ZE (Rn a b (Ws (vo 0) Zg))))
abbrev Vt:bb:=Vz 12
theorem P4:Zn ["many","at"] ["many","at"] (Zf Vt):=Vy
theorem P5(b:Def K mg "unit_row" Vt)(B:Vk mg):Vq P w K mg base:=
 Ln [] b P4 λa=>
  (Zi (ZE (WY (["column"]:List ah) (["at"]:List ah) [1] rfl (QK B.range (vo 0)) (by kernel_rfl) (λ_ _ _ _ _=>(Q8 0)) (λ_ _ _ _ _=>Ya) (λ_ _ _ _ _=>(VE.pure (IW (N0 a.units (vo 0) (vo 1)) Zg Zg))))))
abbrev Vu:bb:=Vz 11
theorem sc_block_of:Zn ["square","many","upper","lower"] ["square"] (Zf Vu):=Vy
theorem P6(c:Def K mg "block_of" Vu)(B:Vk mg)(a:Vq P w K mg base):Vr P w K mg base:=
 GW [] c sc_block_of λb=>
  (Ze (Xw 1 sc_block_of.nd (VE.pure (N8 B.len (vo 0))))
  (Ze (Tu (["at","row"]:List ah) (["many"]:List ah) [1] (i:=2) sc_block_of.nd rfl rfl rfl (NV aB rfl B.enumerate (YS (vo 0))) (by kernel_rfl) (λ_ _ _ _ _=>(Vj (n:=2) rfl (ZS (Q8 0) (ZS (Q8 1) X0)))) (λ_ _ _ _ _=>Ya) (λ_ _ _ _ _=>(VE.pure (UE (QC (VM.ve (RL VC Px rfl B.list (by decide +kernel) (YS (vo 1)))) (Vp a b (Ws (vo 2) (vo 0))))))))
  (Ze (Tu (["at"]:List ah) (["many"]:List ah) [1] (i:=3) sc_block_of.nd rfl rfl rfl (QK B.range (vo 1)) (by kernel_rfl) (λ_ _ _ _ _=>(Q8 0)) (λ_ _ _ _ _=>Ya) (λ_ _ _ _ _=>(VE.pure (UE (QC (Vp a b (Ws (vo 1) (vo 0))) (VM.ve (L7 (OS (YS Zg)) (vo 1))))))))
  (Zi (ZE (QC (vo 2) (vo 3)))))))
abbrev Y5:bb:=Vz 17
theorem UM:Zn ["rows","many","place"] ["rows","many","place"] (Zf Y5):=Vy
theorem UN(b:Def K mg "rows_to_clear" Y5)(B:Vk mg):Y2 P w K mg base:=
 J9 [] b UM λa=>
  (Zi (ZE (WY (["at"]:List ah) (["place","rows"]:List ah) [2,0] rfl (F6 B.range (Yf (vo 2) Zg) (vo 1)) (by kernel_rfl) (λ_ _ _ _ _=>(Q8 0)) (λ_ _ _ _ _=>(NX (PJ a.units (Zk (Zk (vo 2) (vo 0)) (vo 1)) Zg))) (λ_ _ _ _ _=>(VE.pure (vo 0))))))
abbrev Nc:bb:=Vz 18
theorem Ia:Zn ["row","by","often"] ["row","by","often"] (Zf Nc):=Vy
theorem Ib(a:Def K mg "less" Nc)(B:Vk mg):QM P w K mg base:=
 J9 [] a Ia λb=>
  (Zi (ZE (WY (["number","other"]:List ah) (["often"]:List ah) [2] rfl (OX aC aC rfl B.zip (Ws (vo 0) (vo 1))) (by kernel_rfl) (λ_ _ _ _ _=>(Vj (n:=2) rfl (ZS (Q8 0) (ZS (Q8 1) X0)))) (λ_ _ _ _ _=>Ya) (λ_ _ _ _ _=>(VE.pure (Uu (vo 0) (TB (vo 2) (vo 1))))))))
abbrev Y6:bb:=Vz 16
theorem sc_cleared_below:Zn ["block","many","place","rows","below","first","kept","at"] ["block","many","place"] (Zf Y6):=Vy
theorem UO(d:Def K mg "cleared_below" Y6)(B:Vk mg)(T:P.given.tree=none)(a:Y2 P w K mg base)(b:QM P w K mg base):Y3 P w K mg base:=
 J9 [3] d sc_cleared_below λc=>
  (Ze (Xw 3 sc_cleared_below.nd (RL VC Px rfl B.list (by decide +kernel) (YS (vo 0))))
  (Ze (Xw 4 sc_cleared_below.nd (Rn a c (To (vo 3) (vo 1) (vo 2))))
  (Ze (Sg fM (NO (N8 B.len (vo 4)) Zg) (Ze (Xw 5 sc_cleared_below.nd (VE.pure (Zk (vo 4) Zg)))
  (Ze (Ve (VW.vt (NQ (N0 c.units (Zk (Zk (vo 3) (vo 2)) (vo 2)) Zg) (OP (NN (vb Pd LW B.abs (YS (Zk (Zk (vo 3) (vo 5)) (vo 2)))) (vb Pd LW B.abs (YS (Zk (Zk (vo 3) (vo 2)) (vo 2)))))))) (Ze (Xw 6 sc_cleared_below.nd (VE.pure (Zk (vo 3) (vo 2))))
  (Ze (XX (X1 (Zk (vo 3) (vo 5)) (Wu (pv 3) (vo 2) YV)))
  (Zi (XX (X1 (vo 6) (Wu (pv 3) (vo 5) YV)))))) YR)
  (Ze (Lm (YQ (vo 4)) (Q7 7 sc_cleared_below.nd) (Zi (XX (X1 (UE (Rn b c (To (Zk (vo 3) (vo 7)) (Zk (vo 3) (vo 2)) (Kr T (c.mono (by decide)) (Zk (Zk (vo 3) (vo 7)) (vo 2)) (Zk (Zk (vo 3) (vo 2)) (vo 2)))))) (Wu (pv 3) (vo 7) YV)))))
  (Zi (Xw 4 sc_cleared_below.nd (Rn a c (To (vo 3) (vo 1) (vo 2)))))))))
  (Zi (QB (pv 3))))))
abbrev XM:bb:=Vz 19
theorem SM:Zn ["block"] ["block"] (Zf XM):=Vy
theorem SN(a:Def K mg "turned_over" XM)(B:Vk mg):XI P w K mg base:=
 GW [] a SM λb=>
  (Zi (ZE (MU "at" (["block"]:List ah) [0] rfl (QK B.range (N8 B.len (vo 0))) (by kernel_rfl) (λ_ _ _ _ _=>(WS (i:=0) (show((["at","block"]:List ah)).Nodup by decide +kernel) rfl (gO rfl) (.inl (beq_self_eq_true _)))) (λ_ _ _ _ _=>Ya) (λ_ _ _ _ _=>(VE.pure (UE (WY (["row"]:List ah) (["at"]:List ah) [0] rfl (YQ (vo 1)) (by kernel_rfl) (λ_ _ _ _ _=>(Q8 0)) (λ_ _ _ _ _=>Ya) (λ_ _ _ _ _=>(VE.pure (Zk (vo 0) (vo 1)))))))))))
abbrev XN:bb:=Vz 15
theorem sc_crossed_out:Zn ["block","many","place","crossed"] ["block","many","place"] (Zf XN):=Vy
theorem SO(d:Def K mg "crossed_out" XN)(B:Vk mg)(a:Y3 P w K mg base)(b:XI P w K mg base):XJ P w K mg base:=
 J9 [3] d sc_crossed_out λc=>
  (Ze (Xw 3 sc_crossed_out.nd (Rn a c (To (vo 0) (vo 1) (vo 2))))
  (Ze (Sg fM (T7 (vb (MV rfl) J7 B.any (YS (Xc (Zk (vo 3) (vo 2)) (Xt (Yf (vo 2) Zg)) (Xt (vo 1)))))) (Ze (Xw 3 sc_crossed_out.nd (Rn b c (YS (Vp a c (To (Vp b c (YS (vo 3))) (vo 1) (vo 2))))))
  (Zi (Xw 3 sc_crossed_out.nd (Rn a c (To (vo 3) (vo 1) (vo 2)))))))
  (Zi (QB (pv 3)))))
abbrev WK:bb:=Vz 14
theorem sc_unfit_row:Zn ["block","many","place","part","at"] ["block","many","place"] (Zf WK):=Vy
theorem QS(b:Def K mg "unfit_row" WK)(B:Vk mg):WG P w K mg base:=
 J9 [] b sc_unfit_row λa=>
  (Ze (Xw 3 sc_unfit_row.nd (VE.pure (Zk (Zk (vo 0) (vo 2)) (vo 2))))
  (Ze (Lm (F6 B.range (Yf (vo 2) Zg) (vo 1)) (Q7 4 sc_unfit_row.nd) (Zi (Ve (T7 (vb (MH rfl) GA B.any (YS (OA "number" ["part"] [3] (YQ (Xc (Zk (vo 0) (vo 4)) WZ (Xt (vo 1)))) (F4 a.units (J8 (vo 0) (vo 1)) Zg))))) (Zi (ZE (VE.pure (vo 4)))) YR)))
  (Zi (ZE (VE.pure Gr)))))
abbrev Wh:bb:=Vz 13
theorem sc_part_found:Zn ["block","many","place","found","unfit"] ["block","many","place"] (Zf Wh):=Vy
theorem Ro(e:Def K mg "part_found" Wh)(B:Vk mg)(a:XJ P w K mg base)(b:WG P w K mg base)(c:QM P w K mg base):Wf P w K mg base:=
 J9 [3] e sc_part_found λd=>
  (Ze (Xw 3 sc_part_found.nd (Rn a d (To (vo 0) (vo 1) (vo 2))))
  (Ze (Xw 4 sc_part_found.nd (Rn b d (To (vo 3) (vo 1) (vo 2))))
  (Ze (Sg fM (JR (vo 4)) (Ze (XX (X1 (UE (Rn c d (To (Zk (vo 3) (vo 2)) (Zk (vo 3) (vo 4)) Zg))) (Wu (pv 3) (vo 2) YV)))
  (Ze (Xw 3 sc_part_found.nd (Rn a d (To (vo 3) (vo 1) (vo 2))))
  (Zi (Xw 4 sc_part_found.nd (Rn b d (To (vo 3) (vo 1) (vo 2))))))))
  (Ze (Ve (NN (Zk (Zk (vo 3) (vo 2)) (vo 2)) Zg) (Zi (XX (X1 (UE (WY (["number"]:List ah) ([]:List ah) [] rfl (YQ (Zk (vo 3) (vo 2))) (by kernel_rfl) (λ_ _ _ _ _=>(Q8 0)) (λ_ _ _ _ _=>Ya) (λ_ _ _ _ _=>(VE.pure (LU (vo 0)))))) (Wu (pv 3) (vo 2) YV)))) YR)
  (Zi (QB (pv 3)))))))
abbrev UP:bb:=Vz 20
theorem Nd:Zn ["line","row"] ["line","row"] (Zf UP):=Vy
theorem Nf(a:Def K mg "divided" UP)(B:Vk mg):UI P w K mg base:=
 Ln [] a Nd λb=>
  (Zi (ZE (VE.pure (Zs Zl ZD rfl B.tuple (by decide +kernel) (YS (Ts (["number","by"]:List ah) ([]:List ah) [] rfl (OX aB aB rfl B.zip (Ws (vo 0) (vo 1))) (by kernel_rfl) (λ_ _ _ _ _=>(Vj (n:=2) rfl (ZS (Q8 0) (ZS (Q8 1) X0)))) (λ_ _ _ _ _=>Ya) (λ_ _ _ _ _=>(Kn (vo 0) (vo 1)))))))))
abbrev Y7:bb:=Vz 8
theorem UQ:Zn ["row","square","column"] ["row","square","column"] (Zf Y7):=Vy
theorem UR(a:Def K mg "row_by_column" Y7)(B:Vk mg):Y4 P w K mg base:=
 J9 [] a UQ λb=>
  (Zi (ZE (VE.pure (vb (WU rfl) Qu B.sum (YS (Ts (["at","number"]:List ah) (["column","square"]:List ah) [2,1] rfl (NV aB rfl B.enumerate (YS (vo 0))) (by kernel_rfl) (λ_ _ _ _ _=>(Vj (n:=2) rfl (ZS (Q8 0) (ZS (Q8 1) X0)))) (λ_ _ _ _ _=>Ya) (λ_ _ _ _ _=>(TB (vo 1) (Zk (Zk (vo 3) (vo 0)) (vo 2))))))))))
abbrev WL:bb:=Vz 7
theorem QT:Zn ["row","square"] ["row","square"] (Zf WL):=Vy
theorem QU(c:Def K mg "row_times" WL)(B:Vk mg)(a:Y4 P w K mg base):WH P w K mg base:=
 Ln [] c QT λb=>
  (Zi (ZE (VE.pure (Zs Zl ZD rfl B.tuple (by decide +kernel) (YS (OA "column" ["row","square"] [0,1] (QK B.range (N8 B.len (vo 0))) (Vp a b (To (vo 1) (vo 2) (vo 0)))))))))
abbrev Wi:bb:=Vz 6
theorem Rq:Zn ["one","other"] ["one","other"] (Zf Wi):=Vy
theorem Rr(c:Def K mg "multiplied" Wi)(B:Vk mg)(a:WH P w K mg base):Wg P w K mg base:=
 Ln [] c Rq λb=>
  (Zi (ZE (VE.pure (Zs Zl ZD rfl B.tuple (by decide +kernel) (YS (OA "row" ["other"] [1] (T9 (vo 0)) (Vp a b (Ws (vo 0) (vo 1)))))))))
abbrev QV:bb:=Vz 10
theorem sc_parts:Zn ["web","square","many","block","place","row","left","right","back","forth"] ["web"] (Zf QV):=Vy
theorem Kw(g:Def K mg "parts" QV)(B:Vk mg)(d:WE P w K mg base)(e:Vr P w K mg base)(c:Wf P w K mg base)(b:UI P w K mg base)(a:Wg P w K mg base):QN P w K mg base:=
 GW [] g sc_parts λf=>
  (Ze (Xw 1 sc_parts.nd (Rn d f (YS (vo 0))))
  (Ze (Xw 2 sc_parts.nd (VE.pure (N8 B.len (vo 1))))
  (Ze (Xw 3 sc_parts.nd (Rn e f (YS (vo 1))))
  (Ze (Lm (QK B.range (vo 2)) (Q7 4 sc_parts.nd) (Zi (Xw 3 sc_parts.nd (Rn c f (To (vo 3) (vo 2) (vo 4))))))
  (Ze (Xw 5 sc_parts.nd (VE.pure (Zs Zl ZD rfl B.tuple (by decide +kernel) (YS (OA "at" ["block"] [3] (QK B.range (vo 2)) (Zk (Zk (vo 1) (vo 0)) (vo 0)))))))
  (Ze (Xw 6 sc_parts.nd (VE.pure (Zs Zl ZD rfl B.tuple (by decide +kernel) (YS (OA "line" ["many"] [2] (YQ (Xc (vo 3) WZ (Xt (vo 2)))) (Zs Zl ZD rfl B.tuple (by decide +kernel) (YS (Xc (vo 0) (Xt (vo 1)) WZ))))))))
  (Ze (Xw 7 sc_parts.nd (VE.pure (Zs Zl ZD rfl B.tuple (by decide +kernel) (YS (OA "line" ["many"] [2] (YQ (Xc (vo 3) (Xt (vo 2)) WZ)) (Zs Zl ZD rfl B.tuple (by decide +kernel) (YS (Xc (vo 0) WZ (Xt (vo 1))))))))))
  (Ze (Xw 8 sc_parts.nd (VE.pure (Zs Zl ZD rfl B.tuple (by decide +kernel) (YS (OA "line" ["row"] [5] (T9 (Vp a f (Ws (vo 1) (vo 7)))) (Vp b f (Ws (vo 0) (vo 1))))))))
  (Ze (Xw 9 sc_parts.nd (VE.pure (Zs Zl ZD rfl B.tuple (by decide +kernel) (YS (Ts (["line","by"]:List ah) (["many"]:List ah) [2] rfl (OX aB aB rfl B.zip (Ws (Vp a f (Ws (vo 6) (vo 1))) (vo 5))) (by kernel_rfl) (λ_ _ _ _ _=>(Vj (n:=2) rfl (ZS (Q8 0) (ZS (Q8 1) X0)))) (λ_ _ _ _ _=>Ya) (λ_ _ _ _ _=>(Vp b f (Ws (vo 0) (Ww J1 J2 (Uw (YS (vo 1))) (vo 2))))))))))
  (Zi (ZE (VE.pure (Uw (VG (vo 6) (DI (vo 8) (vo 7) (vo 9) (vo 5))))))))))))))))
abbrev US:bb:=Vz 26
theorem Ng:Zn ["_law_number"] ["_law_number"] (Zf US):=Vy
theorem Nh(a:Def K mg "_law_whole" US)(B:Vk mg):UJ P w K mg base:=
 GW [] a Ng λb=>
  (Zi (ZE (VE.pure (Uv (vb YX VN B.isinstance (Ws (vo 0) (Pz rfl B.int (by decide +kernel)))) (Qr (Gw (vb YX VN B.isinstance (Ws (vo 0) (Pz rfl B.bool (by decide +kernel))))))))))
abbrev QW:bb:=Vz 27
theorem Kx:Zn ["_law_found","_law_houses"] ["_law_found","_law_houses"] (Zf QW):=Vy
theorem Ky(c:Def K mg "_law_row" QW)(B:Vk mg)(a:UJ P w K mg base):TJ P w K mg base:=
 Ln [] c Kx λb=>
  (Zi (ZE (VE.pure (Uv (vb YX VN B.isinstance (Ws (vo 0) (Pz rfl B.tuple (by decide +kernel)))) (Uv (RQ b.units (N8 B.len (vo 0)) (vo 1)) (Qr (vb (Ur rfl) OT B.all (YS (OA "_law_one" [] [] (T9 (vo 0)) (Vp a b (YS (vo 0))))))))))))
abbrev Vv:bb:=Vz 30
theorem P7:Zn ["_law_found","_law_size"] ["_law_found","_law_size"] (Zf Vv):=Vy
theorem P8(c:Def K mg "_law_square" Vv)(B:Vk mg)(a:TJ P w K mg base):Vs P w K mg base:=
 Ln [] c P7 λb=>
  (Zi (ZE (VE.pure (Uv (vb YX VN B.isinstance (Ws (vo 0) (Pz rfl B.tuple (by decide +kernel)))) (Uv (RQ b.units (N8 B.len (vo 0)) (vo 1)) (Qr (vb (Ur rfl) OT B.all (YS (OA "_law_row_here" ["_law_size"] [1] (T9 (vo 0)) (Vp a b (Ws (vo 0) (vo 1))))))))))))
abbrev SQ:bb:=Vz 32
theorem M4:Zn ["_law_found","_law_size"] ["_law_found","_law_size"] (Zf SQ):=Vy
theorem M5(d:Def K mg "_law_told" SQ)(B:Vk mg)(b:TJ P w K mg base)(a:Vs P w K mg base):SG P w K mg base:=
 Ln [] d M4 λc=>
  (Ze (Ve (VW.vt (NQ (OQ (T7 (vb YX VN B.isinstance (Ws (vo 0) (Pz rfl B.tuple (by decide +kernel)))))) (NQ (PJ c.units (N8 B.len (vo 0)) Zg) (OP (OQ (T7 (Vp b c (Ws (Zk (vo 0) Zg) (vo 1))))))))) (Zi (ZE (VE.pure NL))) YR)
  (Zi (ZE (VE.pure (vb (Ur rfl) OT B.all (YS (OA "_law_square_here" ["_law_size"] [1] (T9 (MP (vo 0) WZ (Xt Zg))) (Vp a c (Ws (vo 0) (vo 1))))))))))
abbrev UT:bb:=Vz 29
theorem sc_q_times:Zn ["_law_one","_law_other","_law_size","_law_rows","_law_i","_law_row_here","_law_j"] ["_law_one","_law_other"] (Zf UT):=Vy
theorem Ni(a:Def K mg "_law_times" UT)(B:Vk mg):UK P w K mg base:=
 Ln [3,5] a sc_q_times λb=>
  (Ze (Xw 2 sc_q_times.nd (VE.pure (N8 B.len (vo 0))))
  (Ze (Xw 3 sc_q_times.nd (Qs Tr))
  (Ze (Lm (QK B.range (vo 2)) (Q7 4 sc_q_times.nd) (Ze (Xw 5 sc_q_times.nd (Qs Tr))
  (Ze (Lm (QK B.range (vo 2)) (Q7 6 sc_q_times.nd) (Zi (UB (WR (NH dO eH eI Up (pv 5) (Xp (VE.pure (vb (WU rfl) Qu B.sum (YS (OA "_law_k" ["_law_j","_law_one","_law_i","_law_other"] [6,0,4,1] (QK B.range (vo 2)) (TB (Zk (Zk (vo 2) (vo 3)) (vo 0)) (Zk (Zk (vo 4) (vo 0)) (vo 1))))))) Uk))))))
  (Zi (UB (WR (NH dO eH eI Up (pv 3) (Xp (VE.pure (Zs Zl ZD rfl B.tuple (by decide +kernel) (YS (vo 5)))) Uk))))))))
  (Zi (ZE (VE.pure (Zs Zl ZD rfl B.tuple (by decide +kernel) (YS (vo 3)))))))))
abbrev SR:bb:=Vz 33
theorem M6:Zn ["_law_size"] ["_law_size"] (Zf SR):=Vy
theorem M7(b:Def K mg "_law_unit" SR)(B:Vk mg):SH P w K mg base:=
 GW [] b M6 λa=>
  (Zi (ZE (VE.pure (Zs Zl ZD rfl B.tuple (by decide +kernel) (YS (R7 "_law_i" (["_law_size"]:List ah) [0] rfl (QK B.range (vo 0)) (by kernel_rfl) (λ_ _ _ _ _=>(WS (i:=0) (show((["_law_i","_law_size"]:List ah)).Nodup by decide +kernel) rfl (gO rfl) (.inl (beq_self_eq_true _)))) (λ_ _ _ _ _=>Ya) (λ_ _ _ _ _=>(Zs Zl ZD rfl B.tuple (by decide +kernel) (YS (OA "_law_j" ["_law_i"] [0] (QK B.range (vo 1)) (Zs Rx NS rfl B.int (by decide +kernel) (YS (RQ a.units (vo 1) (vo 0))))))))))))))
abbrev Xl:bb:=Vz 31
theorem sc_l_web_square:Zn ["_law_web_here","_law_rows","_law_house","_law_row_here"] ["_law_web_here"] (Zf Xl):=Vy
theorem Tp(a:Def K mg "_law_web_square" Xl)(B:Vk mg):Xk P w K mg base:=
 GW [1,3] a sc_l_web_square λb=>
  (Ze (Xw 1 sc_l_web_square.nd (Qs Tr))
  (Ze (Lm (F6 B.range Zg (N8 B.len (vo 0))) (Q7 2 sc_l_web_square.nd) (Ze (Tu (["_law_other"]:List ah) (["_law_web_here","_law_house"]:List ah) [0,2] (i:=3) sc_l_web_square.nd rfl rfl rfl (F6 B.range Zg (N8 B.len (vo 0))) (by kernel_rfl) (λ_ _ _ _ _=>(Q8 0)) (λ_ _ _ _ _=>Ya) (λ_ _ _ _ _=>(VE.pure (Uu Zg (Zk (Zk (vo 1) (vo 2)) (vo 0))))))
  (Ze (XX (X1 (vb (WU rfl) Qu B.sum (YS (Zk (vo 0) (vo 2)))) (Wu (pv 3) (Uu (vo 2) Zg) YV)))
  (Zi (UB (WR (NH dO eH eI Up (pv 1) (Xp (VE.pure (Zs Zl ZD rfl B.tuple (by decide +kernel) (YS (vo 3)))) Uk))))))))
  (Zi (ZE (VE.pure (Zs Zl ZD rfl B.tuple (by decide +kernel) (YS (vo 1))))))))
abbrev Kz:bb:=Vz 34
theorem sc_law:Zn ["_law_script","_law_web_here","_law_size","_law_found","_law_lefts","_law_backs","_law_rights","_law_forths","_law_row_here","_law_one","_law_other","_law_k","_law_due"] ["_law_script"] (Zf Kz):=Vy
theorem GX{j:aG}{l:dJ}(m:Fun K "law" "law" Kz j l)(B:Vk mg)(g:QL P w K mg base)(c:QN P w K mg base)(f:SG P w K mg base)(a:UK P w K mg base)(e:SH P w K mg base)(b:Xk P w K mg base):Ta P w K mg base OJ 40 j l (["_law_script"]:List ah) (Xq K D_law 1):=
 GI (O:=[]) (k:=39) 13 Hf m sc_law rfl rfl (by decide) (λp o A h s H E d=>
  (Ze (Xw 1 sc_law.nd (Rn g d (Ws (vo 0) Zg)))
  (Ze (Xw 2 sc_law.nd (VE.pure (Uu (N8 B.len (vo 1)) Zg)))
  (Ze (Xw 3 sc_law.nd (Rn c d (YS (vo 1))))
  (Ze (Ve (OQ (T7 (Vp f d (Ws (vo 3) (vo 2))))) (Zi (ZE (VE.pure NL))) YR)
  (Ze (JV (T:=(.many [4,5,6,7,8])) (X1 (vo 3) (Vj (n:=5) rfl (ZS (Q7 4 sc_law.nd) (ZS (Q7 5 sc_law.nd) (ZS (Q7 6 sc_law.nd) (ZS (Q7 7 sc_law.nd) (ZS (Q7 8 sc_law.nd) X0))))))))
  (Ze (Lm (YQ (OS (DI (Uw (Ws (vo 4) (vo 5))) (Uw (Ws (vo 5) (vo 4))) (Uw (Ws (vo 6) (vo 7))) (Uw (Ws (vo 7) (vo 6)))))) (Vj (n:=2) rfl (ZS (Q7 9 sc_law.nd) (ZS (Q7 10 sc_law.nd) X0))) (Zi (Ve (PJ d.units (Vp a d (Ws (vo 9) (vo 10))) (Vp e d (YS (vo 2)))) (Zi (ZE (VE.pure NL))) YR)))
  (Ze (Lm (QK B.range (vo 2)) (Q7 11 sc_law.nd) (Zi (Ve (VW.vt (NQ (NN (Zk (vo 8) (vo 11)) Zg) (OP (VW.vt (LP (NO (vo 11) Zg) (NP (PJ d.units (X5 (Zk (vo 8) (vo 11)) (Zk (vo 8) (Uu (vo 11) Zg))) Zg))))))) (Zi (ZE (VE.pure NL))) YR)))
  (Ze (Xw 12 sc_law.nd (VE.pure (Zs Zl ZD rfl B.tuple (by decide +kernel) (YS (R7 "_law_i" (["_law_row_here","_law_size"]:List ah) [8,2] rfl (QK B.range (vo 2)) (by kernel_rfl) (λ_ _ _ _ _=>(WS (i:=0) (show((["_law_i","_law_row_here","_law_size"]:List ah)).Nodup by decide +kernel) rfl (gO rfl) (.inl (beq_self_eq_true _)))) (λ_ _ _ _ _=>Ya) (λ_ _ _ _ _=>(Zs Zl ZD rfl B.tuple (by decide +kernel) (YS (OA "_law_j" ["_law_row_here","_law_i"] [1,0] (QK B.range (vo 2)) (TB (Zk (vo 1) (vo 2)) (Zs Rx NS rfl B.int (by decide +kernel) (YS (RQ d.units (vo 2) (vo 0))))))))))))))
  (Zi (ZE (VE.pure (Uv (RQ d.units (Vp a d (Ws (Vp a d (Ws (vo 4) (Vp b d (YS (vo 1))))) (vo 6))) (vo 12)) (Qr (RQ d.units (Vp c d (YS (vo 1))) (vo 3))))))))))))))))
end
end PW
namespace PW
open L2 VL
theorem Nj{W:List (List Int)}{h:Nat}(a:h<W.length):W5 [wP W,.int (h:Int)]=aA (.int (Zr W h).sum):=by simp[W5,RV,Xg,ZQ,Tw a]
theorem KA(i:Int):Xd [.int i]=aA (.bl aC):=by simp[Xd,RW,Xg,ZQ]
theorem KC{l:List Int}(c:l.length<=1000):RY [pP l,.int (l.length:Int)]=aA (.bl aC):=by
 have a:Zt 1 [] (Ti (Za 0)) (.one 0) ZF (Zc Xd [Za 0]) [aA (pP l),aA (.int (l.length:Int))]=aA (.lst (bL (l.map λ_=>aC))):=by rw[Z2 l PV.int (λ_=>.bl aC) (Sn (by simp)) (by omega) (λi d=>⟨_,rfl,rfl,by simp[ZU,KA]⟩)];simp
 have b:Rg [.lst (bL (l.map λ_=>aC))]=aA (.bl aC):=by rw[Ke];simp
 simp[RY,RX,Xg,ZQ,a,b,-cg]
noncomputable def KD(W:List (List Int))(a b:Nat):List (List Int):=(aJ (ent W a b).toNat).map λ(t:Nat)=>[(a:Int),(b:Int),(t:Int)]
noncomputable def Hg(W:List (List Int))(a:Nat):List (List Int):=(aJ (W.length-(a+1))).flatMap λj=>KD W a (a+1+j)
noncomputable def Vf(W:List (List Int)):List (List Int):=(aJ W.length).flatMap (Hg W)
theorem M8{a:Type}(f:Nat->List a)(i:Nat):(aJ (i+1)).flatMap f=(aJ i).flatMap f++f i:=by rw[dW];simp
noncomputable def tk(e:DS):List S6:=[.inl (e.1:Int),.inl (e.2.1:Int)]
noncomputable def SS(W:List (List Int)):Prop:=∀P:Nat->Prop,(∀a b,a<W.length->b<W.length->0<ent W a b->(P a↔P b))->∀i j,i<W.length->j<W.length->(P i↔P j)
theorem P9:∀{l m:List Int},l.Nodup->(∀x∈l,x∈m)->l.length<=m.length
 | [],m,_,_=>cB _
 | x::r,m,nd,h=>by have c:x∈m:=h x (by simp);have a:=bM.mp nd;have:=P9 (l:=r) (m:=m.erase x) a.2 λy b=>(List.mem_erase_of_ne (show y≠x from λz=>a.1 (by rw[<-z];exact b))).mpr (h y (by simp[b]));rw[List.length_erase_of_mem c] at this;have d:=List.length_pos_of_mem c;rw[b9];omega
theorem Dj{n:Nat}{l:List Int}(d:l.Nodup)(h:∀x∈l,∃k:Nat,k<n/\x=(k:Int))(e:l.length=n){j:Nat}(b:j<n):(j:Int)∈l:=by
 by_cases q:(j:Int)∈l
 ·exact q
 ·have:=P9 (bM.mpr ⟨q,d⟩) (λx a=>by
   rcases aa.mp a with rfl | a
   ·exact bt.mpr ⟨j,aX.mpr b,rfl⟩
   ·obtain⟨k,c,rfl⟩:=h x a;exact bt.mpr ⟨k,aX.mpr c,rfl⟩)
  rw[b9,aS,b0] at this;omega
noncomputable def rL(M:List (List Int)):List PV:=M.map λr=>.lst (iL r)
theorem Nk{M:List (List Int)}{a:Nat}(h:a<M.length):(rL M)[a]?=aA (.lst (iL (Zr M a))):=by unfold rL;rw[aR,Po h];rfl
theorem KG{M:List (List Int)}{a b:Nat}{t:Int}:(rL M).set a (.lst ((iL (Zr M a)).set b (.int t)))=rL (Ut M a b t):=by unfold rL Ut;rw[jB];show _=(jC (λr=>PV.lst (iL r)) M).set a (PV.lst (((Zr M a).set b t).map PV.int));rw[jB]
theorem GY(l:List Int)(k:Nat)(x:Int):(iL l).take k++PV.int x::(iL l).drop k=iL (l.take k++x::l.drop k):=by simp
theorem Y9{f g:XS}{s s1:ZA}(a:f s=aA (.nx s1)):Zq f g s=g s1:=by simp only[PL,a,a9]
theorem Ic{a b:List Int}(c:a.length=b.length)(h:∀i,i<a.length->Xa a i=Xa b i):a=b:=by rw[<-Us a,<-Us b,c];apply bN;intro i d;exact h i (by rw[c];exact aX.mp d)
theorem V8{W:List (List Int)}(ok:Yt W){i:Nat}(a:i<W.length):(Zr W i).sum=((aJ W.length).map λj=>ent W i j).sum:=by rw[<-JF (Zr W i),ok.sq i a];rfl
theorem Nl{W:List (List Int)}(ok:Yt W):((Vf W).length:Int)=((aJ W.length).map λa=>((aJ (W.length-(a+1))).map λj=>ent W a (a+1+j)).sum).sum:=by
 have b:∀(f:Nat->List (List Int))(n:Nat),(((aJ n).flatMap f).length:Int)=((aJ n).map λi=>((f i).length:Int)).sum:=by
  intro f n
  induction n with
  | zero=>rfl
  | succ n ih=>rw[M8,bX,Yy];omega
 unfold Vf;rw[b];apply Xb;intro a c;unfold Hg;rw[b];apply Xb;intro j d;have:=ok.lo a (a+1+j) c (by omega);unfold KD;rw[aS,b0];omega
theorem Oa{W:List (List Int)}(ok:Yt W):((aJ W.length).map λi=>(Zr W i).sum).sum=2*((Vf W).length:Int):=by rw[Nl ok,<-LL (λi j=>ent W i j) W.length (λi j a b=>ok.sym i j a b) (λi a=>ok.dia i a)];apply Xb;intro i a;exact V8 ok a
theorem Xe{n m:Nat}{ix:List Nat}{d:XL}{b:XT}{c:XE}{s:ZA}(g:Nat->Int)(a:d s=aA (Uy m))(f:m<=1000)(h:∀i:Nat,i<m->∃s1,Yu (.one 0) (.int (i:Int)) (ZU n ix s)=aA s1/\b s1=aA aC/\c s1=aA (.int (g i))) :
  Zt n ix d (.one 0) b c s=aA (.lst (iL ((aJ m).map g))):=by
 rw[Z2 (aJ m) (λi=>.int (i:Int)) (λi=>.int (g i)) a (by simp;omega) (λi e=>h i (aX.mp e))];simp
theorem nth_set{l:List Int}{h i:Nat}{v:Int}(a:i<l.length):Xa (l.set h v) i=if i=h then v else Xa l i:=by
 unfold Xa;rw[aN,aN,aj];by_cases e:h=i
 ·subst e;rw[ju rfl,ju rfl,ju a];rfl
 ·rw[jv e,jv (ao e)]
theorem KH(l:List Int)(k:Nat):XD (iL l) none (aA (k:Int))=iL (l.take k):=by
 unfold XD;rw[HT.sIx_none,HT.sIx_nat,aS,fj,gm,<-jb];congr 1;by_cases h:k<=l.length
 ·rw[dB h]
 ·rw[gY (by omega),bV (aH _),bV (by omega)]
theorem GZ(l:List Int)(k:Nat):XD (iL l) (aA (k:Int)) none=iL (l.drop k):=by
 unfold XD;rw[HT.sIx_none,HT.sIx_nat,aS,<-jc];congr 1;by_cases h:k<=l.length
 ·rw[dB h,bV (by simp)]
 ·rw[gY (by omega),eh (aH _),eh (by omega)];simp
theorem Ie{l:List Int}{x:Int}(h:x∈l):∃i,i<l.length/\Xa l i=x:=by obtain⟨i,a,e⟩:=List.getElem_of_mem h;refine⟨i,a,?_⟩;unfold Xa;rw[aN,aM a,e];rfl
end PW
namespace PW
noncomputable def sN:Nat->(Nat->Int)->Int
 | 0,_=>0
 | n+1,f=>sN n f+f n
theorem Zh{f g:Nat->Int}:∀{n:Nat},(∀i,i<n->f i=g i)->sN n f=sN n g
 | 0,_=>rfl
 | n+1,h=>by show sN n f+f n=sN n g+g n;rw[Zh λi a=>h i (by omega),h n (by omega)]
theorem Wj{f:Nat->Int}{n:Nat}(h:∀i,i<n->f i=0):sN n f=0:=by
 rw[Zh h];clear h
 induction n with
 | zero=>rfl
 | succ n ih=>show sN n _+0=0;rw[ih];rfl
theorem Yc(f g:Nat->Int):∀n,sN n (λi=>f i+g i)=sN n f+sN n g
 | 0=>rfl
 | n+1=>by show sN n _+(f n+g n)=(sN n f+f n)+(sN n g+g n);rw[Yc f g n];omega
theorem ZN(c:Int)(f:Nat->Int):∀n,sN n (λi=>c*f i)=c*sN n f
 | 0=>by show(0:Int)=c*0;simp
 | n+1=>by show sN n _+c*f n=c*(sN n f+f n);rw[ZN c f n,jR]
theorem QX(f:Nat->Nat->Int)(m:Nat):∀n,sN n (λi=>sN m (f i))=sN m (λj=>sN n λi=>f i j)
 | 0=>by show(0:Int)=sN m λ_=>0;rw[Wj (λ_ _=>rfl)]
 | n+1=>by show sN n (λi=>sN m (f i))+sN m (f n)=sN m (λj=>(sN n λi=>f i j)+f n j);rw[Yc,QX f m n]
theorem ZW{f:Nat->Int}{k:Nat}:∀{n:Nat},k<n->(∀i,i<n->i≠k->f i=0)->sN n f=f k
 | 0,h,_=>by omega
 | n+1,h,z=>by
  show sN n f+f n=f k;by_cases q:k=n
  ·subst q;rw[Wj λi a=>z i (by omega) (by omega)];omega
  ·rw[ZW (n:=n) (by omega) λi a=>z i (by omega),z n (by omega) (by omega)];omega
theorem KI{f:Nat->Int}{k:Nat}:∀{n:Nat},k+1<n->(∀i,i<n->i≠k->i≠k+1->f i=0)->sN n f=f k+f (k+1)
 | 0,h,_=>by omega
 | n+1,h,z=>by
  show sN n f+f n=_;by_cases q:k+1=n
  ·subst q;rw[ZW (k:=k) (by omega) λi a b=>z i (by omega) b (by omega)]
  ·rw[KI (n:=n) (by omega) λi a=>z i (by omega),z n (by omega) (by omega) (by omega)];omega
theorem Xx(f:Nat->Int)(n:Nat):((aJ n).map f).sum=sN n f:=by
 induction n with
 | zero=>rfl
 | succ n ih=>rw[dW,cZ,jT,ih];simp[sN]
abbrev Mt:=Nat->Nat->Int
noncomputable def Wt(i:Nat)(A:Mt):Mt:=λr c=>A (if r<i then r else r+1) (c+1)
noncomputable def sg:Nat->Int
 | 0=>1
 | n+1=>- sg n
noncomputable def ZV:Nat->Mt->Int
 | 0,_=>1
 | n+1,A=>sN (n+1) λi=>sg i*A i 0*ZV n (Wt i A)
theorem Z6(n:Nat)(A:Mt):ZV (n+1) A=sN (n+1) λi=>sg i*A i 0*ZV n (Wt i A):=rfl
theorem ZG:∀{n:Nat}{A B:Mt},(∀r c,r<n->c<n->A r c=B r c)->ZV n A=ZV n B
 | 0,_,_,_=>rfl
 | n+1,A,B,h=>by rw[Z6,Z6];refine Zh λi a=>?_;rw[h i 0 a (by omega),ZG (n:=n) (A:=Wt i A) (B:=Wt i B) λr c d b=>?_];unfold Wt;exact h _ _ (by split<;>omega) (by omega)
theorem QY:∀{n:Nat}{A B C:Mt}{k:Nat}{x y:Int},k<n->(∀r c,r<n->c<n->r≠k->A r c=C r c/\B r c=C r c)->(∀c,c<n->C k c=x*A k c+y*B k c)->ZV n C=x*ZV n A+y*ZV n B
 | 0,_,_,_,k,_,_,h,_,_=>by omega
 | n+1,A,B,C,k,x,y,hk,h1,h2=>by
  rw[Z6,Z6,Z6,<-ZN,<-ZN,<-Yc];refine Zh λi l=>?_;by_cases q:i=k
  ·subst q;have m:ZV n (Wt i A)=ZV n (Wt i C):=ZG λr c d a=>by unfold Wt;exact(h1 _ _ (by split<;>omega) (by omega) (by split<;>omega)).1
   have f:ZV n (Wt i B)=ZV n (Wt i C):=ZG λr c d a=>by unfold Wt;exact(h1 _ _ (by split<;>omega) (by omega) (by split<;>omega)).2
   rw[m,f,h2 0 (by omega),jR,jS];simp only[bT,dE]
  ·obtain⟨j,g⟩:=h1 i 0 l (by omega) q
   have e:ZV n (Wt i C)=x*ZV n (Wt i A)+y*ZV n (Wt i B):=QY (k:=if k<i then k else k-1) (by split<;>omega) (λr c d a b=>by
    unfold Wt
    exact h1 _ _ (by split<;>omega) (by omega) (by split at b<;>split<;>omega)) (λc a=>by
    have e:(if(if k<i then k else k-1)<i then(if k<i then k else k-1) else(if k<i then k else k-1)+1)=k:=by split<;>(try split)<;>omega
    unfold Wt;rw[e];exact h2 (c+1) (by omega))
   rw[j,g,e,jR];simp only[bT,dE]
theorem TL:∀{n:Nat}{A:Mt}{k:Nat},k+1<n->(∀c,c<n->A k c=A (k+1) c)->ZV n A=0
 | 0,_,k,h,_=>by omega
 | n+1,A,k,hk,he=>by
  rw[Z6,KI hk]
  ·have e:ZV n (Wt k A)=ZV n (Wt (k+1) A):=ZG λr c m b=>by
    unfold Wt;by_cases q:r<k
    ·rw[ju q,ju (by omega)]
    ·rw[jv q];by_cases d:r=k
     ·subst d;rw[ju (by omega)];exact(he (c+1) (by omega)).symm
     ·rw[jv (by omega)]
   rw[e,he 0 (by omega)];show sg k*_*_ + - sg k*_*_=0;rw[bS,bS];omega
  ·intro i j l g;rw[TL (n:=n) (A:=Wt i A) (k:=if k+1<i then k else k-1) (by split<;>omega) λc b=>?_,bR];have f:(if(if k+1<i then k else k-1)<i then(if k+1<i then k else k-1) else(if k+1<i then k else k-1)+1)=k:=by split<;>(try split)<;>omega
   have a:(if(if k+1<i then k else k-1)+1<i then(if k+1<i then k else k-1)+1 else(if k+1<i then k else k-1)+1+1)=k+1:=by split<;>(try split)<;>omega
   unfold Wt;rw[f,a];exact he (c+1) (by omega)
noncomputable def Yl(k:Nat)(v:Nat->Int)(A:Mt):Mt:=λr=>if r=k then v else A r
theorem ZO(k:Nat)(v:Nat->Int)(A:Mt):Yl k v A k=v:=by unfold Yl;rw[ju rfl]
theorem Yq{k r:Nat}(v:Nat->Int)(A:Mt)(h:r≠k):Yl k v A r=A r:=by unfold Yl;rw[jv h]
theorem Wk{n k:Nat}{A:Mt}{u v:Nat->Int}{x y:Int}(a:k<n):ZV n (Yl k (λc=>x*u c+y*v c) A)=x*ZV n (Yl k u A)+y*ZV n (Yl k v A):=
 QY a (λr c _ _ h=>by rw[Yq _ _ h,Yq _ _ h,Yq _ _ h];exact⟨rfl,rfl⟩) (λc _=>by rw[ZO,ZO,ZO])
noncomputable def EA(k:Nat)(A:Mt):Mt:=Yl k (A (k+1)) (Yl (k+1) (A k) A)
theorem Ig{n k:Nat}{A:Mt}(d:k+1<n):ZV n (EA k A) = - ZV n A:=by
 have two:∀u v:Nat->Int,ZV n (Yl k (λc=>1*u c+1*v c) (Yl (k+1) (λc=>1*u c+1*v c) A))=0:=λu v=>TL d λc _=>by rw[ZO,Yq _ _ (by omega),ZO]
 have same:∀u:Nat->Int,ZV n (Yl k u (Yl (k+1) u A))=0:=λu=>TL d λc _=>by rw[ZO,Yq _ _ (by omega),ZO]
 have a:∀u v:Nat->Int,Yl k u (Yl (k+1) v A)=Yl (k+1) v (Yl k u A):=λu v=>by
  funext r;unfold Yl;by_cases q:r=k
  ·rw[ju q,jv (by omega),ju q]
  ·rw[jv q];by_cases b:r=k+1
   ·rw[ju b,ju b]
   ·rw[jv b,jv b,jv q]
 have h:=two (A k) (A (k+1));rw[Wk (by omega),a,Wk d,a,Wk d,<-a,<-a,<-a,<-a,same,same] at h
 have e:Yl k (A k) (Yl (k+1) (A (k+1)) A)=A:=by
  funext r;unfold Yl;by_cases q:r=k
  ·rw[ju q,q]
  ·rw[jv q];by_cases b:r=k+1
   ·rw[ju b,b]
   ·rw[jv b]
 rw[e] at h;unfold EA;omega
theorem WM:∀(d:Nat){n i:Nat}{A:Mt},i+1+d<n->(∀c,c<n->A i c=A (i+1+d) c)->ZV n A=0
 | 0,n,i,A,h,e=>TL h e
 | d+1,n,i,A,h,e=>by
  have b:ZV n (EA (i+1+d) A)=0:=WM d (n:=n) (i:=i) (by omega) λc a=>by unfold EA;rw[Yq _ _ (by omega),Yq _ _ (by omega),ZO];exact e c a
  rw[Ig (by omega)] at b;omega
theorem WN{n i j:Nat}{A:Mt}(f:i<n)(d:j<n)(b:i≠j)(e:∀c,c<n->A i c=A j c):ZV n A=0:=by
 rcases Nat.lt_or_gt_of_ne b with h | h
 ·exact WM (j-i-1) (i:=i) (by omega) λc a=>by rw[show i+1+(j-i-1)=j by omega];exact e c a
 ·exact WM (i-j-1) (i:=j) (by omega) λc a=>by rw[show j+1+(i-j-1)=i by omega];exact(e c a).symm
theorem Ob:∀{n:Nat}{A:Mt},(∀c,c<n->A n c=0)->ZV (n+1) A=A n n*ZV n A
 | 0,A,_=>by show 0+1*A 0 0*1=A 0 0*1;omega
 | n+1,A,h=>by
  rw[Z6 (n+1)];show sN (n+1) _+sg (n+1)*A (n+1) 0*_=_;rw[h 0 (by omega),bR,b5,fP,Z6 n,<-ZN];refine Zh λi b=>?_;rw[Ob (n:=n) (A:=Wt i A) λc a=>?_]
  ·have e:Wt i A n n=A (n+1) (n+1):=by unfold Wt;rw[jv (by omega)]
   rw[e];simp only[bT,dE]
  ·unfold Wt;rw[jv (by omega)];exact h (c+1) (by omega)
theorem SU{n j:Nat}{A:Mt}{a:Nat->Int}{v:Nat->Nat->Int}(b:j<n):∀m,ZV n (Yl j (λc=>sN m λk=>a k*v k c) A)=sN m λk=>a k*ZV n (Yl j (v k) A)
 | 0=>by have:ZV n (Yl j (λc=>0*(0:Int)+0*(0:Int)) A)=0*ZV n (Yl j (λ_=>0) A)+0*ZV n (Yl j (λ_=>0) A):=Wk (u:=λ_=>0) (v:=λ_=>0) b;simp only[b5,fP] at this;exact this
 | m+1=>by have:=Wk (n:=n) (A:=A) (u:=λc=>sN m λk=>a k*v k c) (v:=v m) (x:=1) (y:=a m) b;simp only[cp] at this;show ZV n (Yl j (λc=>(sN m λk=>a k*v k c)+a m*v m c) A)=_;rw[this,SU b m];rfl
theorem Ih{n j:Nat}{A:Mt}{a:Nat->Int}(d:j<n):ZV n (Yl j (λc=>sN n λk=>a k*A k c) A)=a j*ZV n A:=by
 rw[SU d n,ZW d]
 ·have:Yl j (A j) A=A:=by funext r;unfold Yl;split<;>simp_all
  rw[this]
 ·intro i e b;rw[WN e d b λc _=>by rw[Yq _ _ b,ZO],bR]
noncomputable def Lo(n:Nat)(A:Mt)(i j:Nat):Int:=ZV n (Yl j (λc=>if c=i then 1 else 0) A)
theorem N9{n:Nat}{A:Mt}{j:Nat}(b:j<n)(v:Nat->Int):sN n (λi=>v i*Lo n A i j)=ZV n (Yl j v A):=by
 unfold Lo;rw[<-SU b n];refine ZG λr c f d=>?_;unfold Yl;split
 ·show sN n (λk=>v k*if c=k then 1 else 0)=v c;rw[ZW d]
  ·simp
  ·intro i e a;rw[jv (λz=>a z.symm),bR]
 ·rfl
theorem Ma{n:Nat}{A:Mt}{k j:Nat}(b:k<n)(a:j<n):sN n (λi=>A k i*Lo n A i j)=if k=j then ZV n A else 0:=by
 rw[N9 a];split
 ·rename_i h;subst h;have:Yl k (A k) A=A:=by funext r;unfold Yl;split<;>simp_all
  rw[this]
 ·rename_i h;exact WN b a h λc _=>by rw[Yq _ _ h,ZO]
theorem Oc(k:Nat)(A:Mt):Yl k (A k) A=A:=by funext r;unfold Yl;split<;>simp_all
theorem V9{n k:Nat}{A:Mt}(b:k<n)(h:∀c,c<n->A k c=0):ZV n A=0:=by
 have:=Wk (n:=n) (A:=A) (u:=A k) (v:=A k) (x:=0) (y:=0) b;rw[ZG (B:=A) (n:=n) λr c d a=>?_] at this
 ·simpa using this
 ·unfold Yl;split
  ·rename_i q;subst q;rw[h c a];simp
  ·rfl
theorem M9{n k j:Nat}{A:Mt}{u:Nat->Int}(e:k<n)(b:j<n)(a:j≠k)(h:∀c,c<n->u c=A j c):ZV n (Yl k u A)=0:=
 WN e b (ao a) λc d=>by rw[ZO,Yq _ _ a];exact h c d
theorem SV{n q:Nat}{A B:Mt}{k:Nat->Int}(g:q<n)(f:∀c,c<n->B q c=A q c)(h:∀r c,r<n->c<n->r≠q->B r c=A r c+k r*A q c):ZV n B=ZV n A:=by
 have m:∀t,t<=n->ZV n (λr=>if r<t then B r else A r)=ZV n A:=by
  intro t
  induction t with
  | zero=>intro _;exact ZG λr c _ _=>by simp
  | succ t ih=>
   intro o;rw[<-ih (by omega)];by_cases e:t=q
   ·subst e;refine ZG λr c b a=>?_;by_cases z:r<t
    ·rw[ju (by omega),ju z]
    ·by_cases d:r=t
     ·subst d;rw[ju (by omega),jv (by omega)];exact f c a
     ·rw[jv (by omega),jv z]
   ·have i:ZV n (λr=>if r<t+1 then B r else A r)=ZV n (Yl t (λc=>(1:Int)*A t c+k t*A q c) (λr=>if r<t then B r else A r)):=by
     refine ZG λr c b a=>?_;unfold Yl;by_cases d:r=t
     ·subst d;rw[ju rfl];rw[ju (by omega),h r c b a e,cp]
     ·rw[jv d];show(if r<t+1 then B r else A r) c=(if r<t then B r else A r) c;by_cases z:r<t
      ·rw[ju (by omega),ju z]
      ·rw[jv (by omega),jv z]
    rw[i,Wk (by omega)];have l:Yl t (A t) (λr=>if r<t then B r else A r)=λr=>if r<t then B r else A r:=by have:=Oc t (λr=>if r<t then B r else A r);simp only[bh,if_false] at this;exact this
    rw[l,M9 (j:=q) (by omega) g (ao e) (λc a=>by
     split
     ·rw[f c a]
     ·rfl)]
    omega
 rw[<-m n (aH n)];exact ZG λr c b _=>by rw[ju b]
abbrev Dk:=Nat×Nat
noncomputable def ind(a b:Nat):Int:=if a=b then 1 else 0
noncomputable def dl(e:Dk)(y:Nat):Int:=ind e.1 y-ind e.2 y
open L2 VL
theorem F7{f g:XS}{s:ZA}{v:PV}(a:f s=aA (.rt v)):Zq f g s=aA (.rt v):=by rw[PL,a];rfl
noncomputable def Yn(ns:List Int)(k:Nat):Int:=if k<ns.length then Xa ns k else((k:Int)*k+3*k+1)*5003%1999
section
variable {s:ZA} {f g:XE} {a b:Int} {C:Int->Int->Prop} [∀i j,Decidable (C i j)] {op:Int->Int->Int}
theorem vC(e:f s=aA (.int a))(d:g s=aA (.int b))(c:C a b):Zj (MJ C op) f g s=aA (.int (op a b)):=by rw[Tv,e,d];simp only[a9,GL,ju c]
theorem vI(d:f s=aA (.int a))(c:g s=aA (.int b)):Zj (gI op) f g s=aA (.int (op a b)):=by rw[Tv,d,c];rfl
theorem vP(b:f s=aA (.int a)):eP f s=aA (.int a):=by rw[Si,b];rfl
theorem Ii{v:PV}(a:f s=aA v):ZY f s=aA (.rt v):=by rw[Kc,a];rfl
end
theorem W7{a:List Int}(h:a.length<=63){k:Nat}(c:k<=100):Z5 [.cst (iL a),.int (k:Int)]=aA (.int (Yn a k)):=by
 unfold Yn;by_cases q:k<a.length
 ·simp[Z5,V5,Xg,ZQ,q,Vm q]
 ·have c1:CMul (k:Int) (k:Int):=GQ (by omega) (by omega);have c2:CMul 3 (k:Int):=.inl (by omega);have c3:CMul ((k:Int)*k+3*k+1) 5003:=.inr (by omega);have b:Q6 (xB (Zj JN (Za 1) (Zc Yo [Za 0]))) (ZY (eP (Zj ZT (Za 0) (Za 1)))) YZ [aA (.cst (iL a)),aA (.int (k:Int))]=aA (.nx [aA (.cst (iL a)),aA (.int (k:Int))]):=by simp[q]
  show Xg 2 V5 _=_;unfold V5;show(Zq _ _ [aA (.cst (iL a)),aA (.int (k:Int))]).bind O1=_;rw[Y9 b,jv q,Ii (vP (vC (vC (vI (vI (vC rfl rfl c1) (vC rfl rfl c2)) rfl) rfl c3) rfl (by decide)))];rfl
theorem Xy(c:Int){t m:Nat}(H:t<=100)(A:0<m):∃v:Nat,v<m/\Zu [.int c,.int (t:Int),.int (m:Int)]=aA (.int (v:Int)):=by
 have j:(0:Int)<(m:Int):=by omega
 have a:∀x:Int,∃v:Nat,v<m/\x%(m:Int)=(v:Int):=λx=>by have w:=gx x (show(m:Int)≠0 by omega);have b:=fu x j;exact⟨(x%(m:Int)).toNat,by omega,by omega⟩
 have C:Zx 3 (eP (Zj OL (Za 0) (eC (.int 2)))) [aA (.int c),aA (.int (t:Int)),aA (.int (m:Int)),none,none]=aA (.nx [aA (.int c),aA (.int (t:Int)),aA (.int (m:Int)),aA (.int (c/2)),none]):=by simp[OD]
 show ∃v:Nat,v<m/\Xg 5 Sw _=_;unfold Sw;show ∃v:Nat,v<m/\(Zq _ _ [aA (.int c),aA (.int (t:Int)),aA (.int (m:Int)),none,none]).bind O1=_;rw[Y9 C];by_cases q:c%2=1/\1000000000<c
 ·obtain⟨F,b,x,y,e⟩:=Xh (T:=.one 4) (fb:=Zx 3 (eP (Zj OL (Za 3) (eC (.int 1000))))) (ls:=Uy t) (s:=[aA (.int c),aA (.int (t:Int)),aA (.int (m:Int)),aA (.int (c/2)),none])
   (λi st=>∃x y,st=[aA (.int c),aA (.int (t:Int)),aA (.int (m:Int)),aA (.int x),y]) ⟨_,_,rfl⟩ (by
    rintro i l st D ⟨x,y,rfl⟩;obtain⟨I,rfl⟩:=V3 D;refine⟨_,_,rfl,?_,x/1000,aA (.int (i:Int)),rfl⟩;simp[OD])
  subst e;obtain⟨v,u,o⟩:=a x;refine⟨v,u,?_⟩;have B:ZR [Za 1] [aA (.int c),aA (.int (t:Int)),aA (.int (m:Int)),aA (.int (c/2)),none]=aA (Uy t):=ZP (by simp) (by omega);have E:YB [] (ZR [Za 1]) (.one 4) (Zx 3 (eP (Zj OL (Za 3) (eC (.int 1000))))) [aA (.int c),aA (.int (t:Int)),aA (.int (m:Int)),aA (.int (c/2)),none]=aA (.nx [aA (.int c),aA (.int (t:Int)),aA (.int (m:Int)),aA (.int x),y]):=by show(ZR [Za 1] [aA (.int c),aA (.int (t:Int)),aA (.int (m:Int)),aA (.int (c/2)),none]).bind _=_;rw[B];exact b
  rw[F7 (v:=.int (v:Int))]
  ·rfl
  ·rw[Wc];have:(Pq (xB (Zj (WX aB) (Zj Vl (Za 0) (eC (.int 2))) (eC (.int 1)))) (xB (Zj MK (Za 0) (Zj JM (eC (.int 10)) (eC (.int 9)))))) [aA (.int c),aA (.int (t:Int)),aA (.int (m:Int)),aA (.int (c/2)),none]=aA aC:=by simp[q.1,Mz,q.2]
   rw[this];simp only[a9,if_true];rw[Y9 E];simp[A,o]
 ·have:(Pq (xB (Zj (WX aB) (Zj Vl (Za 0) (eC (.int 2))) (eC (.int 1)))) (xB (Zj MK (Za 0) (Zj JM (eC (.int 10)) (eC (.int 9)))))) [aA (.int c),aA (.int (t:Int)),aA (.int (m:Int)),aA (.int (c/2)),none]=aA aB:=by
   by_cases g:c%2=1
   ·have:¬1000000000<c:=λz=>q ⟨g,z⟩;simp[g,Mz,this]
   ·simp[g]
  rw[Y9 (s1:=[aA (.int c),aA (.int (t:Int)),aA (.int (m:Int)),aA (.int (c/2)),none]) (by rw[Wc,this];rfl)];generalize f:c/2%999979+1009*(t:Int)=x1;have G:0<=x1/\x1<2000000:=by have w:=gx (c/2) (show(999979:Int)≠0 by decide);have b:=fu (c/2) (show(0:Int)<999979 by decide);omega
  generalize p:(x1*x1+40503*x1)%999983=x2;have J:0<=x2/\x2<2000000:=by have w:=gx (x1*x1+40503*x1) (show(999983:Int)≠0 by decide);have b:=fu (x1*x1+40503*x1) (show(0:Int)<999983 by decide);omega
  have d:CMul 1009 (t:Int):=.inl (by omega);have r:CMul x1 x1:=.inl (by omega);have k:CMul 40503 x1:=.inl (by omega);have h:CMul x2 x2:=.inl (by omega);have n:CMul 7 (t:Int):=.inl (by omega);obtain⟨v,u,o⟩:=a ((x2*x2+7*(t:Int))%999961/11);refine⟨v,u,?_⟩;rw[Y9 (s1:=[aA (.int c),aA (.int (t:Int)),aA (.int (m:Int)),aA (.int x1),none]) (by simp[d,f]),Y9 (s1:=[aA (.int c),aA (.int (t:Int)),aA (.int (m:Int)),aA (.int x2),none]) (by simp[r,k,p])];simp[h,n,OD,A,o]
noncomputable def SW(M:List (List Int))(a b:Nat)(t:Int):List (List Int):=Ut (Ut M a b t) b a t
theorem TM{n:Nat}{M:List (List Int)}{a b:Nat}{t:Int}(ok:MatOk n M)(c:a<n)(d:b<n)(i j:Nat):ent (SW M a b t) i j=if b=i/\a=j then t else if a=i/\b=j then t else ent M i j:=by obtain⟨f,e⟩:=X4 ok.len ok.row c;unfold SW;rw[Pp f e d c,Pp ok.len ok.row c d]
theorem KJ{n:Nat}{M:List (List Int)}{a b:Nat}{t:Int}(ok:MatOk n M)(g:a<n)(f:b<n)(e:a≠b)(o:0<=t)(q:t<=9):MatOk n (SW M a b t):=by
 obtain⟨l,h⟩:=X4 ok.len ok.row g;obtain⟨k,m⟩:=X4 l h f;have E:=TM (t:=t) ok g f;refine⟨k,m,λi j c d=>?_,λi j c d=>?_,λi j c d=>?_,λi c=>?_⟩
 ·have:=ok.lo i j c d;rw[E];split<;>(try split)<;>omega
 ·have:=ok.hi i j c d;rw[E];split<;>(try split)<;>omega
 ·have:=ok.sym i j c d;rw[E,E];by_cases p:b=i/\a=j
  ·rw[ju p];by_cases p2:b=j/\a=i
   ·rw[ju p2]
   ·rw[jv p2,ju ⟨p.2,p.1⟩]
  ·rw[jv p];by_cases p2:a=i/\b=j
   ·rw[ju p2,ju ⟨p2.2,p2.1⟩]
   ·rw[jv p2,jv (λz=>p2 ⟨z.2,z.1⟩),jv (λz=>p ⟨z.2,z.1⟩)];exact this
 ·rw[E,jv (λz=>e (by omega)),jv (λz=>e (by omega))];exact ok.dia i c
theorem Od{n:Nat}{M:List (List Int)}{a b:Nat}{k:Int}(ok:MatOk n M)(e:a<n)(f:b<n):Wd [.lst (rL M),.int (a:Int),.int (b:Int),.int k]=aA (.lst (rL (SW M a b (if ent M a b+k<9 then ent M a b+k else 9)))):=by
 have g:(rL M).length=n:=by unfold rL;rw[aS];exact ok.len
 generalize s:(if ent M a b+k<9 then ent M a b+k else 9)=t;have p:Um (rL M) (a:Int)=aA (.lst (iL (Zr M a))):=WT (Nk (by rw[ok.len];exact e));have q:Um (iL (Zr M a)) (b:Int)=aA (.int (ent M a b)):=Vm (by rw[ok.row a e];exact f);have h:=X4 (t:=t) (b:=b) ok.len ok.row e;have d:(rL (Ut M a b t)).length=n:=by unfold rL;rw[aS];exact h.1
 have o:Zx 4 (eP (Zc Py [eC (.int 9),Zj Yd (Zj ZT (Zj ZT (Za 0) (Za 1)) (Za 2)) (Za 3)])) [aA (.lst (rL M)),aA (.int (a:Int)),aA (.int (b:Int)),aA (.int k),none]=aA (.nx [aA (.lst (rL M)),aA (.int (a:Int)),aA (.int (b:Int)),aA (.int k),aA (.int t)]):=by simp[p,q,s]
 have i:Wb 0 (Za 1) (Za 2) (Za 4) [aA (.lst (rL M)),aA (.int (a:Int)),aA (.int (b:Int)),aA (.int k),aA (.int t)]=aA (.nx [aA (.lst (rL (Ut M a b t))),aA (.int (a:Int)),aA (.int (b:Int)),aA (.int k),aA (.int t)]):=by rw[Sq (l:=.int t) (a:=(a:Int)) (b:=(b:Int)) (j:=a) (c:=b) (m:=rL M) (n:=iL (Zr M a)) rfl rfl rfl rfl (W4 (by rw[g];exact e)) (Nk (by rw[ok.len];exact e)) (Z1 _) rfl (W4 (by rw[aS,ok.row a e];exact f)),KG];rfl
 have r:Wb 0 (Za 2) (Za 1) (Za 4) [aA (.lst (rL (Ut M a b t))),aA (.int (a:Int)),aA (.int (b:Int)),aA (.int k),aA (.int t)]=aA (.nx [aA (.lst (rL (SW M a b t))),aA (.int (a:Int)),aA (.int (b:Int)),aA (.int k),aA (.int t)]):=by rw[Sq (l:=.int t) (a:=(b:Int)) (b:=(a:Int)) (j:=b) (c:=a) (m:=rL (Ut M a b t)) (n:=iL (Zr (Ut M a b t) b)) rfl rfl rfl rfl (W4 (by rw[d];exact f)) (Nk (by rw[h.1];exact f)) (Z1 _) rfl (W4 (by rw[aS,h.2 b f];exact e)),KG];rfl
 show Fl 5 TC _=_;unfold Fl;rw[ju (by rfl)];unfold TC;show(Zq _ _ [aA (.lst (rL M)),aA (.int (a:Int)),aA (.int (b:Int)),aA (.int k),none]).bind F5=_;rw[Y9 o,Y9 i,r];rfl
theorem Mb{i:Nat}{D:List PV->Option PV}{fs:List XE}{s:ZA}{l0 l':PV}{ls:List PV}(b:s[i]?=aA (aA l0))(d:Tg fs s=aA ls)(c:Zw ls=aC)(a:D (l0::ls)=aA l'):PU i D fs s=aA (.nx (s.set i (aA l'))):=by unfold PU;rw[b];simp only[d,a9,c,if_true,a,dX]
theorem La{s:ZA}{n:Nat}(h:s[3]?=aA (aA (.int (n:Int))))(a:n<=7):Zt 1 [3] (ZR [Za 3]) (.one 0) ZF (Zj PK (VH [eC (.int 0)]) (Za 1)) s=aA (.lst (rL (aU n (aU n 0)))):=by
 rw[Z2 (aJ n) (λi=>.int (i:Int)) (λ_=>.lst (iL (aU n 0))) (ZP (by simp[h]) (by omega)) (by simp;omega) (λi _=>⟨_,rfl,rfl,?_⟩)]
 ·unfold rL;rw[List.map_const',b0,List.map_replicate]
 ·have e:PK (.lst [.int 0]) (.int (n:Int))=aA (.lst (iL (aU n 0))):=by show(if Zw [PV.int 0]=aC/\(-1000000:Int)<=(n:Int)/\(n:Int)<=1000000/\[PV.int 0].length*((n:Int)).toNat<=10000 then aA (PV.lst (aU ((n:Int)).toNat [PV.int 0]).flatten) else none)=_;rw[ju ⟨rfl,by omega,by omega,by simp;omega⟩];simp
  simp[ZU,h,e]
noncomputable def Grown(M:List (List Int))(l:List Int)(k:Nat):Prop:=∀j,1<=j->j<k->∃j',j'<j/\0<ent M (Xa l j).toNat (Xa l j').toNat
theorem Grown.mono{M c:List (List Int)}{l:List Int}{k:Nat}(h:Grown M l k)(g:∀i j,0<ent M i j->0<ent c i j):Grown c l k:=λj e d=>by obtain⟨f,a,b⟩:=h j e d;exact⟨f,a,g _ _ b⟩
theorem Grown.conn{M:List (List Int)}{l:List Int}{n:Nat}(h:Grown M l n)(s:M.length=n)(d:NamesOk n l):SS M:=by
 intro P t i j g m;rw[s] at g m;have lt:∀x,x<n->(Xa l x).toNat<M.length:=λx c=>by have:=d.at c;omega
 have all:∀k,k<n->(P (Xa l k).toNat↔P (Xa l 0).toNat):=by
  intro k
  induction k using Nat.strongRecOn with
  | ind k ih=>
   intro o;by_cases q:k=0
   ·subst q;exact Iff.rfl
   ·obtain⟨p,a,b⟩:=h k (by omega) o;exact(t _ _ (lt k o) (lt p (by omega)) b).trans (ih p a (by omega))
 have f:∀i,i<n->∃x,x<n/\(Xa l x).toNat=i:=λi g=>by have:=Dj d.nd (λx c=>⟨x.toNat,by have:=d.hi x c;omega,by have:=d.lo x c;omega⟩) d.len g;obtain⟨x,c,e⟩:=Ie this;exact⟨x,by rw[<-d.len];exact c,by rw[e];rfl⟩
 obtain⟨x,c,rfl⟩:=f i g;obtain⟨y,r,rfl⟩:=f j m;exact(all x c).trans (all y r).symm
theorem Mc{n:Nat}{M:List (List Int)}{a b:Nat}{t:Int}(ok:MatOk n M)(e:a<n)(d:b<n)(c:0<t):(∀i j,0<ent M i j->0<ent (SW M a b t) i j)/\0<ent (SW M a b t) a b:=by
 refine⟨λi j h=>?_,?_⟩
 ·rw[TM ok e d];split
  ·exact c
  ·split
   ·exact c
   ·exact h
 ·rw[TM ok e d];split
  ·exact c
  ·rw[ju ⟨rfl,rfl⟩];exact c
noncomputable def Xm(ns:List Int)(mo n:Nat)(M:List (List Int))(sp:List Int)(x6 x7 x8 x9:Option PV):ZA:=[aA (.cst (iL ns)),aA (.int (mo:Int)),aA (.int (Yn ns 0)),aA (.int (n:Int)),aA (.lst (rL M)),aA (.lst (iL sp)),x6,x7,x8,x9]
abbrev EB:XS:=VZ 5 (Zc Zu [Zc Z5 [Za 0,Zj Yd (eC (.int 6)) (Za 6)],eC (.int 10),Zj Yd (Za 6) (eC (.int 1))]) (Za 6)
abbrev EC:XS:=Zq (Zx 7 (Zc Z5 [Za 0,Za 6]))
  (PU 4 Wd [Zj ZT (Za 5) (Za 6),Zj ZT (Za 5) (Zc Zu [Za 7,eC (.int 1),Za 6]),Zj Yd (eC (.int 1)) (Zc Zu [Za 7,eC (.int 2),eC (.int 3)])])
abbrev ED:XS:=(Zq (Zx 7 (Zc Z5 [Za 0,Zj Yd (eC (.int 7)) (Za 6)]))
  (Zq (Zx 8 (Zc Zu [Za 7,eC (.int 4),Za 3]))
  (Zq (Zx 9 (eP (Zj Vl (Zj Yd (Zj Yd (Za 8) (eC (.int 1))) (Zc Zu [Za 7,eC (.int 5),Zj Wx (Za 3) (eC (.int 1))])) (Za 3))))
  (PU 4 Wd [Za 8,Za 9,Zj Yd (eC (.int 1)) (Zc Zu [Za 7,eC (.int 6),eC (.int 2)])]))))
theorem G0{a:List Int}{mo n:Nat}{M:List (List Int)}{sp:List Int}{x7 x8 x9:Option PV}{i:Nat}(b:a.length<=63)(h:i<7)(c:NamesOk i sp) :
  ∃sp',NamesOk (i+1) sp'/\EB (Xm a mo n M sp (aA (.int (i:Int))) x7 x8 x9)=aA (.nx (Xm a mo n M sp' (aA (.int (i:Int))) x7 x8 x9)):=by
 obtain⟨v,j,d⟩:=Xy (Yn a (6+i)) (t:=10) (m:=i+1) (by omega) (by omega);have e:=W7 b (k:=6+i) (by omega);refine⟨sp.take v++(i:Int)::sp.drop v,c.ins v,?_⟩;unfold EB;rw[O5 (k:=(v:Int)) (l:=.int (i:Int)) (m:=iL sp) ?_ rfl rfl (Z1 sp) rfl (by omega) (by omega) (by rw[aS,c.len];omega),eZ,GY]
 ·rfl
 ·have g:((6+i:Nat):Int)=6+(i:Int):=by omega
  have f:((i+1:Nat):Int)=(i:Int)+1:=by omega
  rw[g] at e;rw[f] at d;simp[Xm,e];exact d
noncomputable def nL(l:List Nat):List Int:=l.map λ(i:Nat)=>(i:Int)
theorem R8{d:Type}{T:Tgt}{fb:XS}{q g:d->PV}{c:d->Bool}(S:ZA->Prop):∀{ls:List d}{s:ZA},(∀a∈ls,∀s,S s->∃s1,Yu T (q a) s=aA s1/\((c a=aC->fb s1=aA (.rt (g a)))/\(c a=aB->∃s2,fb s1=aA (.nx s2)/\S s2)))->S s->
  match ls.find? c with | some a=>Wr T fb (ls.map q) s=aA (.rt (g a)) | none=>∃s',Wr T fb (ls.map q) s=aA (.nx s')/\S s'
 | [],s,_,h0=>⟨s,rfl,h0⟩
 | a::r,s,h,h0=>by
  obtain⟨s1,f,n,m⟩:=h a a0 s h0;rw[List.find?_cons]
  cases ca:c a with
  | true=>
   show Wr T fb (q a::r.map q) s=_;unfold Wr;rw[f];simp only[a9,n ca]
  | false=>
   obtain⟨s2,i,l⟩:=m ca;have k:=R8 S (ls:=r) (s:=s2) (λb j=>h b (aV _ j)) l
   have e:Wr T fb ((a::r).map q) s=Wr T fb (r.map q) s2:=by
    show Wr T fb (q a::r.map q) s=_;unfold Wr;rw[f];simp only[a9,i];cases r.map q<;>rfl
   rw[e];exact k
end PW
set_option maxHeartbeats 2000000
namespace PW
open PySem L2 VL VX
section
variable {f g h k l:XE} {s s1:ZA} {a b c d e v r:PV} {i m:Nat} {F G:XS} {x y:XT} {o:Option Out} {p:Bool} {D:List PV->Option PV} {R:Option PV} {ls:List PV}
theorem YU(q:F (ZQ m ls)=aA (.rt v)):Xg m F ls=aA v:=by show(F (ZQ m ls)).bind O1=_;rw[q];rfl
theorem sq(q:F s=aA (.nx s1))(w:G s1=o):Zq F G s=o:=(Y9 q).trans w
theorem Zz(q:f s=aA v):Zx i f s=aA (.nx (s.set i (aA v))):=by rw[Sj,q];rfl
theorem ep(q:f s=aA v)(w:ZJ v=aC:=by rfl):eP f s=aA v:=by rw[Si,q,a9,ju w]
theorem F8{l:List Int}(q:f s=aA (pP l)):eP f s=aA (pP l):=ep q (Z1 _)
theorem c1(q:f s=aA a)(w:D [a]=R):Zc D [f] s=R:=by show((f s).bind λx=>aA [x]).bind D=_;rw[q];exact w
theorem c2(q:f s=aA a)(c:g s=aA b)(w:D [a,b]=R):Zc D [f,g] s=R:=by rw[YG,ZK,q,ZK,c];exact w
theorem c3(q:f s=aA a)(d:g s=aA b)(e:h s=aA c)(w:D [a,b,c]=R):Zc D [f,g,h] s=R:=by rw[YG,ZK,q,ZK,d,ZK,e];exact w
theorem c4(q:f s=aA a)(i:g s=aA b)(j:h s=aA c)(e:k s=aA d)(w:D [a,b,c,d]=R):Zc D [f,g,h,k] s=R:=by rw[YG,ZK,q,ZK,i,ZK,j,ZK,e];exact w
theorem c5(q:f s=aA a)(j:g s=aA b)(m:h s=aA c)(i:k s=aA d)(n:l s=aA e)(w:D [a,b,c,d,e]=R):Zc D [f,g,h,k,l] s=R:=by rw[YG,ZK,q,ZK,j,ZK,m,ZK,i,ZK,n];exact w
theorem o2{op:PV->PV->Option PV}(q:f s=aA a)(c:g s=aA b)(w:op a b=R):Zj op f g s=R:=by rw[Tv,q,c];exact w
theorem xb(q:f s=aA (.bl p)):xB f s=aA p:=by rw[GN,q];rfl
theorem xn(q:x s=aA p):OO x s=aA !p:=by rw[Ka,q];rfl
theorem xo{p2:Bool}(q:x s=aA p)(a:y s=aA p2):K9 x y s=aA (p || p2):=by
 rw[JX,q];cases p
 ·exact a
 ·rfl
theorem ea{p2:Bool}(q:f s=aA (.bl p))(a:g s=aA (.bl p2)):Tf f g s=aA (.bl (p&&p2)):=by
 rw[Kb,xb q];cases p
 ·rfl
 ·exact a
theorem F9(q:x s=aA aB):Q6 x F YZ s=aA (.nx s):=by rw[Wc,q];rfl
theorem ret(q:f s=aA v):ZY f s=aA (.rt v):=Ii q
end
noncomputable def Yv(F:XS)(s:ZA)(Q:PV->Prop):Prop:=∃v,F s=aA (.rt v)/\Q v
noncomputable def Xn(F:XS)(s:ZA)(R:ZA->Prop):Prop:=∃s1,F s=aA (.nx s1)/\R s1
section
variable {F G:XS} {s s1:ZA} {Q:PV->Prop} {R:ZA->Prop} {v:PV} {f g:XE} {x:XT} {p:Bool} {m i k n:Nat} {ls:List PV} {O:List Nat} {fi:XL} {T:Tgt} {fb:XS} {a b:Int}
theorem SX(h:Yv F (ZQ m ls) Q):∃v,Xg m F ls=aA v/\Q v:=by obtain⟨v,e,q⟩:=h;exact⟨v,YU e,q⟩
theorem Md(h:Yv F (ZQ m ls) λw=>w=v):Xg m F ls=aA v:=by obtain⟨_,e,rfl⟩:=SX h;exact e
theorem ZX(q:F s=aA (.nx s1))(h:Yv G s1 Q):Yv (Zq F G) s Q:=by obtain⟨v,e,a⟩:=h;exact⟨v,sq q e,a⟩
theorem Ua(h:Xn F s R)(a:∀s1,R s1->Yv G s1 Q):Yv (Zq F G) s Q:=by obtain⟨s1,e,r⟩:=h;exact ZX e (a s1 r)
theorem XQ(q:f s=aA v)(h:Q v):Yv (ZY f) s Q:=⟨v,ret q,h⟩
theorem Me(q:F s=aA (.nx s1))(h:R s1):Xn F s R:=⟨s1,q,h⟩
theorem U6(q:F s=aA (.nx s1))(h:Xn G s1 R):Xn (Zq F G) s R:=by obtain⟨s2,e,r⟩:=h;exact⟨s2,sq q e,r⟩
theorem KN{R2:ZA->Prop}(h:Xn F s R)(a:∀s1,R s1->Xn G s1 R2):Xn (Zq F G) s R2:=by obtain⟨s1,e,r⟩:=h;exact U6 e (a s1 r)
theorem Ij{R2:ZA->Prop}(h:Xn F s R)(a:∀s1,R s1->R2 s1):Xn F s R2:=by obtain⟨s1,e,r⟩:=h;exact⟨s1,e,a s1 r⟩
theorem Hh(q:x s=aA p)(b:p=aC->Xn F s R)(a:p=aB->Xn G s R):Xn (Q6 x F G) s R:=by
 unfold Xn;rw[Wc,q];cases p
 ·exact a rfl
 ·exact b rfl
theorem Nm(I:Nat->ZA->Prop)(g:fi (Yg O s)=aA ls)(f:I 0 s)(st:∀i l s,ls[i]?=aA l->I i s->∃s1,Yu T l s=aA s1/\Xn fb s1 (I (i+1))):Xn (YB O fi T fb) s (I ls.length):=by
 obtain⟨b,e,q⟩:=Xh I f λi l s c h=>by obtain⟨s1,j,s2,a,d⟩:=st i l s c h;exact⟨s1,s2,j,a,d⟩
 refine⟨b,?_,q⟩;unfold YB;rw[g];exact e
theorem Mf(I:Nat->ZA->Prop)(e:f (Yg O s)=aA (.int (n:Int)))(c:I 0 s)(st:∀i s,i<n->I i s->Xn fb (s.set k (aA (.int (i:Int)))) (I (i+1)))(b:n<=10000:=by omega):Xn (YB O (ZR [f]) (.one k) fb) s (I n):=by
 have:=Nm (T:=.one k) (fb:=fb) I (ZP e b) c λi l s a h=>by obtain⟨d,rfl⟩:=V3 a;exact⟨_,rfl,st i s d h⟩
 rwa [Sl] at this
theorem Ik{d:Type}{L:List d}{q g:d->PV}(c:d->Bool)(I:ZA->Prop)(j:fi (Yg O s)=aA (L.map q))(l:I s)(st:∀a∈L,∀s,I s->∃s1,Yu T (q a) s=aA s1/\(c a=aC->fb s1=aA (.rt (g a)))/\(c a=aB->Xn fb s1 I))(f:∀a,L.find? c=aA a->Q (g a))(m:L.find? c=none->∀s1,I s1->Yv G s1 Q):Yv (Zq (YB O fi T fb) G) s Q:=by
 have b:=R8 (T:=T) (fb:=fb) (g:=g) I st l;have e:∀o,Wr T fb (L.map q) s=o->YB O fi T fb s=o:=λo h=>by unfold YB;rw[j];exact h
 cases z:L.find? c with
 | some a=>rw[z] at b;exact⟨_,F7 (e _ b),f a z⟩
 | none=>
  rw[z] at b;obtain⟨s1,k,i⟩:=b;exact ZX (e _ k) (m z s1 i)
theorem DY{o:Option Out}(q:x s=aA aC)(w:F s=o):Q6 x F G s=o:=by rw[Wc,q];exact w
theorem Ea{b:Type}{L:List b}{q g:b->PV}{H:XS}(c:b->Bool)(I:ZA->Prop)(j:fi (Yg O s)=aA (L.map q))(k:I s)(st:∀a∈L,∀s,I s->∃s1,Yu T (q a) s=aA s1/\x s1=aA (c a)/\H s1=aA (.rt (g a))/\I s1)(m:∀a,L.find? c=aA a->Q (g a))(n:L.find? c=none->∀s1,I s1->Yv G s1 Q):Yv (Zq (YB O fi T (Q6 x H YZ)) G) s Q:=
 Ik (g:=g) c I j k (λa o s i=>by
  obtain⟨s1,e,d,f,l⟩:=st a o s i;exact⟨s1,e,λh=>DY (by rw[d,h]) f,λh=>Me (F9 (by rw[d,h])) l⟩) m n
theorem Eb{X:List Nat}(I:Nat->ZA->Prop)(a:fi (Yg O s)=aA (iL (nL X)))(c:I 0 s)(st:∀i s (h:i<X.length),I i s->Xn fb (s.set k (aA (.int ((X[i]:Nat):Int)))) (I (i+1))):Xn (YB O fi (.one k) fb) s (I X.length):=by
 have:=Nm (T:=.one k) (fb:=fb) I a c λi l s b h=>by
  have a:i<X.length:=by have:=(aW.mp b).1;simpa [nL] using this
  have e:l = .int ((X[i]:Nat):Int):=by rw[O3 (by simpa [nL] using a)] at b;rw[<-aq b];simp[nL,Xa,a]
  subst e;exact⟨_,rfl,st i s a h⟩
 rwa [show(iL (nL X)).length=X.length by simp[nL]] at this
theorem DZ(q:f s=aA (.int a))(c:g s=aA (.int b))(h:0<b:=by omega):Zj Vl f g s=aA (.int (a%b)):=vC q c h
theorem Dl(q:f s=aA (.int a))(c:g s=aA (.int b)):Zj Yd f g s=aA (.int (a+b)):=vI q c
theorem DJ(q:f s=aA (.int a))(c:g s=aA (.int b)):Zj Wx f g s=aA (.int (a-b)):=vI q c
theorem D3{a b:Nat}(q:f s=aA (.int (a:Int)))(c:g s=aA (.int (b:Int))):Zj JN f g s=aA (.bl (decide (a<b))):=o2 q c (by
 show aA (PV.bl (decide ((a:Int)<(b:Int))))=_;rw[decide_eq_decide.mpr Int.ofNat_lt])
theorem Dm{a b:Nat}(q:f s=aA (.int (a:Int)))(c:g s=aA (.int (b:Int))):Zj MK f g s=aA (.bl (decide (b<a))):=o2 q c (by
 show aA (PV.bl (decide ((a:Int)>(b:Int))))=_;rw[decide_eq_decide.mpr Int.ofNat_lt])
theorem Hi(q:f s=aA (.int a))(c:g s=aA (.int b)):Zj (WX aB) f g s=aA (.bl (decide (a=b))):=o2 q c (by rw[Sk];rfl)
theorem DK{op:PV->Option PV}{S:Option PV}(q:f s=aA v)(w:op v=S):Gx op f s=S:=by unfold Gx;rw[q];exact w
theorem Hj{S:Option PV}(q:x s=aA aC)(w:f s=S):Gv x f g s=S:=by rw[N2,q];exact w
theorem Hk{S:Option PV}(q:x s=aA aB)(w:g s=S):Gv x f g s=S:=by rw[N2,q,a9,jv (by decide)];exact w
theorem Mg{a:Type}(h:a->PV){L:List a}{y:a}(q:f s=aA (h y))(b:Lk s i=aA (L.map h))(c:L.length<=9000):Xu i f s=aA (.nx (s.set i (aA (.lst ((L++[y]).map h))))):=by rw[So q b (by rw[aS];omega),cZ];rfl
theorem G1(Q:List Int):Wz (iL Q)=(aJ Q.length).map λ(i:Nat)=>.tup [.int (i:Int),.int (Xa Q i)]:=by
 rw[U5,aS];exact bN λi a=>by rw[Tx Q i (aX.mp a)]
theorem Oe{W:List (List Int)}:Yo [wP W]=aA (.int (W.length:Int)):=by show aA (PV.int ((W.map pP).length:Int))=_;rw[aS]
end
end PW
namespace PW
theorem UU{f:Nat->Int}{q:Nat}:∀{m:Nat},q<=m->(∀k,q<=k->k<m->f k=0)->sN m f=sN q f
 | 0,h,_=>by rw[show q=0 by omega]
 | m+1,h,z=>by
  by_cases e:q=m+1
  ·rw[e]
  ·show sN m f+f m=_;rw[UU (m:=m) (by omega) (λk a b=>z k a (by omega)),z m (by omega) (by omega)];omega
theorem Mh{f:Nat->Int}{q i:Nat}:∀{m:Nat},q<=i->i<m->(∀k,q<=k->k<m->k≠i->f k=0)->sN m f=sN q f+f i
 | 0,_,h,_=>by omega
 | m+1,hq,hi,z=>by
  show sN m f+f m=_;by_cases e:i=m
  ·subst e;rw[UU (q:=q) (by omega) λk a b=>z k a (by omega) (by omega)]
  ·rw[Mh (m:=m) hq (by omega) (λk a b=>z k a (by omega)),z m (by omega) (by omega) (λq=>e q.symm)];omega
noncomputable def Lp(m:Nat)(X:Mt):Nat->Mt×Int
 | 0=>(X,1)
 | p+1=>(λi j=>if i=p then(Lp m X p).1 i j else((Lp m X p).1 p p*(Lp m X p).1 i j-(Lp m X p).1 i p*(Lp m X p).1 p j).fdiv (Lp m X p).2,(Lp m X p).1 p p)
structure Ec(m:Nat)(A X:Mt):Prop where
 sym:∀i j,i<m->j<m->A i j=A j i
 inj:∀p,p<=m->∀z:Nat->Int,(∀j,j<p->sN p (λk=>z k*A k j)=0)->∀k,k<p->z k=0
 ext:∀i j,i<m->j<m->X i j=A i j
structure Dn(m p:Nat)(X:Mt)(E:Mt)(d:Int)(i:Nat)(a:Nat->Int):Prop where
 off:∀k,k<m->p<=k->k≠i->a k=0
 on:p<=i->a i=d
 val:∀j,j<=m->E i j=sN m (λk=>a k*X k j)
 uni:∀j,j<p->E i j=if i=j then d else 0
structure Il(m:Nat)(A X:Mt)(p:Nat)(E:Mt)(d:Int):Prop where
 de:d=ZV p A
 nz:d≠0
 row:∀i,i<m->∃a,Dn m p X E d i a
theorem SY{m:Nat}{A X:Mt}{p:Nat}{E:Mt}{d:Int}(ok:Ec m A X)(W:p<m)(I:Il m A X p E d) :
  Il m A X (p+1) (λi j=>if i=p then E i j else(E p p*E i j-E i p*E p j).fdiv d) (E p p)/\∀i j,i<m->j<=m->i≠p->∃q,E p p*E i j-E i p*E p j=d*q:=by
 obtain⟨v,t⟩:=I.row p W;have R:=I.nz
 -- the pivot's row
 have x:∀j,j<m->E p j=sN (p+1) (λk=>v k*A k j):=λj g=>by
  rw[t.val j (by omega),UU (q:=p+1) (by omega) λk u w=>by rw[t.off k w (by omega) (by omega),b5]];exact Zh λk f=>by rw[ok.ext k j (by omega) g]
 have Y:E p p=ZV (p+1) A:=by
  have u:=Ih (n:=p+1) (j:=p) (A:=A) (a:=v) (by omega);have w:=Ob (A:=Yl p (λc=>sN (p+1) λk=>v k*A k c) A) λc Z=>by rw[ZO];rw[<-x c (by omega),t.uni c Z,jv (by omega)]
  have Q:ZV p (Yl p (λc=>sN (p+1) λk=>v k*A k c) A)=ZV p A:=ZG λr c hr Z=>by rw[Yq _ _ (by omega)]
  rw[ZO,Q,u,t.on (aH p),<-I.de] at w;have h4:d*ZV (p+1) A=E p p*d:=by rw[w];rw[<-x p W]
  have h5:d*(ZV (p+1) A)=d*E p p:=by rw[h4,bD]
  exact(Int.eq_of_mul_eq_mul_left R h5).symm
 have pz:E p p≠0:=λz=>by
  have:=ok.inj (p+1) (by omega) v (λj g=>by
   rw[<-x j (by omega)];by_cases q:j=p
   ·rw[q];exact z
   ·rw[t.uni j (by omega),jv (by omega)]) p (by omega)
  rw[t.on (aH p)] at this;exact R this
 -- the s rows
 have s:∀i,i<m->i≠p->∃b:Nat->Int,(∀k,k<m->p+1<=k->k≠i->b k=0)/\(p+1<=i->b i=E p p)/\(∀l,l<p+1->sN m (λk=>b k*A k l)=if i=l then E p p else 0)/\∀j,j<=m->E p p*E i j-E i p*E p j=d*sN m (λk=>b k*X k j):=by
  intro i D o
  obtain⟨b,G,M,L⟩:∃b:Nat->Int,(∀k,k<m->p+1<=k->k≠i->b k=0)/\(p+1<=i->b i=E p p)/\(∀l,l<p+1->sN m (λk=>b k*A k l)=if i=l then E p p else 0):=by
   have T:∀j l,j<p+1->l<p+1->sN (p+1) (λk=>Lo (p+1) A k j*A k l)=if l=j then E p p else 0:=λj l g B=>by
    rw[Y,<-Ma B g];exact Zh λk f=>by rw[ok.sym l k (by omega) (by omega),bD]
   by_cases q:i<p
   ·obtain⟨b,y⟩:∃b:Nat->Int,∀k,b k=if k<p+1 then Lo (p+1) A k i else 0:=⟨_,λ_=>rfl⟩
    refine⟨b,λk f u _=>by rw[y,jv (by omega)],λh=>by omega,λl B=>?_⟩;rw[UU (q:=p+1) (by omega) λk u w=>by rw[y,jv (by omega),b5]];rw[Zh λk f=>by rw[y,ju f],T i l (by omega) B];by_cases e:i=l
    ·rw[ju e,ju e.symm]
    ·rw[jv e,jv (λz=>e z.symm)]
   ·obtain⟨b,y⟩:∃b:Nat->Int,∀k,b k=if k<p+1 then-sN (p+1) (λj=>A i j*Lo (p+1) A k j) else if k=i then E p p else 0:=⟨_,λ_=>rfl⟩
    have H:b i=E p p:=by rw[y,jv (by omega),ju rfl]
    refine⟨b,λk f u w=>by rw[y,jv (by omega),jv w],λh=>H,λl B=>?_⟩;rw[Mh (q:=p+1) (by omega) D λk u w Q=>by rw[y,jv (by omega),jv Q,b5]];rw[H]
    have P:sN (p+1) (λk=>b k*A k l)=sN (p+1) (λk=>(-1)*sN (p+1) (λj=>A i j*(Lo (p+1) A k j*A k l))):=Zh λk f=>by
     rw[y,ju f,bS,bD _ (A k l),<-ZN,bS,cp];congr 1;exact Zh λj _=>by rw[bD (A k l),bT]
    rw[P,ZN,QX];have e2:(sN (p+1) λj=>sN (p+1) λk=>A i j*(Lo (p+1) A k j*A k l))=A i l*E p p:=by rw[Zh λj g=>by rw[ZN,T j l g B]];rw[ZW B λj _ O=>by rw[jv (λz=>O z.symm),bR],ju rfl]
    rw[e2,bD (E p p)];omega
  refine⟨b,G,M,L,?_⟩;obtain⟨C,F⟩:=I.row i D
  have hw:∀k,k<m->E p p*C k-E i p*v k-d*b k=0:=by
   have J:∀k,k<m->p+1<=k->E p p*C k-E i p*v k-d*b k=0:=λk f u=>by
    have U:=t.off k f (by omega) (by omega);by_cases q:k=i
    ·subst q;rw[F.on (by omega),U,M u,bD d];omega
    ·rw[F.off k f (by omega) q,U,G k f u q];omega
   intro k f;by_cases q:k<p+1
   ·refine ok.inj (p+1) (by omega) (λk=>E p p*C k-E i p*v k-d*b k) (λl B=>?_) k q;rw[<-UU (m:=m) (by omega) λk u w=>by rw[J k w u,b5]]
    have P:sN m (λk=>(E p p*C k-E i p*v k-d*b k)*A k l)=E p p*sN m (λk=>C k*A k l)+((- E i p)*sN m (λk=>v k*A k l)+(- d)*sN m (λk=>b k*A k l)):=by
     rw[<-ZN,<-ZN,<-ZN,<-Yc,<-Yc];exact Zh λk _=>by rw[Int.sub_mul,Int.sub_mul];simp only[bT,bS];omega
    have eX:∀a:Nat->Int,sN m (λk=>a k*X k l)=sN m (λk=>a k*A k l):=λa=>Zh λk f=>by rw[ok.ext k l f (by omega)]
    rw[P,L l B,<-eX,<-eX,<-F.val l (by omega),<-t.val l (by omega)];by_cases q2:l=p
    ·subst q2;rw[jv o,bD (E l l),bS];omega
    ·rw[F.uni l (by omega),t.uni l (by omega),jv (show ¬p=l by omega)];by_cases N:i=l
     ·rw[ju N,ju N,bS d,bD d];omega
     ·rw[jv N,jv N];omega
   ·exact J k f (by omega)
  intro j g;rw[F.val j g,t.val j g,<-ZN,<-ZN,<-ZN];have:sN m (λk=>E p p*(C k*X k j))=sN m (λk=>d*(b k*X k j))+sN m (λk=>E i p*(v k*X k j)):=by rw[<-Yc];refine Zh λk f=>?_;have:=hw k f;rw[<-bT,<-bT,<-bT,<-jS];congr 1;omega
  omega
 refine⟨⟨Y,pz,λi D=>?_⟩,λi j D g o=>?_⟩
 ·by_cases o:i=p
  ·subst o;refine⟨v,λk f u w=>t.off k f (by omega) w,λh=>by omega,λj g=>by rw[ju rfl];exact t.val j g,λj g=>?_⟩;rw[ju rfl];by_cases q:i=j
   ·subst q;rw[ju rfl]
   ·rw[jv q,t.uni j (by omega),jv q]
  ·obtain⟨b,G,M,L,S⟩:=s i D o;have hv:∀j,j<=m->(E p p*E i j-E i p*E p j).fdiv d=sN m (λk=>b k*X k j):=λj g=>by rw[S j g,dH _ R]
   refine⟨b,G,M,λj g=>by rw[jv o];exact hv j g,λj g=>?_⟩;rw[jv o,hv j (by omega),<-L j g];exact Zh λk f=>by rw[ok.ext k j f (by omega)]
 ·obtain⟨b,G,M,L,S⟩:=s i D o;exact⟨_,S j g⟩
theorem W8{m:Nat}{A X:Mt}(ok:Ec m A X):∀{p:Nat},p<=m->Il m A X p (Lp m X p).1 (Lp m X p).2
 | 0,_=>⟨rfl,(show(1:Int)≠0 by decide),λi b=>⟨λk=>if k=i then 1 else 0,λk _ _ h=>jv h,λ_=>ju rfl,λj a=>by rw[ZW (k:=i) b λk _ c=>by rw[jv c,b5],ju rfl,cp];rfl,λj a=>by omega⟩⟩
 | p+1,h=>(SY ok (by omega) (W8 ok (p:=p) (by omega))).1
open L2 VL
noncomputable def ZM(w:Nat)(f:Nat->Int):List Int:=(aJ w).map f
theorem ZZ(w:Nat)(f:Nat->Int):(ZM w f).length=w:=by simp[ZM]
theorem Vw{w:Nat}{f:Nat->Int}{j:Nat}(h:j<w):Xa (ZM w f) j=f j:=Rf h
theorem Dp{l:List Int}:(fH ((fH (aA (PV.lst (iL l))) λx=>(Tg [] s).map (x::·)).bind ZH) λl=>if ZJ l=aC then aA l else none)=aA (pP l):=by show(if ZJ (pP l)=aC then aA (pP l) else none)=_;rw[ju (by simp)]
theorem W9{n:Nat}{ix:List Nat}{d:XL}{T:Tgt}{c:XE}{s:ZA}{w:Nat}{q:Nat->PV}(g:Nat->Int)(f:d s=aA ((aJ w).map q))(i:w<=100)(h:∀j,j<w->∃s1,Yu T (q j) (ZU n ix s)=aA s1/\c s1=aA (.int (g j))):Zt n ix d T ZF c s=aA (.lst (iL (ZM w g))):=by
 rw[Z2 (aJ w) q (λj=>.int (g j)) f (by rw[b0];omega) λj e=>by
  obtain⟨s1,a,b⟩:=h j (aX.mp e);exact⟨s1,a,rfl,b⟩]
 simp[ZM]
theorem S2{w:Nat}{f:Nat->Int}{j:Nat}(h:j<w):Um (iL (ZM w f)) (j:Int)=aA (.int (f j)):=by rw[Vm (by rw[ZZ];exact h),Vw h]
noncomputable def Z7(m w:Nat)(E:Mt):List (List Int):=(aJ m).map λi=>ZM w (E i)
theorem Va(m w:Nat)(E:Mt):(Z7 m w E).length=m:=by simp[Z7]
noncomputable def tL(M:List (List Int)):List PV:=M.map pP
theorem UW(m w:Nat)(E:Mt):tL (Z7 m w E)=(aJ m).map λi=>pP (ZM w (E i)):=by unfold tL Z7;rw[cg];rfl
theorem Nn(m w:Nat)(E:Mt):(tL (Z7 m w E)).length=m:=by simp[tL,Va]
theorem Np{m w:Nat}{E:Mt}{i:Nat}(h:i<m):(tL (Z7 m w E))[i]?=aA (pP (ZM w (E i))):=by rw[UW,aR,bB h];rfl
theorem Xz{n:Nat}{ix:List Nat}{d:XL}{T:Tgt}{c:XE}{s:ZA}{m w:Nat}{q:Nat->PV}(E:Mt)(f:d s=aA ((aJ m).map q))(g:m<=100)(h:∀j,j<m->∃s1,Yu T (q j) (ZU n ix s)=aA s1/\c s1=aA (pP (ZM w (E j)))):Zt n ix d T ZF c s=aA (.lst (tL (Z7 m w E))):=by
 rw[Z2 (aJ m) q (λj=>pP (ZM w (E j))) f (by rw[b0];omega) λj e=>by
  obtain⟨s1,a,b⟩:=h j (aX.mp e);exact⟨s1,a,rfl,b⟩,UW]
noncomputable def Y0(b i:Nat):Nat:=if i<b then i else i+1
noncomputable def G3(b h:Nat):Nat:=if h<b then h else h-1
theorem G4(b i:Nat):Y0 b i≠b:=by unfold Y0;split<;>omega
theorem Xo{b i m:Nat}(h:i<m):Y0 b i<m+1:=by unfold Y0;split<;>omega
theorem QZ(b i:Nat):G3 b (Y0 b i)=i:=by unfold G3 Y0;split<;>(try split)<;>omega
theorem Im{b h:Nat}(q:h≠b):Y0 b (G3 b h)=h:=by unfold G3 Y0;split<;>(try split)<;>omega
theorem Io{b i j:Nat}(h:Y0 b i=Y0 b j):i=j:=by rw[<-QZ b i,h,QZ]
theorem Of{n b:Nat}(c:n<=7)(a:b<n):(aJ n).filter (λh=>!decide (h=b))=(aJ (n-1)).map (Y0 b):=by
 have:∀n,n<8->∀b,b<8->b<n->(aJ n).filter (λh=>!decide (h=b))=(aJ (n-1)).map (Y0 b):=by decide
 exact this n (by omega) b (by omega) a
theorem Nq{f:Nat->Int}{b:Nat}(a:f b=0):∀{m:Nat},b<m+1->sN (m+1) f=sN m (λi=>f (Y0 b i))
 | 0,h=>by
  have:b=0:=by omega
  subst this;show 0+f 0=0;rw[a];rfl
 | m+1,h=>by
  by_cases q:b=m+1
  ·subst q;show sN (m+1) f+f (m+1)=_;rw[a,fP];exact Zh λi c=>by unfold Y0;rw[ju c]
  ·show sN (m+1) f+f (m+1)=sN m (λi=>f (Y0 b i))+f (Y0 b m);rw[Nq a (m:=m) (by omega),show Y0 b m=m+1 by unfold Y0;rw[jv (by omega)]]
theorem U7{f:Nat->Int}:∀{n:Nat},(∀i,i<n->0<=f i)->sN n f<=0->∀i,i<n->f i=0
 | 0,_,_,i,h=>by omega
 | n+1,h,s,i,a=>by
  have s:sN n f+f n<=0:=s
  have c:0<=sN n f:=by
   have:∀k,k<=n->0<=sN k f:=by
    intro k
    induction k with
    | zero=>intro _;exact fI 0
    | succ k ih=>intro d;have:=ih (by omega);have:=h k (by omega);show 0<=sN k f+f k;omega
   exact this n (aH n)
  have b:=h n (by omega);by_cases q:i=n
  ·subst q;omega
  ·exact U7 (n:=n) (λi a=>h i (by omega)) (by omega) i (by omega)
theorem Xf{f:Nat->Int}:∀{n:Nat},(∀i,i<n->0<=f i)->0<=sN n f
 | 0,_=>fI 0
 | n+1,h=>by have:=Xf (n:=n) λi a=>h i (by omega);have:=h n (by omega);show 0<=sN n f+f n;omega
theorem Og(Y:Nat->Int):∀{n:Nat},0<n->∃h,h<n/\∀g,g<n->Y h<=Y g
 | 0,h=>by omega
 | 1,_=>⟨0,by omega,λg b=>by rw[show g=0 by omega];exact fI _⟩
 | n+2,_=>by
  obtain⟨h,c,a⟩:=Og Y (n:=n+1) (by omega);by_cases q:Y h<=Y (n+1)
  ·exact⟨h,by omega,λg b=>by
    by_cases e:g=n+1
    ·rw[e];exact q
    ·exact a g (by omega)⟩
  ·exact⟨n+1,by omega,λg b=>by
    by_cases e:g=n+1
    ·rw[e];exact fI _
    ·have:=a g (by omega);omega⟩
noncomputable def gN(W:List (List Int))(Y:Nat->Int)(h:Nat):Int:=sN W.length (λg=>ent W h g*(Y g-Y h))
theorem Ed{W:List (List Int)}(ok:Yt W)(p:SS W){Y:Nat->Int}{b:Nat}(o:b<W.length)(k:∀h,h<W.length->h≠b->Y h<Y b->gN W Y h<=0):∀h,h<W.length->Y b<=Y h:=by
 intro h r;refine i9.mp λq=>?_;obtain⟨e,l0,l⟩:=Og Y (n:=W.length) (by omega);have u:Y e<Y b:=by have:=l h r;omega
 have step:∀a c,a<W.length->c<W.length->0<ent W a c->Y a=Y e->Y c=Y e:=λa c d i j ea=>by
  have s:=k a d (λz=>by rw[z] at ea;omega) (by omega);have t:=U7 (f:=λg=>ent W a g*(Y g-Y a)) (λg m=>dP (ok.lo a g d m) (by have:=l g m;omega)) s c i
  have:Y c-Y a=0:=by
   rcases Int.mul_eq_zero.mp t with z | z
   ·omega
   ·exact z
  omega
 have:=(p (λx=>Y x=Y e) (λa c d i j=>⟨step a c d i j,step c a i d (by rw[ok.sym c a i d];exact j)⟩) e b l0 o).mp rfl;omega
theorem G5{W:List (List Int)}(c:Int)(Y:Nat->Int)(h:Nat):gN W (λx=>c*Y x) h=c*gN W Y h:=by
 unfold gN;rw[<-ZN];exact Zh λg _=>by show ent W h g*(c*Y g-c*Y h)=_;rw[<-Int.mul_sub,dE]
noncomputable def Zy(W:List (List Int))(b:Nat):Mt:=λi j=>if Y0 b j=Y0 b i then(Zr W (Y0 b i)).sum else-ent W (Y0 b i) (Y0 b j)
noncomputable def Ee(W:List (List Int))(b:Nat)(c:Nat->Int):Mt:=λi j=>if j<W.length-1 then Zy W b i j else c (Y0 b i)
theorem KO{W:List (List Int)}(ok:Yt W){b:Nat}(t:b<W.length){Y:Nat->Int}(p:Y b=0){k:Nat}(j:k<W.length-1):gN W Y (Y0 b k) = - sN (W.length-1) (λi=>Zy W b k i*Y (Y0 b i)):=by
 have u:=ok.pos;obtain⟨m,d⟩:∃m,W.length=m+1:=⟨W.length-1,by omega⟩;have c:W.length-1=m:=by omega
 rw[c] at j ⊢;generalize e:Y0 b k=h;have a:h<W.length:=by rw[d,<-e];exact Xo j
 have n:sN m (λi=>Zy W b k i*Y (Y0 b i))=sN (m+1) (λg=>(if g=h then(Zr W h).sum else-ent W h g)*Y g):=by
  rw[Nq (b:=b) (f:=λg=>(if g=h then(Zr W h).sum else-ent W h g)*Y g) (by rw[p,bR]) (by omega)];exact Zh λi _=>by unfold Zy;rw[e]
 have s:sN (m+1) (λg=>(if g=h then(Zr W h).sum else-ent W h g)*Y g)=(-1)*sN (m+1) (λg=>ent W h g*Y g)+(Zr W h).sum*Y h:=by
  have:sN (m+1) (λg=>if g=h then(Zr W h).sum*Y h else 0)=(Zr W h).sum*Y h:=by rw[ZW (k:=h) (by omega) λi _ r=>jv r,ju rfl]
  rw[<-this,<-ZN,<-Yc];refine Zh λg v=>?_;by_cases q:g=h
  ·subst q;rw[ju rfl,ju rfl,ok.dia g a];omega
  ·rw[jv q,jv q,bS,bS,cp];omega
 have o:(Zr W h).sum=sN (m+1) (λg=>ent W h g):=by rw[V8 ok a,Xx,d]
 have l:gN W Y h=sN (m+1) (λg=>ent W h g*Y g)+(- Y h)*sN (m+1) (λg=>ent W h g):=by
  unfold gN;rw[d,<-ZN,<-Yc];exact Zh λg _=>by rw[Int.mul_sub,bD (- Y h),gJ];omega
 rw[l,n,s,o,bD (sN (m+1) λg=>ent W h g) (Y h),bS];omega
theorem KP{W:List (List Int)}(ok:Yt W)(B:SS W){b:Nat}(u:b<W.length)(c:Nat->Int):Ec (W.length-1) (Zy W b) (Ee W b c):=by
 have G:=ok.pos;obtain⟨m,t⟩:∃m,W.length=m+1:=⟨W.length-1,by omega⟩;have d:W.length-1=m:=by omega
 have n:∀i j,i<m->j<m->Zy W b i j=Zy W b j i:=λi j r l=>by
  unfold Zy;by_cases q:Y0 b j=Y0 b i
  ·rw[ju q,ju q.symm,q]
  ·rw[jv q,jv (λz=>q z.symm),ok.sym _ _ (by rw[t];exact Xo r) (by rw[t];exact Xo l)]
 rw[d];refine⟨n,λp y z F k A=>?_,λi j r l=>by unfold Ee;rw[d,ju l]⟩;obtain⟨Z,v⟩:∃Z:Nat->Int,∀h,Z h=if h=b then 0 else if G3 b h<p then z (G3 b h) else 0:=⟨_,λ_=>rfl⟩
 have f:Z b=0:=by rw[v,ju rfl]
 have w:∀i,Z (Y0 b i)=if i<p then z i else 0:=λi=>by rw[v,jv (G4 b i),QZ]
 have o:∀j,j<p->gN W Z (Y0 b j)=0:=λj l=>by
  rw[KO ok u f (by omega),d]
  have e:sN m (λi=>Zy W b j i*Z (Y0 b i))=sN p (λk=>z k*Zy W b k j):=by
   rw[UU (q:=p) y λk C D=>by rw[w,jv (by omega),bR]];exact Zh λk A=>by rw[w,ju A,n j k (by omega) (by omega),bD]
  rw[e,F j l];rfl
 have off:∀h,h<W.length->Z h≠0->gN W Z h=0:=λh s ne=>by
  have g:h≠b:=λz=>ne (by rw[z];exact f);have r:G3 b h<p:=by refine Nat.not_le.mp λq=>ne ?_;rw[v,jv g,jv (by omega)]
  have:=o _ r;rw[Im g] at this;exact this
 have up:=Ed ok B (Y:=Z) u (λh s _ a=>by rw[off h s (by rw[f] at a;omega)];exact fI _)
 have E:=Ed ok B (Y:=λx=>(-1)*Z x) u (λh s _ a=>by
  simp only[f] at a;rw[G5,off h s (by omega)];decide)
 have C:=up (Y0 b k) (by rw[t];exact Xo (by omega));have D:=E (Y0 b k) (by rw[t];exact Xo (by omega));simp only[f,w,ju A] at C D;omega
theorem Lb{W:List (List Int)}{h m:Nat}{f:Nat->Nat}(ok:Yt W)(a:h<W.length)(d:m<=6)(c:∀i,i<m->f i<W.length) :
  Sx [wP W,.int (h:Int),.lst (iL (nL ((aJ m).map f)))]=aA (pP (ZM m λj=>if f j=h then(Zr W h).sum else-ent W h (f j))):=by
 refine YU (ret (F8 (c1 (W9 (q:=λj=>.int ((f j:Nat):Int)) _ (by show aA (iL (nL ((aJ m).map f)))=_;simp[nL]) (by omega) λj b=>⟨_,rfl,?_⟩) rfl)));by_cases q:f j=h
 ·rw[ju q];exact Hj (xb ((Hi rfl rfl).trans (by rw[decide_eq_true (by omega)]))) (c2 rfl rfl (Nj a))
 ·rw[jv q];exact Hk (xb ((Hi rfl rfl).trans (by rw[decide_eq_false (by omega)]))) (DK (o2 (o2 rfl rfl (Tw a)) rfl (Vm (by rw[ok.sq h a];exact c j b))) rfl)
theorem Ub{W:List (List Int)}{b:Nat}(ok:Yt W)(e:b<W.length) :
  YI [wP W,.int (b:Int)]=aA (wP (Z7 (W.length-1) (W.length-1) (Zy W b))):=by
 have p:=ok.pos;have g:=ok.few;obtain⟨m,j⟩:∃m,W.length=m+1:=⟨W.length-1,by omega⟩;have a:W.length-1=m:=by omega
 rw[a];have d:∀i,i<m->Y0 b i<W.length:=λi c=>by rw[j];exact Xo c
 have l:Zt 1 [1] (ZR [Zc Yo [Za 0]]) (.one 0) (xB (Zj (WX aC) (Za 0) (Za 1))) (eP (Za 0)) [aA (wP W),aA (.int (b:Int)),none]=aA (.lst (iL (nL ((aJ m).map (Y0 b))))):=by
  rw[V2 (aJ W.length) (λ(i:Nat)=>.int (i:Int)) (λ(i:Nat)=>.int (i:Int)) (λh=>!decide (h=b)) (ZP (n:=W.length) (by simp) (by omega)) (by simp;omega) λy o=>⟨[aA (.int (y:Int)),aA (.int (b:Int))],rfl,?_,λ_=>by simp⟩]
  ·rw[Of g e,a];simp[nL]
  ·by_cases q:y=b
   ·simp[q]
   ·have k:¬(y:Int)=(b:Int):=by omega
    simp[q,k]
 exact YU (sq (Zz l) (ret (ep (c1 (Xz (w:=m) (Zy W b) (q:=λi=>.int ((Y0 b i:Nat):Int)) (by show aA (iL (nL ((aJ m).map (Y0 b))))=_;simp[nL]) (by omega) λi c=>⟨_,rfl,c3 rfl rfl rfl (Lb (f:=Y0 b) ok (d i c) (by omega) d)⟩) rfl) (XY _))))
theorem G6{c:XT}{fb:XS}(g:Nat->ZA->Prop)(step:∀k st,g k st->c st=aA aB\/(c st=aA aC/\∃s2 k',fb st=aA (.nx s2)/\k'<k/\g k' s2)){k:Nat}{s:ZA}(o:g k s) :
  ∃f k',XG c fb s=aA (.nx f)/\g k' f/\c f=aA aB:=by
 have gen:∀(n k:Nat)(st:ZA),k<n->g k st->∃f k',Yp c fb n st=aA (.nx f)/\g k' f/\c f=aA aB:=by
  intro n
  induction n with
  | zero=>intro k st h;omega
  | succ n ih=>
   intro k st q l;rcases step k st l with i | ⟨i,s2,k',e,p,j⟩
   ·exact⟨st,k,by unfold Yp;rw[i];rfl,l,i⟩
   ·obtain⟨f,m,a,b,d⟩:=ih k' s2 (by omega) j;refine⟨f,m,?_,b,d⟩;unfold Yp;rw[i];simp only[e];exact a
 obtain⟨f,k',a,b,d⟩:=gen (k+1) k s (by omega) o;exact⟨f,k',MQ a,b,d⟩
theorem Oh{l:List Int}{n:Nat}(h:l.length=n)(a:n<=1000):TF [pP l,.int (n:Int)]=aA (.bl aC):=by subst h;exact KC a
theorem S3{f:Nat->Int}{M:Nat}:∀{n:Nat},(∀i,i<n->(f i).natAbs<=M)->(sN n f).natAbs<=n*M
 | 0,_=>by show(0:Int).natAbs<=_;simp
 | n+1,h=>by have c:=S3 (n:=n) λi b=>h i (by omega);have a:=h n (by omega);show(sN n f+f n).natAbs<=_;rw[iH,iI];omega
end PW
namespace PM
open PW
noncomputable def mul(m:Nat)(A B:Mt):Mt:=λi j=>sN m λk=>A i k*B k j
noncomputable def one:Mt:=λi j=>if i=j then 1 else 0
noncomputable def EqM(m:Nat)(A B:Mt):Prop:=∀i j,i<m->j<m->A i j=B i j
theorem Ip(c:Int)(f:Nat->Int)(n:Nat):sN n (λi=>f i*c)=sN n f*c:=by rw[bD,<-ZN];exact Zh λi _=>bD _ _
theorem assoc(m:Nat)(A B C:Mt)(i j:Nat):mul m (mul m A B) C i j=mul m A (mul m B C) i j:=by show sN m (λk=>sN m (λl=>A i l*B l k)*C k j)=sN m (λl=>A i l*sN m (λk=>B l k*C k j));rw[Zh (g:=λk=>sN m (λl=>A i l*B l k*C k j)) λk _=>(Ip _ _ _).symm];rw[QX (λk l=>A i l*B l k*C k j)];refine Zh λl _=>?_;rw[<-ZN];exact Zh λk _=>bT _ _ _
theorem mul_one{m:Nat}{A:Mt}{i j:Nat}(a:j<m):mul m A one i j=A i j:=by
 show sN m (λk=>A i k*one k j)=_;rw[ZW a]
 ·unfold one;rw[ju rfl,eN]
 ·intro k _ h;unfold one;rw[jv h,bR]
theorem one_mul{m:Nat}{A:Mt}{i j:Nat}(a:i<m):mul m one A i j=A i j:=by
 show sN m (λk=>one i k*A k j)=_;rw[ZW a]
 ·unfold one;rw[ju rfl,cp]
 ·intro k _ h;unfold one;rw[jv (λz=>h z.symm),b5]
theorem mul_congr{m:Nat}{A A' B B':Mt}{i j:Nat}(h:∀k,k<m->A i k=A' i k)(b:∀k,k<m->B k j=B' k j):mul m A B i j=mul m A' B' i j:=Zh λk a=>by rw[h k a,b k a]
theorem EqM.mulL{m:Nat}{A A' B:Mt}(h:EqM m A A'):EqM m (mul m A B) (mul m A' B):=λi j b c=>mul_congr (λk a=>h i k b a) λ_ _=>rfl
theorem EqM.mulR{m:Nat}{A B B':Mt}(h:EqM m B B'):EqM m (mul m A B) (mul m A B'):=λi j c a=>mul_congr (λ_ _=>rfl) λk b=>h k j b a
theorem EqM.trans{m:Nat}{A B C:Mt}(h:EqM m A B)(c:EqM m B C):EqM m A C:=λi j b a=>(h i j b a).trans (c i j b a)
noncomputable def tr(A:Mt):Mt:=λi j=>A j i
theorem UX(m:Nat)(A B:Mt)(i j:Nat):tr (mul m A B) i j=mul m (tr B) (tr A) i j:=Zh λk _=>bD _ _
theorem TN{m:Nat}{A A' B B':Mt}(h:EqM m (mul m A A') one)(f:EqM m (mul m B B') one):EqM m (mul m (mul m A B) (mul m B' A')) one:=λi j d b=>by
 rw[assoc];have e:mul m A (mul m B (mul m B' A')) i j=mul m A A' i j:=mul_congr (λ_ _=>rfl) λk a=>by rw[<-assoc,mul_congr (A':=one) (B':=A') (λl c=>f k l a c) (λ_ _=>rfl),one_mul a]
 rw[e];exact h i j d b
structure RT(m p:Nat)(E E':Mt):Prop where
 ex:∃U V:Mt,EqM m (mul m U V) one/\EqM m (mul m V U) one/\(∀i j,i<m->E' i j=mul m U E i j)/\(∀i k,p<=i->i<m->k<p->U i k=0/\V i k=0)
 up:∀i j,i<p->E' i j=E i j
 low:∀i j,m<=i->E' i j=E i j
theorem RT.refl{m p:Nat}{E:Mt}:RT m p E E:=⟨⟨one,one,λi j b a=>mul_one a,λi j b a=>mul_one a,λi j b=>(one_mul b).symm,λi k d c e=>by unfold one;rw[jv (by omega)];exact⟨rfl,rfl⟩⟩,λ_ _ _=>rfl,λ_ _ _=>rfl⟩
theorem Mi{m p:Nat}{U a:Mt}(e:p<=m)(h:∀i k,p<=i->i<m->k<p->U i k=0)(f:∀i k,p<=i->i<m->k<p->a i k=0):∀i k,p<=i->i<m->k<p->mul m U a i k=0:=λi k d c g=>Wj λl b=>by
 by_cases q:l<p
 ·rw[h i l d c q,b5]
 ·rw[f l k (by omega) b g,bR]
theorem RT.trans{m p:Nat}{E e b:Mt}(c:p<=m)(h:RT m p E e)(d:RT m p e b):RT m p E b:=by obtain⟨U,V,r,t,v,l⟩:=h.ex;obtain⟨u,s,q,B,A,n⟩:=d.ex;refine⟨⟨mul m u U,mul m V s,TN q r,TN t B,λi j a=>?_,λi k f o g=>⟨Mi c (λi k x y z=>(n i k x y z).1) (λi k x y z=>(l i k x y z).1) i k f o g,Mi c (λi k x y z=>(l i k x y z).2) (λi k x y z=>(n i k x y z).2) i k f o g⟩⟩,λi j a=>(d.up i j a).trans (h.up i j a),λi j a=>(d.low i j a).trans (h.low i j a)⟩;rw[A i j a,assoc];exact mul_congr (λ_ _=>rfl) λk w=>v k j w
theorem RT.back{m p:Nat}{E c:Mt}(h:RT m p E c):RT m p c E:=by obtain⟨U,V,n,d,o,g⟩:=h.ex;refine⟨⟨V,U,d,n,λi j a=>?_,λi k e l f=>⟨(g i k e l f).2,(g i k e l f).1⟩⟩,λi j a=>(h.up i j a).symm,λi j a=>(h.low i j a).symm⟩;rw[mul_congr (A':=V) (B':=mul m U E) (λ_ _=>rfl) (λk b=>o k j b),<-assoc,mul_congr (A':=one) (B':=E) (λk b=>d i k a b) (λ_ _=>rfl),one_mul a]
theorem Nr{c:Int}{f:Nat->Int}:∀{n:Nat},(∀i,i<n->c∣f i)->c∣sN n f
 | 0,_=>cD c
 | n+1,h=>Int.dvd_add (Nr λi a=>h i (by omega)) (h n (by omega))
theorem RT.dvd{m p:Nat}{E a:Mt}(h:RT m p E a){c:Int}{j:Nat}(g:∀i,p<=i->i<m->c∣E i j):∀i,p<=i->i<m->c∣a i j:=λi d b=>by
 obtain⟨U,V,n,o,e,f⟩:=h.ex;rw[e i j b];refine Nr λk l=>?_;by_cases q:k<p
 ·rw[(f i k d b q).1,b5];exact cD c
 ·exact gU (g k (by omega) l)
theorem RT.sub{m p a b:Nat}{q:Int}{E:Mt}(H:p<=a)(t:a<m)(B:p<=b)(n:b<m)(ne:a≠b):RT m p E (λi j=>if i=a then E i j-q*E b j else E i j):=by
 have f:∀(c:Int)(i:Nat)(F:Mt)(j:Nat),i<m->mul m (λi k=>one i k+(if i=a/\k=b then c else 0)) F i j=F i j+(if i=a then c*F b j else 0):=λc i F j e=>by
  show sN m (λk=>(one i k+(if i=a/\k=b then c else 0))*F k j)=_;rw[Zh (g:=λk=>one i k*F k j+(if i=a/\k=b then c else 0)*F k j) λk _=>jS _ _ _,Yc];have o:sN m (λk=>one i k*F k j)=F i j:=one_mul (A:=F) e;rw[o];congr 1;by_cases z:i=a
  ·rw[ju z,ZW n]
   ·rw[ju ⟨z,rfl⟩]
   ·intro k _ y;rw[jv (λw=>y w.2),b5]
  ·rw[jv z];exact Wj λk _=>by rw[jv (λw=>z w.1),b5]
 have l:∀(c d:Int)(i j:Nat),c = - d->(one i j+(if i=a/\j=b then d else 0))+(if i=a then c*(one b j+(if b=a/\j=b then d else 0)) else 0)=one i j:=λc d i j h=>by
  have u:=ao ne;by_cases z:i=a
  ·simp only[z,true_and,if_true,u,false_and,if_false,fP];by_cases w:j=b
   ·subst w;simp[one];omega
   ·have r:¬b=j:=λx=>w x.symm;simp[one,w,r]
  ·simp[z]
 refine⟨⟨λi k=>one i k+(if i=a/\k=b then -q else 0),λi k=>one i k+(if i=a/\k=b then q else 0),λi j e s=>?_,λi j e s=>?_,λi j e=>?_,λi k C G D=>?_⟩,λi j e=>?_,λi j e=>?_⟩
 ·exact(f _ i _ j e).trans (l (-q) q i j (by omega))
 ·exact(f _ i _ j e).trans (l q (-q) i j (by omega))
 ·rw[f _ i _ j e];by_cases z:i=a
  ·rw[ju z,ju z,bS];omega
  ·rw[jv z,jv z];omega
 ·have o:¬i=k:=by omega
  have v:¬k=b:=by omega
  simp[one,o,v]
 ·show(if i=a then _ else _)=_;rw[jv (by omega)]
 ·show(if i=a then _ else _)=_;rw[jv (by omega)]
noncomputable def sw(a b i:Nat):Nat:=if i=a then b else if i=b then a else i
theorem Ef(a b i:Nat):sw a b (sw a b i)=i:=by unfold sw;split<;>(try split)<;>(try split)<;>omega
theorem sw_lt{a b i m:Nat}(e:a<m)(c:b<m)(d:i<m):sw a b i<m:=by unfold sw;split<;>(try split)<;>omega
theorem RT.swap{m p a b:Nat}{E:Mt}(q:p<=a)(f:a<m)(g:p<=b)(e:b<m):RT m p E (λi j=>E (sw a b i) j):=by
 have d:∀(F:Mt)(i j:Nat),i<m->mul m (λi k=>one (sw a b i) k) F i j=F (sw a b i) j:=λF i j c=>one_mul (A:=F) (sw_lt f e c);have inv:EqM m (mul m (λi k=>one (sw a b i) k) (λi k=>one (sw a b i) k)) one:=λi j c h=>by rw[d _ i j c,Ef]
 refine⟨⟨_,_,inv,inv,λi j c=>(d E i j c).symm,λi k l o n=>?_⟩,λi j c=>?_,λi j c=>?_⟩
 ·have:one (sw a b i) k=0:=by
   unfold one sw;rw[jv];split<;>(try split)<;>omega
  exact⟨this,this⟩
 ·show E (sw a b i) j=_;unfold sw;rw[jv (by omega),jv (by omega)]
 ·show E (sw a b i) j=_;unfold sw;rw[jv (by omega),jv (by omega)]
theorem RT.neg{m p a:Nat}{E:Mt}(o:p<=a)(d:a<m):RT m p E (λi j=>if i=a then-E i j else E i j):=by
 have c:∀(F:Mt)(i j:Nat),i<m->mul m (λi k=>if i=a then-one i k else one i k) F i j=if i=a then-F i j else F i j:=λF i j b=>by
  have e:sN m (λk=>one i k*F k j)=F i j:=one_mul (A:=F) b;by_cases z:i=a
  ·show sN m (λk=>(if i=a then-one i k else one i k)*F k j)=_;rw[ju z,<-e,Zh (g:=λk=>(-1)*(one i k*F k j)) λk _=>by rw[ju z,bS];omega,ZN];omega
  ·show sN m (λk=>(if i=a then-one i k else one i k)*F k j)=_;rw[jv z,<-e];exact Zh λk _=>by rw[jv z]
 have inv:EqM m (mul m (λi k=>if i=a then-one i k else one i k) (λi k=>if i=a then-one i k else one i k)) one:=λi j b f=>by
  rw[c _ i j b];split
  ·omega
  ·rfl
 refine⟨⟨_,_,inv,inv,λi j b=>(c E i j b).symm,λi k h n l=>?_⟩,λi j b=>?_,λi j b=>?_⟩
 ·have:one i k=0:=by unfold one;rw[jv (by omega)]
  simp only[this];split<;>exact⟨rfl,rfl⟩
 ·show(if i=a then _ else _)=_;rw[jv (by omega)]
 ·show(if i=a then _ else _)=_;rw[jv (by omega)]
structure Adm(m:Nat)(A0 E:Mt):Prop where
 ex:∃L' R':Mt,EqM m (mul m (λi k=>E i (m+k)) L') one/\EqM m (mul m L' (λi k=>E i (m+k))) one/\EqM m (mul m (λi k=>E (m+i) k) R') one/\EqM m (mul m R' (λi k=>E (m+i) k)) one
 val:EqM m (mul m (λi k=>E i (m+k)) (mul m A0 (λi k=>E (m+i) k))) E
 nil:∀i j,i<m->j<m->E (m+i) (m+j)=0
theorem Adm.rt{m p:Nat}{e E c:Mt}(h:Adm m e E)(r:RT m p E c):Adm m e c:=by obtain⟨U,V,o,q,g,x⟩:=r.ex;obtain⟨t,s,n,w,v,u⟩:=h.ex;have f:EqM m (λi k=>c i (m+k)) (mul m U (λi k=>E i (m+k))):=λi j b a=>g i (m+j) b;have d:EqM m (λi k=>c (m+i) k) (λi k=>E (m+i) k):=λi j b a=>r.low _ _ (by omega);refine⟨⟨mul m t V,s,(f.mulL).trans (TN o n),(f.mulR).trans (TN w q),(d.mulL).trans v,(d.mulR).trans u⟩,λi j b a=>?_,λi j b a=>by rw[r.low _ _ (by omega)];exact h.nil i j b a⟩;rw[g i j b,f.mulL i j b a,assoc];refine mul_congr (λ_ _=>rfl) λk l=>?_;rw[EqM.mulR (A:=λi k=>E i (m+k)) (EqM.mulR (A:=e) d) k j l a];exact h.val k j l a
theorem Adm.tr{m:Nat}{c E:Mt}(h:Adm m c E):Adm m (tr c) (tr E):=by
 obtain⟨g,f,l,r,p,o⟩:=h.ex
 have d:EqM m (PM.tr one) one:=λi j _ _=>by
  unfold PM.tr one;by_cases q:i=j
  ·rw[ju q,ju q.symm]
  ·rw[jv q,jv (λz=>q z.symm)]
 refine⟨⟨PM.tr f,PM.tr g,λi j b a=>?_,λi j b a=>?_,λi j b a=>?_,λi j b a=>?_⟩,λi j b a=>?_,λi j b a=>h.nil j i a b⟩
 ·exact((UX m f (λi k=>E (m+i) k) i j).symm.trans (o j i a b)).trans (d i j b a)
 ·exact((UX m (λi k=>E (m+i) k) f i j).symm.trans (p j i a b)).trans (d i j b a)
 ·exact((UX m g (λi k=>E i (m+k)) i j).symm.trans (r j i a b)).trans (d i j b a)
 ·exact((UX m (λi k=>E i (m+k)) g i j).symm.trans (l j i a b)).trans (d i j b a)
 ·have e:=h.val j i a b;show mul m (λi k=>E (m+k) i) (mul m (PM.tr c) (λi k=>E k (m+i))) i j=E j i;rw[<-e,<-assoc];have q:=UX m (λi k=>E i (m+k)) (mul m c (λi k=>E (m+i) k)) i j;have n:mul m (PM.tr (mul m c (λi k=>E (m+i) k))) (PM.tr (λi k=>E i (m+k))) i j=mul m (mul m (λi k=>E (m+k) i) (PM.tr c)) (λi k=>E k (m+i)) i j:=mul_congr (λk _=>UX m c (λi k=>E (m+i) k) i k) λ_ _=>rfl;exact(q.trans n).symm
theorem Adm.div{m:Nat}{d b E:Mt}{D:Int}(h:Adm m d E)(r:EqM m (mul m b d) (λi j=>D*one i j)){c:Int}{j:Nat}(p:j<m)(s:∀i,i<m->c∣E i j):c∣D:=by
 obtain⟨f,a,v,u,w,t⟩:=h.ex
 have e:mul m (mul m a (mul m b f)) E j j=D:=by
  have s1:mul m (mul m a (mul m b f)) E j j=mul m a (mul m (mul m b f) E) j j:=assoc ..;rw[s1]
  have s2:∀k,k<m->mul m (mul m b f) E k j=D*E (m+k) j:=λk o=>by
   rw[assoc];rw[mul_congr (A':=b) (B':=mul m d (λi k=>E (m+i) k)) (λ_ _=>rfl) (λl n=>?_)]
   ·rw[<-assoc,mul_congr (A':=λi j=>D*one i j) (B':=λi k=>E (m+i) k) (λl n=>r k l o n) (λ_ _=>rfl)];show sN m (λl=>D*one k l*E (m+l) j)=_;rw[Zh (g:=λl=>D*(one k l*E (m+l) j)) λl _=>bT _ _ _,ZN];congr 1;exact one_mul (A:=λi k=>E (m+i) k) o
   ·rw[mul_congr (A':=f) (B':=mul m (λi k=>E i (m+k)) (mul m d (λi k=>E (m+i) k))) (λ_ _=>rfl) (λi q=>(h.val i j q p).symm),<-assoc,mul_congr (A':=one) (B':=mul m d (λi k=>E (m+i) k)) (λi q=>u l i n q) (λ_ _=>rfl),one_mul n]
  rw[mul_congr (A':=a) (B':=λk j=>D*E (m+k) j) (λ_ _=>rfl) s2];show sN m (λk=>a j k*(D*E (m+k) j))=D;rw[Zh (g:=λk=>D*(a j k*E (m+k) j)) λk _=>by rw[<-bT,bD (a j k),bT],ZN];have:sN m (λk=>a j k*E (m+k) j)=1:=by have:=t j j p p;unfold one at this;rw[ju rfl] at this;exact this
  rw[this,eN]
 rw[<-e];exact Nr λk o=>gU (s k o)
noncomputable def Vg(i c:Nat):Nat:=if c<i then c else c+1
theorem KQ(f:Nat->Int):∀n,sN (n+1) f=f 0+sN n λj=>f (j+1)
 | 0=>by show 0+f 0=f 0+0;omega
 | n+1=>by show sN (n+1) f+f (n+1)=f 0+(sN n (λj=>f (j+1))+f (n+1));rw[KQ f n];omega
theorem KR(r s:Nat):Vg (r+1) (s+1)=Vg r s+1:=by unfold Vg;split<;>split<;>omega
theorem Oi:∀{n:Nat}{A:Mt}{i:Nat},i<n+1->ZV (n+1) (Yl 0 (λc=>if c=i then 1 else 0) A)=sg i*ZV n (λr c=>A (r+1) (Vg i c))
 | n,A,0,_=>by
  rw[Z6,ZW (k:=0) (by omega)]
  ·rw[ZO,ju rfl];show 1*1*ZV n _=1*ZV n _;rw[cp,cp];rw[cp];exact ZG λr c _ _=>by show Yl 0 _ A (if r<0 then r else r+1) (c+1)=A (r+1) (Vg 0 c);rw[jv (by omega),Yq _ _ (by omega)];rfl
  ·intro r d g;rw[V9 (k:=0) (by omega) λc b=>?_,bR];show Yl 0 _ A (if 0<r then 0 else 0+1) (c+1)=0;rw[ju (by omega),ZO,jv (by omega)]
 | 0,A,i+1,h=>by omega
 | n+1,A,i+1,h=>by
  rw[Z6,KQ];have z:sg 0*Yl 0 (λc=>if c=i+1 then 1 else 0) A 0 0*ZV (n+1) (Wt 0 (Yl 0 (λc=>if c=i+1 then 1 else 0) A))=0:=by rw[ZO,jv (by omega),bR,b5]
  rw[z,Int.zero_add,Z6,<-ZN];refine Zh λr d=>?_
  have e:ZV (n+1) (Wt (r+1) (Yl 0 (λc=>if c=i+1 then 1 else 0) A))=ZV (n+1) (Yl 0 (λc=>if c=i then 1 else 0) (Wt (r+1) A)):=ZG λs c f b=>by
   by_cases q:s=0
   ·subst q;show Yl 0 _ A (if 0<r+1 then 0 else 0+1) (c+1)=_;rw[ju (by omega),ZO,ZO];by_cases w:c=i
    ·rw[ju w,ju (by omega)]
    ·rw[jv w,jv (by omega)]
   ·rw[Yq _ _ q];show Yl 0 _ A (if s<r+1 then s else s+1) (c+1)=A (if s<r+1 then s else s+1) (c+1);rw[Yq];split<;>omega
  rw[e,Oi (n:=n) (i:=i) (by omega),Yq _ _ (by omega)];have a:ZV n (λs c=>Wt (r+1) A (s+1) (Vg i c))=ZV n (Wt r (λr c=>A (r+1) (Vg (i+1) c))):=ZG λs c _ _=>by show A (Vg (r+1) (s+1)) (Vg i c+1)=A (Vg r s+1) (Vg (i+1) (c+1));rw[KR,KR]
  rw[a];show-sg r*A (r+1) 0*(sg i*_) = - sg i*(sg r*A (r+1) 0*_);rw[bS,bS,bS,dE]
theorem Iq{n:Nat}{A:Mt}:ZV (n+1) A=sN (n+1) λi=>sg i*A 0 i*ZV n (λr c=>A (r+1) (Vg i c)):=by have h:=N9 (n:=n+1) (A:=A) (j:=0) (by omega) (A 0);rw[Oc] at h;rw[<-h];refine Zh λi a=>?_;unfold Lo;rw[Oi a,<-bT,bD (A 0 i)]
theorem Q0:∀{n:Nat}{A:Mt},ZV n (tr A)=ZV n A
 | 0,_=>rfl
 | n+1,A=>by rw[Z6,Iq];refine Zh λi a=>?_;have e:ZV n (Wt i (tr A))=ZV n (tr λr c=>A (r+1) (Vg i c)):=rfl;rw[e,Q0];rfl
theorem DL:∀(m:Nat)(ρ:Nat->Nat)(j:Nat),(∀a,a<j->ρ a<m)->m<j->∃a b,a<b/\b<j/\ρ a=ρ b
 | 0,ρ,j,h,hj=>by have:=h 0 hj;omega
 | m+1,ρ,0,h,hj=>by omega
 | m+1,ρ,j+1,h,hj=>by
  by_cases q:∃a,a<j/\ρ a=ρ j
  ·obtain⟨a,d,e⟩:=q;exact⟨a,j,d,by omega,e⟩
  ·have ne:∀a,a<j->ρ a≠ρ j:=λa f z=>q ⟨a,f,z⟩
   obtain⟨a,b,d,e,c⟩:=DL m (λa=>if ρ a=m then ρ j else ρ a) j (λa f=>by
    have d:=h a (by omega);have e:=h j (by omega);have c:=ne a f;show(if ρ a=m then ρ j else ρ a)<m;split<;>omega) (by omega)
   refine⟨a,b,d,by omega,?_⟩;have i:=ne a (by omega);have g:=ne b (by omega);have c:(if ρ a=m then ρ j else ρ a)=if ρ b=m then ρ j else ρ b:=c
   split at c<;>split at c<;>omega
theorem R9{m k j:Nat}{E:Mt}{d l:Nat->Nat}(e:∀a,a<j->k<=d a/\d a<m)(h:m-k<j):ZV j (λa b=>E (d a) (l b))=0:=by
 obtain⟨a,b,q,f,g⟩:=DL (m-k) (λa=>d a-k) j (λa n=>by have:=e a n;show d a-k<m-k;omega) h;have p:=e a (by omega);have o:=e b f;have g:d a-k=d b-k:=g;exact WN (i:=a) (j:=b) (by omega) f (by omega) λc _=>by rw[show d a=d b by omega]
noncomputable def Mn(m k T:Nat)(E:Mt):Prop:=∀(j:Nat)(ρ σ:Nat->Nat),(∀a,a<j->k<=ρ a/\ρ a<m)->(∀a,a<j->k<=σ a/\σ a<m)->(ZV j (λa b=>E (ρ a) (σ b))).natAbs<=T
theorem Mn.tr{m k T:Nat}{E:Mt}(h:Mn m k T E):Mn m k T (PM.tr E):=λj c d g f=>by have e:ZV j (λa b=>PM.tr E (c a) (d b))=ZV j (PM.tr λa b=>E (d a) (c b)):=rfl;rw[e,Q0];exact h j d c f g
theorem Mn.up{m k T a:Nat}{E:Mt}(h:Mn m k T E)(l:T<=a):Mn m k a E:=λj c d e b=>aQ (h j c d e b) l
theorem Mn.ab{m k T:Nat}{E:Mt}(h:Mn m k T E){i j:Nat}(b:k<=i)(a:i<m)(d:k<=j)(c:j<m):(E i j).natAbs<=T:=by
 have:=h 1 (λ_=>i) (λ_=>j) (λ_ _=>⟨b,a⟩) (λ_ _=>⟨d,c⟩);have e:ZV 1 (λ_ _=>E i j)=E i j:=by show 0+1*E i j*1=_;omega
 rwa [e] at this
theorem Mn.rows{m k T:Nat}{E:Mt}(h:Mn m k T E)(f:Nat->Nat)(l:∀i,k<=i->i<m->k<=f i/\f i<m):Mn m k T (λi j=>E (f i) j):=λj e g b d=>h j (λa=>f (e a)) g (λa c=>l _ (b a c).1 (b a c).2) d
theorem Nt:∀i,(sg i).natAbs=1
 | 0=>rfl
 | i+1=>by show(- sg i).natAbs=1;rw[eu];exact Nt i
theorem Mn.turn{m k T:Nat}{E g:Mt}{q:Nat->Int}(h7:m<=7)(hk:k<m)(h:Mn m k T E)(nz:E k k≠0)(e:∀i j,k<=i->i<m->g i j=E i j-q i*E k j)(r:∀i,k<=i->i<m->(g i k).natAbs<=(E k k).natAbs):Mn m k (8*T) g:=λj t f u N=>by
 by_cases C:m-k<j
 ·rw[R9 u C];exact cB _
 obtain⟨R,J⟩:∃R:Nat->Nat,∀a,R a=if a=0 then k else t (a-1):=⟨_,λ_=>rfl⟩
 obtain⟨S,F⟩:∃S:Nat->Nat,∀a,S a=if a=0 then k else f (a-1):=⟨_,λ_=>rfl⟩
 have o:R 0=k:=by rw[J,ju rfl]
 have A:S 0=k:=by rw[F,ju rfl]
 have x:∀a,R (a+1)=t a:=λa=>by rw[J,jv (by omega),ic]
 have v:∀a,S (a+1)=f a:=λa=>by rw[F,jv (by omega),ic]
 have l:∀a,a<j+1->k<=R a/\R a<m:=λa n=>by
  cases a with
  | zero=>rw[o];omega
  | succ a=>rw[x];exact u a (by omega)
 have W:∀a,a<j+1->k<=S a/\S a<m:=λa n=>by
  cases a with
  | zero=>rw[A];omega
  | succ a=>rw[v];exact N a (by omega)
 obtain⟨X,P⟩:∃X:Mt,X=λa b=>if a=0 then E k (S b) else g (R a) (S b):=⟨_,rfl⟩
 have y:∀b,X 0 b=E k (S b):=λb=>by rw[P];exact ju rfl
 have w:∀a b,a≠0->X a b=g (R a) (S b):=λa b h=>by rw[P];exact jv h
 have Q:ZV (j+1) X=ZV (j+1) (λa b=>E (R a) (S b)):=SV (q:=0) (k:=λa=>- q (R a)) (by omega) (λc B=>by rw[y,o]) λa c n B L=>by rw[w a c L,o,e _ _ (l a n).1 (l a n).2,bS];omega
 have p:=h (j+1) R S l W;rw[<-Q,Z6,KQ] at p;have U:X 0 0=E k k:=by rw[y,A]
 have Z:ZV j (Wt 0 X)=ZV j (λa b=>g (t a) (f b)):=ZG λa b _ _=>by
  show X (Vg 0 a) (b+1)=_;have z:Vg 0 a=a+1:=by unfold Vg;rw[jv (by omega)]
  rw[z,w _ _ (by omega),x,v]
 have Z8:(sN j λi=>sg (i+1)*X (i+1) 0*ZV j (Wt (i+1) X)).natAbs<=j*((E k k).natAbs*T):=S3 λi M=>by
  rw[b7,b7,Nt,iI];refine cP ?_ ?_
  ·rw[w _ _ (by omega),x,A];exact r _ (u i M).1 (u i M).2
  ·have H:Vg (i+1) 0=0:=by unfold Vg;rw[ju (by omega)]
   have Y:ZV j (Wt (i+1) X)=ZV j (λa b=>E (R (Vg (i+1) a)) (f b)):=SV (q:=0) (k:=λa=>- q (R (Vg (i+1) a))) (by omega) (λc B=>by
    show X (Vg (i+1) 0) (c+1)=E (R (Vg (i+1) 0)) (f c)
    rw[H,y,o,v]) λa c n B L=>by
    have z:Vg (i+1) a≠0:=by unfold Vg;split<;>omega
    have D:Vg (i+1) a<j+1:=by unfold Vg;split<;>omega
    show X (Vg (i+1) a) (c+1)=E (R (Vg (i+1) a)) (f c) + - q (R (Vg (i+1) a))*E (R (Vg (i+1) 0)) (f c);rw[w _ _ z,H,o,v,e _ _ (l _ D).1 (l _ D).2,bS];omega
   rw[Y];refine h j (λa=>R (Vg (i+1) a)) f (λa n=>l _ ?_) N;unfold Vg;split<;>omega
 rw[Z,U] at p;generalize ZV j (λa b=>g (t a) (f b))=d at p ⊢;generalize (sN j λi=>sg (i+1)*X (i+1) 0*ZV j (Wt (i+1) X))=s at p Z8;have G:1<=(E k k).natAbs:=by omega
 have I:(E k k*d).natAbs<=T+j*((E k k).natAbs*T):=by
  have O:(sg 0*E k k*d)=E k k*d:=by show 1*E k k*d=_;rw[cp]
  rw[O] at p;omega
 rw[b7] at I;refine Nat.le_of_mul_le_mul_left (aQ I ?_) G;have O:T<=(E k k).natAbs*T:=dR _ G;have h3:j*((E k k).natAbs*T)<=7*((E k k).natAbs*T):=dF _ (by omega);rw[df (E k k).natAbs 8 T];omega
noncomputable def fct:Nat->Nat
 | 0=>1
 | n+1=>(n+1)*fct n
theorem Mj{B:Nat}:∀{j:Nat}{A:Mt},(∀a b,a<j->b<j->(A a b).natAbs<=B)->(ZV j A).natAbs<=fct j*B^j
 | 0,_,_=>aH _
 | j+1,A,h=>by
  rw[Z6]
  have:=S3 (n:=j+1) (f:=λi=>sg i*A i 0*ZV j (Wt i A)) (M:=B*(fct j*B^j)) λi c=>by
   rw[b7,b7,Nt,iI];refine cP (h i 0 c (by omega)) (Mj λa b e d=>h _ _ ?_ (by omega));split<;>omega
  refine aQ this ?_;show(j+1)*(B*(fct j*B^j))<=(j+1)*fct j*B^(j+1);rw[dG,dY,df B,br B];exact aH _
theorem Oj{B:Nat}(a:1<=B):∀{n j:Nat},j<=n->fct j*B^j<=fct n*B^n
 | 0,j,h=>by rw[show j=0 by omega];exact aH _
 | n+1,j,h=>by
  by_cases q:j=n+1
  ·rw[q];exact aH _
  ·refine aQ (Oj a (n:=n) (by omega)) ?_;refine cP (dR _ (by omega)) (iJ a (by omega))
theorem Mn.ent{m k n B:Nat}{E:Mt}(l:1<=B)(q:m-k<=n)(h:∀i j,k<=i->i<m->k<=j->j<m->(E i j).natAbs<=B):Mn m k (fct n*B^n) E:=λj o p d e=>by
 by_cases c:m-k<j
 ·rw[R9 d c];exact cB _
 ·exact aQ (Mj λa b g f=>h _ _ (d a g).1 (d a g).2 (e b f).1 (e b f).2) (Oj l (by omega))
theorem Mn.same{m k T:Nat}{E n:Mt}{q:Nat->Int}(h:Mn m k T E)(x:q k=0)(e:∀i j,k<=i->i<m->n i j=E i j-q i*E k j)(z:∀i,k<i->i<m->n i k=0)(y:∀j,k<j->j<m->E k j=0):Mn m k T n:=λj d f g r=>by
 by_cases t:∃a,a<j/\d a=k
 ·obtain⟨a,l,s⟩:=t
  rw[SV (q:=a) (A:=λa b=>E (d a) (f b)) (k:=λb=>- q (d b)) l (λc p=>by show n (d a) (f c)=E (d a) (f c);rw[e _ _ (g a l).1 (g a l).2,s,x];simp) λb c o p _=>by
   show n (d b) (f c)=E (d b) (f c) + - q (d b)*E (d a) (f c);rw[e _ _ (g b o).1 (g b o).2,s,bS];omega]
  exact h j d f g r
 ·have lo:∀a,a<j->k<d a:=λa l=>cx (g a l).1 λw=>t ⟨a,l,w.symm⟩;by_cases p:∃b,b<j/\f b=k
  ·obtain⟨b,o,v⟩:=p
   have u:ZV j (λa b=>n (d a) (f b))=0:=by
    rw[<-Q0];exact V9 (k:=b) o λc p=>by show n (d c) (f b)=0;rw[v];exact z _ (lo c p) (g c p).2
   rw[u];exact cB _
  ·rw[ZG (B:=λa b=>E (d a) (f b)) λa b l o=>by
    have:k<f b:=cx (r b o).1 λw=>p ⟨b,o,w.symm⟩;show n (d a) (f b)=E (d a) (f b);rw[e _ _ (g a l).1 (g a l).2,y _ this (r b o).2];simp]
   exact h j d f g r
theorem Mn.less{m k u T:Nat}{E g:Mt}(I:k<u)(x:u<m)(h:Mn m k T E)(H:∀j,g k j=E k j-1*E u j)(A:∀i j,i≠k->g i j=E i j)(z:∀i,k<i->i<m->E i k=0)(J:∀j,k<j->j<m->E k j=0):Mn m k T g:=λj e d q s=>by
 by_cases G:∃a,a<j/\e a=k
 ·obtain⟨a,t,D⟩:=G;by_cases F:∃b,b<j/\b≠a/\e b=k
  ·obtain⟨b,f,o,C⟩:=F;have p:ZV j (λa b=>g (e a) (d b))=0:=WN f t o λc _=>by show g (e b) (d c)=g (e a) (d c);rw[D,C]
   rw[p];exact cB _
  ·have only:∀b,b<j->b≠a->e b≠k:=λb f o w=>F ⟨b,f,o,w⟩;obtain⟨R,v⟩:∃R:Nat->Nat,∀b,R b=if b=a then u else e b:=⟨_,λ_=>rfl⟩
   have r:ZV j (λa b=>g (e a) (d b))=1*ZV j (λa b=>E (e a) (d b))+(-1)*ZV j (λa b=>E (R a) (d b)):=QY (k:=a) t (λb c f l o=>by
    refine⟨?_,?_⟩
    ·show E (e b) (d c)=g (e b) (d c);rw[A _ _ (only b f o)]
    ·show E (R b) (d c)=g (e b) (d c)
     rw[v,jv o,A _ _ (only b f o)]) λc l=>by
    show g (e a) (d c)=1*E (e a) (d c)+(-1)*E (R a) (d c);rw[D,v,ju rfl,H];omega
   by_cases l:∃b,b<j/\d b=k
   ·obtain⟨b,f,C⟩:=l
    have p:ZV j (λa b=>E (R a) (d b))=0:=by
     rw[<-Q0]
     exact V9 (k:=b) f λc l=>by
      show E (R c) (d b)=0;rw[C,v];by_cases w:c=a
      ·rw[ju w];exact z u I x
      ·rw[jv w];exact z _ (cx (q c l).1 λy=>only c l w y.symm) (q c l).2
    rw[r,p,cp,bR,fP];exact h j e d q s
   ·have p:ZV j (λa b=>E (e a) (d b))=0:=V9 (k:=a) t λc n=>by show E (e a) (d c)=0;rw[D];exact J _ (cx (s c n).1 λw=>l ⟨c,n,w.symm⟩) (s c n).2
    rw[r,p]
    have:=h j R d (λb f=>by
     rw[v];split
     ·omega
     ·exact q b f) s
    omega
 ·rw[ZG (B:=λa b=>E (e a) (d b)) λa b t f=>A _ _ λw=>G ⟨a,t,w⟩];exact h j e d q s
theorem KS{x p:Int}(d:0<=x)(c:0<p):(x.fdiv p).natAbs=x.natAbs/p.natAbs/\(x-x.fdiv p*p).natAbs=x.natAbs%p.natAbs/\0<=(x-x.fdiv p*p)*p:=by
 obtain⟨a,rfl⟩:=g6 d;obtain⟨b,rfl⟩:=g6 (fQ c);have e:(a:Int).fdiv (b:Int)=((a/b:Nat):Int):=by rw[fW _ (fQ c)];exact(Int.natCast_ediv a b).symm
 have r:(a:Int)-((a/b:Nat):Int)*(b:Int)=((a%b:Nat):Int):=by
  have:=jU a b;have h:(b:Int)*((a/b:Nat):Int)+((a%b:Nat):Int)=(a:Int):=by exact_mod_cast this
  rw[bD] at h;omega
 rw[e,r];exact⟨rfl,rfl,dP (ie _) (ie _)⟩
theorem Ir{x p:Int}(h:0<=x*p)(c:p≠0):(x.fdiv p).natAbs=x.natAbs/p.natAbs/\(x-x.fdiv p*p).natAbs=x.natAbs%p.natAbs/\0<=(x-x.fdiv p*p)*p:=by
 rcases gA c with d | a
 ·have f:x<=0:=by refine i9.mp λz=>?_;have:=Int.mul_neg_of_pos_of_neg z d;omega
  have:=KS (x:=-x) (p:=-p) (by omega) (by omega);rw[Int.neg_fdiv_neg,eu,eu] at this;refine⟨this.1,?_,?_⟩
  ·rw[<-this.2.1,<-eu];congr 1;rw[gJ];omega
  ·have b:=this.2.2;have e:(-x-x.fdiv p * -p) * -p=(x-x.fdiv p*p)*p:=by rw[gJ,<-bS,gJ];congr 1;omega
   rw[e] at b;exact b
 ·refine KS (i9.mp λz=>?_) a;have:=gG z a;omega
theorem fd_any{x p:Int}(i:p≠0):(x-x.fdiv p*p).natAbs<p.natAbs/\0<=(x-x.fdiv p*p)*p/\(x.fdiv p).natAbs<=x.natAbs+1:=by
 have e:x-x.fdiv p*p=x.fmod p:=by have:=Int.mul_fdiv_add_fmod x p;rw[bD] at this;omega
 have r:(x.fmod p).natAbs<p.natAbs/\0<=x.fmod p*p:=by
  rcases gA i with k | a
  ·have c:=gn (-x) (b:=-p) (by omega);have f:=ig (-x) (b:=-p) (by omega);rw[Int.neg_fmod_neg] at c f;refine⟨by omega,?_⟩;have:=dP c (show 0<=-p by omega);rw[Int.neg_mul_neg] at this;exact this
  ·have c:=gn x (b:=p) a;have f:=ig x (b:=p) a;exact⟨by omega,dP c (by omega)⟩
 rw[e];refine⟨r.1,r.2,?_⟩;have g:x.fdiv p*p=x-x.fmod p:=by omega
 have j:(x.fdiv p).natAbs*p.natAbs<=x.natAbs+(x.fmod p).natAbs:=by rw[<-b7,g];exact gL _ _
 refine f9.mp λz=>?_;have d:1<=p.natAbs:=by omega
 have h:(x.natAbs+2)*p.natAbs<=(x.fdiv p).natAbs*p.natAbs:=dF _ z;rw[iH] at h;have l:x.natAbs*1<=x.natAbs*p.natAbs:=bG _ d;omega
noncomputable def Bo(m k j N:Nat)(E:Mt):Prop:=∀i,k<=i->i<m->(E i j).natAbs<=N
structure Fst(m k:Nat)(E:Mt)(f:Nat):Prop where
 lo:k<f
 hi:f<m
 ne:E f k≠0
 ze:∀i,k<i->i<f->E i k=0
noncomputable def red(m k:Nat)(E:Mt):Mt:=λi j=>if k<i/\i<m then E i j-(E i k).fdiv (E k k)*E k j else E i j
theorem red_k{m k j:Nat}{E:Mt}:red m k E k j=E k j:=by unfold red;rw[jv (by omega)]
theorem Uc{m k i j:Nat}{E:Mt}(h:k<i)(a:i<m):red m k E i j=E i j-(E i k).fdiv (E k k)*E k j:=by unfold red;rw[ju ⟨h,a⟩]
theorem RT.many{m k:Nat}{E:Mt}(q:Nat->Int)(g:k<m):RT m k E (λi j=>if k<i/\i<m then E i j-q i*E k j else E i j):=by
 have f:∀t,t<=m->RT m k E (λi j=>if k<i/\i<t then E i j-q i*E k j else E i j):=by
  intro t
  induction t with
  | zero=>intro _;rw[show(λi j=>if k<i/\i<0 then E i j-q i*E k j else E i j)=E from funext λi=>funext λj=>jv (by omega)];exact RT.refl
  | succ t ih=>
   intro h;have c:=ih (by omega);by_cases z:k<t
   ·refine c.trans (by omega) ?_;have d:=RT.sub (m:=m) (p:=k) (a:=t) (b:=k) (q:=q t) (E:=λi j=>if k<i/\i<t then E i j-q i*E k j else E i j) (by omega) (by omega) (aH _) g (by omega)
    have e:(λi j=>if k<i/\i<t+1 then E i j-q i*E k j else E i j)=(λi j=>if i=t then(if k<i/\i<t then E i j-q i*E k j else E i j)-q t*(if k<k/\k<t then E k j-q k*E k j else E k j) else if k<i/\i<t then E i j-q i*E k j else E i j):=by
     funext i j;rw[jv (show ¬(k<k/\k<t) by omega)];by_cases w:i=t
     ·subst w;rw[ju ⟨z,by omega⟩,ju rfl,jv (by omega)]
     ·rw[jv w];by_cases y:k<i/\i<t
      ·rw[ju y,ju ⟨y.1,by omega⟩]
      ·rw[jv y,jv (by omega)]
    rw[e];exact d
   ·have e:(λi j=>if k<i/\i<t+1 then E i j-q i*E k j else E i j)=(λi j=>if k<i/\i<t then E i j-q i*E k j else E i j):=by funext i j;rw[jv (by omega),jv (by omega)]
    rw[e];exact c
 exact f m (aH _)
theorem rt_red{m k:Nat}{E:Mt}(a:k<m):RT m k E (red m k E):=RT.many (λi=>(E i k).fdiv (E k k)) a
open Classical in
noncomputable def pre(k f:Nat)(E:Mt):Mt:=if E k k=0\/(E f k).natAbs<(E k k).natAbs then λi j=>E (sw k f i) j else E
theorem rt_pre{m k f:Nat}{E:Mt}(b:k<m)(h:k<f)(a:f<m):RT m k E (pre k f E):=by
 unfold pre;split
 ·exact RT.swap (aH _) b (by omega) a
 ·exact RT.refl
theorem Nu(a b:Nat):sw a b a=b:=by unfold sw;rw[ju rfl]
theorem G7{a b:Nat}(h:a≠b):sw a b b=a:=by unfold sw;rw[jv (λz=>h z.symm),ju rfl]
theorem sw_c{a b i:Nat}(h:i≠a)(c:i≠b):sw a b i=i:=by unfold sw;rw[jv h,jv c]
structure Hyp(m k:Nat)(E:Mt)(j N M P:Nat):Prop where
 bo:Bo m k j N E
 one:1<=P
 piv:E k k≠0->(E k k).natAbs<=P
 nil:E k k=0->∀i,k<i->i<m->(E i k).natAbs<=P
 col:(∀i,k<=i->i<m->(E i k).natAbs<=M)\/(m=k+2/\E k j=0/\E k k≠0/\(E k k).natAbs<=M)
structure Aft(m k:Nat)(E0 E:Mt):Prop where
 nz:E k k≠0
 sg:∀i,k<i->i<m->(E i k).natAbs<(E k k).natAbs/\0<=E i k*E k k
 dv:E0 k k≠0->(∀i,k<i->i<m->E0 k k∣E0 i k)->E=red m k E0
 pv:∀P,(E0 k k≠0->(E0 k k).natAbs<=P)->(E0 k k=0->∀i,k<i->i<m->(E0 i k).natAbs<=P)->(E k k).natAbs<=P
 po:∀j N M P,Hyp m k E0 j N M P->∃N',Bo m k j N' E/\N'<=2*(N*(M+2)*P^3)/\∀f,Fst m k E f->N'*(E k k).natAbs*((E k k).natAbs*(E f k).natAbs)<=N*(M+2)*P^3
 mn:∀T P,m<=7->Mn m k T E0->1<=P->(E0 k k≠0->(E0 k k).natAbs<=P)->(E0 k k=0->∀i,k<i->i<m->(E0 i k).natAbs<=P)->∃T',Mn m k T' E/\T'<=64*(T*P^6)/\∀f,Fst m k E f->T'*((E k k).natAbs*(E f k).natAbs)^3<=8*(T*P^6)
theorem Nv{x y q:Int}{N Q:Nat}(e:x.natAbs<=N)(a:y.natAbs<=N)(c:q.natAbs<=Q):(x-q*y).natAbs<=N*(1+Q):=by have b:=gL x (q*y);rw[b7] at b;have d:q.natAbs*y.natAbs<=Q*N:=cP c a;rw[Nat.mul_add,Nat.mul_one,br N Q];omega
theorem Mn.red{m k T:Nat}{E:Mt}(c:m<=7)(e:k<m)(h:Mn m k T E)(b:E k k≠0):Mn m k (8*T) (PM.red m k E):=
 h.turn (q:=λi=>if k<i/\i<m then(E i k).fdiv (E k k) else 0) c e b (λi j d a=>by
  show PM.red m k E i j=E i j-(if k<i/\i<m then(E i k).fdiv (E k k) else 0)*E k j;by_cases q:k<i
  ·rw[Uc q a,ju ⟨q,a⟩]
  ·rw[jv (λw=>q w.1),show i=k by omega,red_k];omega) λi d a=>by
  by_cases q:k<i
  ·rw[Uc q a];have:=(fd_any (x:=E i k) b).1;omega
  ·rw[show i=k by omega,red_k];exact aH _
theorem Mn.pre{m k f T:Nat}{E:Mt}(d:k<m)(e:k<f)(a:f<m)(h:Mn m k T E):Mn m k T (PM.pre k f E):=by
 unfold PM.pre;split
 ·exact h.rows (sw k f) λi c b=>by unfold sw;split<;>(try split)<;>omega
 ·exact h
theorem Eg(p v:Nat):(p*v)^3=p^3*v^3:=Nat.mul_pow p v 3
theorem Aft.first{m k f:Nat}{E:Mt}(n:k<m)(F:Fst m k E f):Aft m k E (red m k (pre k f E)):=by
 have C:=F.lo
 have b:pre k f E k k≠0:=by
  unfold pre;split
  ·show E (sw k f k) k≠0;rw[Nu];exact F.ne
  ·rename_i h;exact λz=>h (.inl z)
 have pv:∀P,(E k k≠0->(E k k).natAbs<=P)->(E k k=0->∀i,k<i->i<m->(E i k).natAbs<=P)->(pre k f E k k).natAbs<=P:=λP piv nil=>by
   unfold pre;split
   ·rename_i h;show(E (sw k f k) k).natAbs<=P;rw[Nu];rcases h with z | z
    ·exact nil z f F.lo F.hi
    ·have:=piv (by omega);omega
   ·rename_i h;exact piv λz=>h (.inl z)
 refine⟨by rw[red_k];exact b,λi c a=>?_,λt J=>?_,λP piv nil=>by rw[red_k];exact pv P piv nil,λj N M P H=>?_,λT P D L r piv nil=>?_⟩
 ·rw[red_k,Uc c a];have:=fd_any (x:=pre k f E i k) b;exact⟨this.1,this.2.1⟩
 ·have:pre k f E=E:=by
   unfold pre;rw[jv];rintro(z | z)
   ·exact t z
   ·have:=ba.mpr (J f F.lo F.hi);have:=dZ (by have:=F.ne;omega) this;omega
  rw[this]
 ·have pP:=pv P H.piv H.nil
  have R:Bo m k j (N*(M+2)) (red m k (pre k f E)):=λi c a=>by
   have l:N<=N*(M+2):=ar N (by omega);by_cases e:i=k
   ·subst e;rw[red_k];refine aQ ?_ l;unfold pre;split
    ·show(E (sw i f i) j).natAbs<=N;rw[Nu];exact H.bo f (by omega) F.hi
    ·exact H.bo i c a
   ·rw[Uc (by omega) a]
    have u:(pre k f E i j).natAbs<=N:=by
     unfold pre;split
     ·show(E (sw k f i) j).natAbs<=N;unfold sw;split
      ·exact H.bo f (by omega) F.hi
      ·split
       ·exact H.bo k (by omega) n
       ·exact H.bo i c a
     ·exact H.bo i c a
    have d:(pre k f E k j).natAbs<=N:=by
     unfold pre;split
     ·show(E (sw k f k) j).natAbs<=N;rw[Nu];exact H.bo f (by omega) F.hi
     ·exact H.bo k (by omega) n
    rcases H.col with y | ⟨U,t,S,Q⟩
    ·have q:=(fd_any (x:=pre k f E i k) b).2.2
     have v:(pre k f E i k).natAbs<=M:=by
      unfold pre;split
      ·show(E (sw k f i) k).natAbs<=M;exact y _ (by unfold sw;split<;>(try split)<;>omega) (sw_lt n F.hi a)
      ·exact y i c a
     have:=Nv u d (aQ q (iK v 1));rw[show M+2=1+(M+1) by omega];exact this
    ·have O:i=f:=by have:=F.hi;omega
     subst O;by_cases s:E k k=0\/(E i k).natAbs<(E k k).natAbs
     ·have q:=(fd_any (x:=pre k i E i k) b).2.2;have v:(pre k i E i k).natAbs<=M:=by unfold pre;rw[ju s];show(E (sw k i i) k).natAbs<=M;rw[G7 (by omega)];exact Q
      have:=Nv u d (aQ q (iK v 1));rw[show M+2=1+(M+1) by omega];exact this
     ·have I:pre k i E k j=0:=by unfold pre;rw[jv s];exact t
      rw[I,bR,jD];exact aQ u l
  have r:=H.one;have c3:1<=P^3:=dj _ _ r;refine⟨_,R,aQ (ar _ c3) (dR _ (by omega)),λg G=>?_⟩;have o:(red m k (pre k f E) k k).natAbs<=P:=by rw[red_k];exact pP
  have p:(red m k (pre k f E) g k).natAbs<=P:=by rw[Uc G.lo G.hi];have:=(fd_any (x:=pre k f E g k) b).1;omega
  rw[dY,show P^3=P*(P*P) by rw[dG,dG,Nat.pow_one];rw[dY]];exact bG _ (cP o (cP o p))
 ·have pP:=pv P piv nil;have B:1<=P^6:=dj _ _ r;have W:T<=T*P^6:=ar _ B;refine⟨8*T,(L.pre n F.lo F.hi).red D n b,by omega,λg G=>?_⟩;have o:(red m k (pre k f E) k k).natAbs<=P:=by rw[red_k];exact pP
  have p:(red m k (pre k f E) g k).natAbs<=P:=by rw[Uc G.lo G.hi];have:=(fd_any (x:=pre k f E g k) b).1;omega
  have w:=fO (cP o p) 3;have A:(P*P)^3=P^6:=by rw[Eg,<-eT]
  rw[A] at w;rw[dY];exact bG _ (bG _ w)
theorem Aft.next{m k f:Nat}{E0 E:Mt}(S:k<m)(A:Aft m k E0 E)(F:Fst m k E f):Aft m k E0 (red m k (pre k f E))/\(red m k (pre k f E) k k).natAbs<(E k k).natAbs:=by
 have hkf:=F.lo;have I:=A.sg f F.lo F.hi;have ep:pre k f E=λi j=>E (sw k f i) j:=by unfold pre;rw[ju (.inr I.1)]
 rw[ep];have pk:∀j,(λi j=>E (sw k f i) j:Mt) k j=E f j:=λj=>by show E (sw k f k) j=_;rw[Nu]
 obtain⟨a,D⟩:∃a,a=(E k k).natAbs:=⟨_,rfl⟩;obtain⟨b,s⟩:∃b,b=(E f k).natAbs:=⟨_,rfl⟩;have l:0<b:=by have:=F.ne;omega
 have hab:b<a:=by omega
 -- the entries of the column ahead of the turn
 have J:∀i,k<i->i<m->(E (sw k f i) k).natAbs<=a/\0<=E (sw k f i) k*E f k:=λi n d=>by
  by_cases e:i=f
  ·subst e;rw[G7 (by omega)];exact⟨by omega,by rw[bD];exact I.2⟩
  ·rw[sw_c (by omega) e];have:=A.sg i n d;refine⟨by omega,?_⟩;have h3:=dP this.2 I.2;have W:E i k*E k k*(E f k*E k k)=E i k*E f k*(E k k*E k k):=by rw[bT,bT];congr 1;rw[<-bT,bD (E k k) (E f k),bT]
   rw[W] at h3;have nz:=A.nz
   have sq:0<E k k*E k k:=by
    rcases gA nz with h | h
    ·exact Int.mul_pos_of_neg_of_neg h h
    ·exact Int.mul_pos h h
   refine i9.mp λz=>?_;have:=gG z sq;omega
 have ent:∀i,k<i->i<m->∀j,red m k (λi j=>E (sw k f i) j) i j=E (sw k f i) j-(E (sw k f i) k).fdiv (E f k)*E f j:=λi n d j=>by rw[Uc n d,Nu]
 have piv:∀j,red m k (λi j=>E (sw k f i) j) k j=E f j:=λj=>by rw[red_k];exact pk j
 have q:∀i,k<i->i<m->(red m k (λi j=>E (sw k f i) j) i k).natAbs=(E (sw k f i) k).natAbs%b/\0<=red m k (λi j=>E (sw k f i) j) i k*E f k/\((E (sw k f i) k).fdiv (E f k)).natAbs<=a/b:=λi n d=>by rw[ent i n d];have v:=J i n d;have:=Ir v.2 F.ne;rw[<-s] at this;exact⟨this.2.1,this.2.2,by rw[this.1];exact Nat.div_le_div_right v.1⟩
 have two:∀g,Fst m k (red m k (λi j=>E (sw k f i) j)) g->2*(red m k (λi j=>E (sw k f i) j) g k).natAbs<=a:=λg o=>by
   have B:=(q f F.lo F.hi).1;rw[G7 (by omega),<-D] at B;have da:=jU a b;have d1:1<=a/b:=(Nat.one_le_div_iff l).mpr (by omega);have d2:b*1<=b*(a/b):=bG _ d1;have ml:=ij a l;by_cases e:g=f
   ·subst e;rw[B];omega
   ·have gf:f<g:=by
     refine cx (f9.mp λz=>?_) (λz=>e z.symm);refine o.ne ?_;have w:=(q g o.lo o.hi).1;rw[sw_c (by have:=o.lo;omega) e,F.ze g o.lo z] at w;have:(red m k (λi j=>E (sw k f i) j) g k).natAbs=0:=by rw[w];simp
     omega
    have Z:=o.ze f F.lo gf;rw[Z] at B;have r0:a%b=0:=by rw[<-B];rfl
    have r1:=(q g o.lo o.hi).1;have r2:=ij (E (sw k f g) k).natAbs l
    have U:2<=a/b:=by
     refine f9.mp λz=>?_;have:a/b=1:=by omega
     rw[this] at da;omega
    have d4:b*2<=b*(a/b):=bG _ U;omega
 refine⟨⟨by rw[piv];exact F.ne,λi n d=>?_,λL O=>?_,λP n d=>by rw[piv];have:=A.pv P n d;omega,λj N M P H=>?_,λT P R hT hP n d=>?_⟩,by rw[piv];omega⟩
 ·have r:=q i n d;rw[piv,r.1];exact⟨by rw[<-s];exact ij _ l,r.2.1⟩
 ·exfalso;have e:=A.dv L O;have:=F.ne;rw[e,Uc F.lo F.hi] at this;obtain⟨c,hc⟩:=O f F.lo F.hi;rw[hc,dH _ L,bD c] at this;exact this (by omega)
 ·obtain⟨p,u,Q,y⟩:=A.po j N M P H;have t:=y f F;rw[<-D,<-s] at t;generalize N*(M+2)*P^3=G at t Q y ⊢
  have X:Bo m k j (p*(1+a/b)) (red m k (λi j=>E (sw k f i) j)):=λi n d=>by
   by_cases e:i=k
   ·subst e;rw[piv];exact aQ (u f (by omega) F.hi) (ar _ (aZ Nat.one_pos (dM 1 _)))
   ·rw[ent i (by omega) d];refine Nv (u _ ?_ (sw_lt S F.hi d)) (u f (by omega) F.hi) (q i (by omega) d).2.2;unfold sw;split<;>(try split)<;>omega
  have n1:p*(1+a/b)*b<=2*(p*a):=by rw[dY,iH,iI,df];refine bG _ ?_;have:=Nat.div_mul_le_self a b;omega
  have n2:p*a<=G:=by refine aQ ?_ t;exact ar _ (Nat.mul_pos (by omega) l)
  refine⟨_,X,?_,λg o=>?_⟩
  ·have:p*(1+a/b)<=p*(1+a/b)*b:=ar _ l;omega
  ·rw[piv,<-s];have two:=two g o;generalize (red m k (λi j=>E (sw k f i) j) g k).natAbs=v at two ⊢;have s1:p*(1+a/b)*b*(b*v)<=2*(p*a)*(b*v):=dF _ n1;have s2:2*(p*a)*(b*v)=p*a*(b*(2*v)):=by rw[br 2,dY,df 2 b v]
   have Y:p*a*(b*(2*v))<=p*a*(b*a):=bG _ (bG _ two);rw[br b a] at Y;omega
 ·obtain⟨x,u,Q,y⟩:=A.mn T P R hT hP n d;have t:=y f F;rw[<-D,<-s] at t;have C:1<=(a*b)^3:=dj _ _ (Nat.mul_pos (by omega) l);have t1:x<=x*(a*b)^3:=ar _ C;have m1:=u.rows (sw k f) λi n d=>by have:=F.hi;unfold sw;split<;>(try split)<;>omega
  refine⟨8*x,m1.red R S (by show E (sw k f k) k≠0;rw[Nu];exact F.ne),by omega,λg o=>?_⟩;have two:=two g o;rw[piv,<-s];generalize (red m k (λi j=>E (sw k f i) j) g k).natAbs=v at two ⊢
  have s1:(2*(b*v))^3<=(a*b)^3:=fO (by
   rw[df,br a b];exact bG _ two) 3
  rw[Eg 2] at s1;have s2:8*x*(b*v)^3=x*(2^3*(b*v)^3):=by rw[br 8,dY]
  rw[s2];exact aQ (bG _ s1) t
structure CL(m k:Nat)(E0 E:Mt):Prop where
 rt:RT m k E0 E
 z:∀i,k<i->i<m->E i k=0
 same:E0 k k≠0->(∀i,k<i->i<m->E0 k k∣E0 i k)->∀i j,i<m->E i j=red m k E0 i j
 bd:∀j N M P,Hyp m k E0 j N M P->Bo m k j (2*(N*(M+2)*P^3)) E
 mn:∀T P,m<=7->Mn m k T E0->1<=P->(E0 k k≠0->(E0 k k).natAbs<=P)->(E0 k k=0->∀i,k<i->i<m->(E0 i k).natAbs<=P)->Mn m k (64*(T*P^6)) E
theorem CL.aft{m k:Nat}{E0 E:Mt}(r:RT m k E0 E)(A:Aft m k E0 E)(z:∀i,k<i->i<m->E i k=0):CL m k E0 E:=
 ⟨r,z,λh e i j _=>by rw[A.dv h e],λj N M P H=>by
  obtain⟨o,a,d,_⟩:=A.po j N M P H
  exact λi b c=>aQ (a i b c) d,λT P f l g b c=>by
  obtain⟨n,a,d,_⟩:=A.mn T P f l g b c;exact a.up d⟩
theorem CL.refl{m k:Nat}{E:Mt}(z:∀i,k<i->i<m->E i k=0):CL m k E E:=
 ⟨RT.refl,z,λh _ i j g=>by
  unfold red;split
  ·rename_i q;rw[z i q.1 q.2,Int.zero_fdiv,b5,jD]
  ·rfl,λj N M P H i b e=>by
  refine aQ (H.bo i b e) ?_;have c3:1<=P^3:=dj _ _ H.one;have:N<=N*(M+2):=ar N (by omega);have:N*(M+2)<=N*(M+2)*P^3:=ar _ c3
  omega,λT P f d c _ _=>d.up (by
  have a:1<=P^6:=dj _ _ c;have l:T<=T*P^6:=ar _ a;omega)⟩
structure Bs(m:Nat)(A0:Mt)(D:Int):Prop where
 sym:EqM m (tr A0) A0
 z:∃Z0,EqM m (mul m Z0 A0) (λi j=>D*one i j)
 nz:D≠0
 m7:m<=7
theorem Adm.trs{m:Nat}{b E:Mt}(d:EqM m (PM.tr b) b)(h:Adm m b E):Adm m b (PM.tr E):=by have a:=h.tr;exact⟨a.ex,λi j e c=>(mul_congr (λ_ _=>rfl) λk f=>(d.mulL k j f c).symm).trans (a.val i j e c),a.nil⟩
structure Cr(m k:Nat)(A0 E:Mt):Prop where
 adm:Adm m A0 E
 d1:∀i j,i<k->j<m->j≠i->E i j=0/\E j i=0
 d2:∀i,i<k->1<=E i i
 d3:∀i a b,i<k->i<=a->i<=b->a<m->b<m->E i i∣E a b
theorem Cr.rt{m k:Nat}{o E l:Mt}(c:Cr m k o E)(r:RT m k E l):Cr m k o l:=by
 refine⟨c.adm.rt r,λi j d g p=>⟨by rw[r.up i j d];exact(c.d1 i j d g p).1,?_⟩,λi d=>by rw[r.up i i d];exact c.d2 i d,λi a b d t n f e=>?_⟩
 ·by_cases q:j<k
  ·rw[r.up j i q];exact(c.d1 i j d g p).2
  ·exact fR.mp (r.dvd (c:=0) (λx s h=>fR.mpr (c.d1 i x d h (by omega)).2) j (by omega) g)
 ·rw[r.up i i d];by_cases q:a<k
  ·rw[r.up a b q];exact c.d3 i a b d t n f e
  ·exact r.dvd (λx s h=>c.d3 i x b d (by omega) n h e) a (by omega) f
theorem Cr.tr{m k:Nat}{g E:Mt}{D:Int}(b:Bs m g D)(c:Cr m k g E):Cr m k g (PM.tr E):=
 ⟨c.adm.trs b.sym,λi j d h l=>⟨(c.d1 i j d h l).2,(c.d1 i j d h l).1⟩,c.d2,λi a b d o n f e=>c.d3 i b a d n o e f⟩
theorem Cr.col{m k:Nat}{d E:Mt}{D:Int}(b:Bs m d D)(c:Cr m k d E){j:Nat}{x:Int}(g:k<=j)(a:j<m)(h:∀i,k<=i->i<m->x∣E i j):x∣D:=by
 obtain⟨l,e⟩:=b.z;refine c.adm.div e a λi f=>?_;by_cases q:i<k
 ·rw[(c.d1 i j q a (by omega)).1];exact cD x
 ·exact h i (by omega) f
theorem Cr.piv{m k:Nat}{a E:Mt}{D:Int}(b:Bs m a D)(c:Cr m k a E)(e:k<m)(z:∀i,k<i->i<m->E i k=0):E k k≠0/\E k k∣D:=by
 have:E k k∣D:=c.col b (aH k) e λi f d=>by
  by_cases q:i=k
  ·rw[q];exact fA _
  ·rw[z i (by omega) d];exact cD _
 exact⟨λh=>b.nz (fR.mp (h▸this)),this⟩
theorem Dq{a b:Int}(h:a∣b)(f:b≠0)(n:¬b∣a):2*a.natAbs<=b.natAbs:=by
 obtain⟨c,d⟩:=h;have e:b.natAbs=a.natAbs*c.natAbs:=by rw[d,b7]
 have g:c.natAbs≠0:=λz=>f (by rw[d,Int.natAbs_eq_zero.mp z,bR])
 have c1:c.natAbs≠1:=λz=>n (by
  refine ba.mp ?_;rw[e,z,Nat.mul_one];exact Nat.dvd_refl _)
 have:a.natAbs*2<=a.natAbs*c.natAbs:=bG _ (by omega);omega
structure RZ(m k e β γ:Nat)(A0 E:Mt):Prop where
 cr:Cr m k A0 E
 nz:E k k≠0
 pb:(E k k).natAbs<=2^e
 rz:∀j,k<j->j<m->E k j=0
 mb:Mn m k (2^β) E
 lb:∀i j,i<m->j<m->(E i (m+j)).natAbs<=2^γ
 rb:∀i j,i<m->j<m->(E (m+i) j).natAbs<=2^γ
theorem RZ.ab{m k e a g:Nat}{d E:Mt}(h:RZ m k e a g d E):∀i j,k<=i->i<m->k<=j->j<m->(E i j).natAbs<=2^a:=λi j c b f l=>h.mb.ab c b f l
theorem pw2{a b:Nat}(h:a<=b):2^a<=2^b:=iJ (by omega) h
theorem bits3(g u e:Nat):2*(2^g*(2^u+2)*(2^e)^3)<=2^(g+u+3*e+3):=by
 have b:2^u+2<=2^(u+2):=by have:=b6 (n:=u);rw[dG,dG];omega
 have a:(2^e)^3=2^(3*e):=by rw[<-Nat.pow_mul,br]
 rw[a];have c:2^g*(2^u+2)*2^(3*e)<=2^g*2^(u+2)*2^(3*e):=dF _ (bG _ b);rw[<-eT,<-eT] at c;have d:2^(g+u+3*e+3)=2*2^(g+(u+2)+3*e):=by rw[show g+u+3*e+3=(g+(u+2)+3*e)+1 by omega,dG];omega
 rw[d];omega
theorem CL.beside{m k e u a:Nat}{E b:Mt}(c:CL m k E b)(h:1<=2^e)(pv:E k k≠0->(E k k).natAbs<=2^e)(n:E k k=0->∀i,k<i->i<m->(E i k).natAbs<=2^e)(l:∀i,k<=i->i<m->(E i k).natAbs<=2^u)
  (f:∀i j,i<m->j<m->(E i (m+j)).natAbs<=2^a):∀i j,i<m->j<m->(b i (m+j)).natAbs<=2^(a+u+3*e+3):=λi j g d=>by
 by_cases q:i<k
 ·rw[c.rt.up i _ q];exact aQ (f i j g d) (pw2 (by omega))
 ·exact aQ (c.bd (m+j) (2^a) (2^u) (2^e) ⟨λx p o=>f x j o d,h,pv,n,.inl l⟩ i (by omega) g) (bits3 _ _ _)
theorem HS{m k e p s:Nat}{o:Nat->Nat}{r E a:Mt}{D:Int}(b:Bs m r D)(x:k<m)(h:RZ m k e (o e) p r E)(c:CL m k E a)(M:o e+3*e+3<=s)(I:∀f,e=f+1->Mn m k (2^(o f)) a) :
  (RZ m k e (o e) (p+s) r a/\RZ m k e (o e) (p+s) r (tr a)/\∀i,k<i->i<m->E k k∣E i k)\/
   (∃f,e=f+1/\RZ m k f (o f) (p+s) r (tr a)/\¬ ∀i,k<i->i<m->E k k∣E i k):=by
 have v:=h.cr.rt c.rt
 have A:∀i j,i<m->j<m->(a i (m+j)).natAbs<=2^(p+s):=λi j l g=>
  aQ (c.beside (e:=e) (u:=o e) b6 (λ_=>h.pb) (λz=>absurd z h.nz) (λi n d=>h.ab i k n d (aH _) x) h.lb i j l g) (pw2 (by omega))
 have B:∀i j,i<m->j<m->(a (m+i) j).natAbs<=2^(p+s):=λi j l g=>by rw[c.rt.low _ _ (by omega)];exact aQ (h.rb i j l g) (pw2 (by omega))
 by_cases all:∀i,k<i->i<m->E k k∣E i k
 ·refine .inl ?_;have H:=c.same h.nz all;have t:∀j,a k j=E k j:=λj=>by rw[H k j x,red_k]
  have C:Mn m k (2^(o e)) a:=h.mb.same (q:=λi=>if k<i/\i<m then(E i k).fdiv (E k k) else 0) (by show(if k<k/\k<m then _ else _:Int)=0;rw[jv (by omega)]) (λi j n d=>by
   rw[H i j d];show red m k E i j=E i j-(if k<i/\i<m then(E i k).fdiv (E k k) else 0)*E k j;by_cases q:k<i
   ·rw[Uc q d,ju ⟨q,d⟩]
   ·rw[jv (λw=>q w.1),show i=k by omega,red_k];omega) c.z h.rz
  exact⟨⟨v,by rw[t];exact h.nz,by rw[t];exact h.pb,λj n d=>by rw[t];exact h.rz j n d,C,A,B⟩,
   ⟨v.tr b,by show a k k≠0;rw[t];exact h.nz,by show(a k k).natAbs<=_;rw[t];exact h.pb,λj n d=>c.z j n d,C.tr,λi j l g=>B j i g l,λi j l g=>A j i g l⟩,all⟩
 ·refine .inr ?_;have pv:=v.piv b x c.z
  have F:∀i,k<=i->i<m->a k k∣E i k:=c.rt.back.dvd λi n d=>by
   by_cases q:i=k
   ·rw[q];exact fA _
   ·rw[c.z i (by omega) d];exact cD _
  have L:2*(a k k).natAbs<=(E k k).natAbs:=Dq (F k (aH _) x) h.nz λz=>all λi n d=>Int.dvd_trans z (F i (by omega) d);have G:=h.pb;have J:1<=(a k k).natAbs:=by have:=pv.1;omega
  obtain⟨f,rfl⟩:∃f,e=f+1:=by
   cases e with
   | zero=>exfalso;rw[Nat.pow_zero] at G;omega
   | succ f=>exact⟨f,rfl⟩
  have y:(a k k).natAbs<=2^f:=by rw[dG] at G;omega
  exact⟨f,rfl,⟨v.tr b,pv.1,y,λj n d=>c.z j n d,(I f rfl).tr,λi j l g=>B j i g l,λi j l g=>A j i g l⟩,all⟩
structure Bv(m k e0:Nat)(s β:Nat->Nat)(A0:Mt):Prop where
 hs:∀e,e<=e0->β e+3*e+3<=s e
 cl:∀e γ E E',e<e0->RZ m k (e+1) (β (e+1)) γ A0 E->CL m k E E'->Mn m k (2^(β e)) E'
theorem HV{m k e l j:Nat}{s f:Nat->Nat}{a E d:Mt}{D:Int}(b:Bs m a D)(B:Bv m k l s f a)(o:k<m)(p:e<=l)(h:RZ m k e (f e) j a E)(c:CL m k E d) :
  (RZ m k e (f e) (j+s e) a d/\RZ m k e (f e) (j+s e) a (tr d)/\∀i,k<i->i<m->E k k∣E i k)\/
   (∃g,e=g+1/\RZ m k g (f g) (j+s e) a (tr d)/\¬ ∀i,k<i->i<m->E k k∣E i k):=
 HS b o h c (B.hs e p) λg n=>by subst n;exact B.cl g j E d (by omega) h c
noncomputable def f1(s:Nat->Nat):Nat->Nat
 | 0=>0
 | e+1=>f1 s e+s e+s (e+1)
noncomputable def f2(s:Nat->Nat):Nat->Nat
 | 0=>0
 | e+1=>f2 s e+s e+s (e+1)+(2*s e+1)
theorem f1_mono(s:Nat->Nat){a b:Nat}(h:a<=b):f1 s a<=f1 s b:=by
 induction b with
 | zero=>rw[show a=0 by omega];exact aH _
 | succ b ih=>
  by_cases q:a=b+1
  ·rw[q];exact aH _
  ·have:=ih (by omega);show f1 s a<=f1 s b+s b+s (b+1);omega
theorem f2_step(s:Nat->Nat){a b:Nat}(h:a<b):f2 s a+f1 s b+2*s a+1<=f2 s b+f1 s a:=by
 induction b with
 | zero=>omega
 | succ b ih=>
  show f2 s a+(f1 s b+s b+s (b+1))+2*s a+1<=f2 s b+s b+s (b+1)+(2*s b+1)+f1 s a;by_cases q:a=b
  ·subst q;omega
  ·have:=ih (by omega);omega
theorem f2_ge(s:Nat->Nat)(a:Nat):f1 s a<=f2 s a:=by
 induction a with
 | zero=>exact aH _
 | succ a ih=>
  show f1 s a+s a+s (a+1)<=f2 s a+s a+s (a+1)+(2*s a+1);omega
theorem f2_le(s:Nat->Nat){a b:Nat}(h:a<=b):f2 s a+f1 s b<=f2 s b+f1 s a:=by
 by_cases q:a=b
 ·subst q;omega
 ·have:=f2_step s (show a<b by omega);omega
theorem turnV{m k e u n:Nat}{s j:Nat->Nat}{d E F o:Mt}{D:Int}(b:Bs m d D)(B:Bv m k u s j d)(r:k<m)(w:e<=u)(h:RZ m k e (j e) n d (tr E))(c:CL m k (tr E) F)(t:CL m k (tr F) o) :
  (∃e' γ',e'<=e/\γ'+f1 s e'<=n+f1 s e+2*s e'/\RZ m k e' (j e') γ' d o/\RZ m k e' (j e') γ' d (tr o)/\((¬ ∀i,k<i->i<m->E k k∣E k i)->e'<e))\/
   (∃e' γ',e'<e/\γ'+f1 s e'<=n+f1 s e/\RZ m k e' (j e') γ' d (tr o)):=by
 rcases HV b B r w h c with⟨q,A,g⟩ | ⟨l,rfl,q,v⟩
 ·rcases HV b B r w A t with⟨f,p,_⟩ | ⟨a,rfl,f,v⟩
  ·exact .inl ⟨e,_,aH _,by omega,f,p,λz=>absurd g z⟩
  ·exfalso;refine v λi x y=>?_;have:tr F i k=0:=q.rz i x y;rw[this];exact cD _
 ·rcases HV b B r (by omega) q t with⟨f,p,_⟩ | ⟨a,rfl,f,_⟩
  ·refine .inl ⟨l,_,by omega,?_,f,p,λ_=>by omega⟩;show _<=n+(f1 s l+s l+s (l+1))+2*s l;omega
  ·refine .inr ⟨a,_,by omega,?_,f⟩;show _<=n+(f1 s a+s a+s (a+1)+s (a+1)+s (a+1+1));omega
end PM
namespace PW
open L2 VL
structure SInv(m:Nat)(A E:Mt)(d:Int)(p:Nat):Prop where
 dp:0<d
 off:∀i j,p<=i->i<m->p<=j->j<m->i≠j->E i j<=0
 row:∀i,p<=i->i<m->0<=sN m λj=>if j<p then 0 else E i j
 dia:∀i,p<=i->i<m->E i i<=d*A i i
theorem SInv.piv{m p:Nat}{A E:Mt}{d:Int}(S:SInv m A E d p)(a:p<m):0<=E p p:=by
 have h:=S.row p (aH p) a;have e:=ZW (n:=m) (f:=λj=>if j=p then E p p else 0) a λi _ ne=>jv ne
 have l:=Xf (n:=m) (f:=λj=>(if j=p then E p p else 0)+(-1)*(if j<p then 0 else E p j)) λj b=>by
  by_cases q:j=p
  ·subst q;rw[ju rfl,jv (by omega)];omega
  ·rw[jv q];split
   ·omega
   ·have:=S.off p j (aH p) a (by omega) b (λz=>q z.symm);omega
 rw[Yc,ZN,e,ju rfl] at l;omega
theorem SInv.step{m p:Nat}{A X E:Mt}{d:Int}(ok:Ec m A X)(f:p<m)(I:Il m A X p E d)(S:SInv m A E d p):SInv m A (λi j=>if i=p then E i j else(E p p*E i j-E i p*E p j).fdiv d) (E p p) (p+1):=by
 obtain⟨u,r⟩:=SY ok f I;have h:0<E p p:=by have:=S.piv f;have:=u.nz;omega
 have n:=S.dp;have l:∀i j,p+1<=i->i<m->j<m->d*(if i=p then E i j else(E p p*E i j-E i p*E p j).fdiv d)=E p p*E i j-E i p*E p j:=λi j c b k=>by obtain⟨q,e⟩:=r i j b (by omega) (by omega);rw[jv (by omega),e,dH _ (by omega)]
 have o:∀i j,p+1<=i->i<m->p+1<=j->j<m->0<=E i p*E p j:=λi j c b k g=>
  Int.mul_nonneg_of_nonpos_of_nonpos (S.off i p (by omega) b (aH p) f (by omega)) (S.off p j (aH p) f (by omega) g (by omega))
 refine⟨h,λi j c b k g ne=>?_,λi c b=>?_,λi c b=>?_⟩
 ·refine dw (a:=d) ?_ n;rw[l i j c b g,bR];have:=Int.mul_nonpos_of_nonneg_of_nonpos (fQ h) (S.off i j (by omega) b (by omega) g ne);have:=o i j c b k g;omega
 ·refine dw (a:=d) ?_ n;rw[bR,<-ZN]
  have e:(sN m λj=>d*(if j<p+1 then 0 else if i=p then E i j else(E p p*E i j-E i p*E p j).fdiv d))=sN m λj=>E p p*(if j<p then 0 else E i j)+(- E i p)*(if j<p then 0 else E p j):=Zh λj s=>by
   by_cases q:j<p
   ·rw[ju (by omega),ju q,ju q];simp
   ·rw[jv q,jv q];by_cases t:j=p
    ·subst t;rw[ju (by omega),bS,bD (E i j)];omega
    ·rw[jv (by omega),l i j c b s,bS];omega
  rw[e,Yc,ZN,ZN];have:=dP (fQ h) (S.row i (by omega) b);have:=dP (a:=- E i p) (by have:=S.off i p (by omega) b (aH p) f (by omega);omega) (S.row p (aH p) f);omega
 ·refine dw (a:=d) ?_ n;rw[l i i c b b];have:=o i i c b c b;have:=Int.mul_le_mul_of_nonneg_left (S.dia i (by omega) b) (fQ h);rw[dE] at this;omega
noncomputable def Eh(A:Mt):Nat->Int
 | 0=>1
 | p+1=>Eh A p*A p p
theorem KU{m:Nat}{A X:Mt}(ok:Ec m A X)(o:∀i j,i<m->j<m->i≠j->A i j<=0)(r:∀i,i<m->0<=sN m (A i))(a:∀i,i<m->0<=A i i):∀{p:Nat},p<=m->SInv m A (Lp m X p).1 (Lp m X p).2 p/\(Lp m X p).2<=Eh A p
 | 0,_=>⟨⟨by show(0:Int)<1;decide,λi j _ b _ c ne=>by show X i j<=0;rw[ok.ext i j b c];exact o i j b c ne,λi _ b=>by
   rw[Zh (g:=A i) λj c=>by rw[jv (by omega)];exact ok.ext i j b c];exact r i b,λi _ b=>by show X i i<=1*A i i;rw[ok.ext i i b b];omega⟩,fI _⟩
 | p+1,h=>by obtain⟨S,l⟩:=KU ok o r a (p:=p) (by omega);refine⟨S.step ok (by omega) (W8 ok (by omega)),?_⟩;have d:=S.dia p (aH p) (by omega);exact Int.le_trans d (Int.mul_le_mul_of_nonneg_right l (a p (by omega)))
end PW
namespace PM
open PW
theorem Hl(g e:Nat):64*(2^g*(2^e)^6)=2^(g+6*e+6):=by rw[<-Nat.pow_mul,<-eT,eT 2 _ 6,br 64,br e 6]
noncomputable def ad:Nat->Nat
 | 0=>0
 | n+1=>ad n+(6*(n+1)+6)
theorem Iu{a b:Nat}(h:a<=b):ad a<=ad b:=by
 induction b with
 | zero=>rw[show a=0 by omega];exact aH _
 | succ b ih=>
  by_cases q:a=b+1
  ·rw[q];exact aH _
  ·have:=ih (by omega);show ad a<=ad b+_;omega
noncomputable def be(t e0 e:Nat):Nat:=t+(ad e0-ad e)
noncomputable def sB(β:Nat->Nat)(e:Nat):Nat:=β e+3*e+3
theorem Bv.gen{m k d t:Nat}{f:Mt}{D:Int}(b:Bs m f D):Bv m k d (sB (be t d)) (be t d) f:=
 ⟨λe _=>aH _,λe n E g j h c=>by
  refine(c.mn _ (2^(e+1)) b.m7 h.mb b6 (λ_=>h.pb) λz=>absurd z h.nz).up ?_;rw[Hl];refine pw2 ?_;unfold be;have l:ad (e+1)=ad e+(6*(e+1)+6):=rfl;have i:=Iu (a:=e+1) (b:=d) (by omega);omega⟩
noncomputable def bE(t e:Nat):Nat:=if 20<=e then t else 210
theorem Bv.end{m k t:Nat}{f:Mt}{D:Int}(b:Bs m f D)(A:k<m)(p:D.natAbs<=2^20)(G:m<=k+2):Bv m k 20 (sB (bE t)) (bE t) f:=by
 refine⟨λe _=>aH _,λe L E o M h c=>?_⟩;have g:∀{x:Int},x∣D->x.natAbs<=2^20:=λ{x} d=>aQ (dZ (by have:=b.nz;omega) (ba.mpr d)) p;have v:=h.cr.rt c.rt
 have ent:∀i j,k<=i->i<m->k<=j->j<m->(o i j).natAbs<=2^103:=λi j u l C a=>by
  by_cases y:j=k
  ·subst y;by_cases q:i=j
   ·rw[q];exact aQ (g (v.piv b A c.z).2) (pw2 (by omega))
   ·rw[c.z i (by omega) l];exact cB _
  ·have r:m=k+2:=by omega
   have B:j=k+1:=by omega
   have w:∀i,k<=i->i<m->(E i j).natAbs<=2^20:=λi H I=>by
    by_cases q:i=k
    ·rw[q,h.rz j (by omega) a];exact cB _
    ·have s:i=j:=by omega
     rw[s];refine g (h.cr.col b (by omega) a λx F J=>?_);by_cases q:x=k
     ·rw[q,h.rz j (by omega) a];exact cD _
     ·rw[show x=j by omega];exact fA _
   exact aQ (c.bd j (2^20) (2^(e+1)) (2^(e+1)) ⟨w,b6,λ_=>h.pb,λz=>absurd z h.nz,.inr ⟨r,h.rz j (by omega) a,h.nz,h.pb⟩⟩ i u l) (aQ (bits3 _ _ _) (pw2 (by omega)))
 refine(Mn.ent (n:=2) b6 (by omega) ent).up ?_;unfold bE;rw[jv (by omega)];decide
theorem f2_top{s:Nat->Nat}{S:Nat}:∀{n:Nat},(∀e,e<=n->s e<=S)->f2 s n<=n*(4*S+1)
 | 0,_=>cB _
 | n+1,h=>by have b:=f2_top (n:=n) λe d=>h e (by omega);have a:=h n (by omega);have c:=h (n+1) (aH _);show f2 s n+s n+s (n+1)+(2*s n+1)<=_;rw[iH];omega
theorem f2_end(t:Nat):f2 (sB (bE t)) 20<=t+23000:=by
 have b:=f2_top (s:=sB (bE t)) (S:=273) (n:=19) λe d=>by unfold sB bE;rw[jv (by omega)];omega
 show f2 (sB (bE t)) 19+sB (bE t) 19+sB (bE t) 20+(2*sB (bE t) 19+1)<=_;have a:sB (bE t) 19=270:=rfl;have c:sB (bE t) 20=t+3*20+3:=rfl;omega
structure Pl(m k a γ:Nat)(A0 E:Mt):Prop where
 cr:Cr m k A0 E
 mb:Mn m k (2^a) E
 lb:∀i j,i<m->j<m->(E i (m+j)).natAbs<=2^γ
 rb:∀i j,i<m->j<m->(E (m+i) j).natAbs<=2^γ
theorem Pl.ab{m k a f:Nat}{e E:Mt}(h:Pl m k a f e E):∀i j,k<=i->i<m->k<=j->j<m->(E i j).natAbs<=2^a:=λi j d c g b=>h.mb.ab d c g b
theorem Pl.first{m k a y s f:Nat}{t:Nat->Nat}{o E d:Mt}{D:Int}(b:Bs m o D)(g:k<m)(h:Pl m k a y o E)(c:CL m k E d)(z:(d k k).natAbs<=2^f)(w:7*a+6<=t f)(A:4*a+3<=s):RZ m k f (t f) (y+s) o (tr d):=by
 have v:=h.cr.rt c.rt;have col:∀i,k<=i->i<m->(E i k).natAbs<=2^a:=λi n r=>h.ab i k n r (aH _) g;refine⟨v.tr b,(v.piv b g c.z).1,z,λj n r=>c.z j n r,?_,λi j p l=>?_,λi j p l=>?_⟩
 ·refine((c.mn _ (2^a) b.m7 h.mb b6 (λ_=>col k (aH _) g) λ_ x w q=>col x (by omega) q).up ?_).tr;rw[Hl];exact pw2 (by omega)
 ·show(d (m+j) i).natAbs<=_;rw[c.rt.low _ _ (by omega)];exact aQ (h.rb j i l p) (pw2 (by omega))
 ·show(d j (m+i)).natAbs<=_;exact aQ (c.beside (e:=a) (u:=a) b6 (λ_=>col k (aH _) g) (λ_ x w q=>col x (by omega) q) col h.lb j i l p) (pw2 (by omega))
theorem Pl.small{m k a p X:Nat}{g E f:Mt}{D:Int}(b:Bs m g D)(j:k<m)(h:Pl m k a p g E)(c:CL m k E f)(r:∀i,k<=i->i<m->(E i k).natAbs<=X):(f k k).natAbs<=X/\(f k k).natAbs<=D.natAbs:=by
 have o:=h.cr.rt c.rt;have pv:=o.piv b j c.z;refine⟨?_,dZ (by have:=b.nz;omega) (ba.mpr pv.2)⟩
 have l:∀i,k<=i->i<m->f k k∣E i k:=c.rt.back.dvd λi e d=>by
  by_cases q:i=k
  ·rw[q];exact fA _
  ·rw[c.z i (by omega) d];exact cD _
 obtain⟨i,e,d,s⟩:∃i,k<=i/\i<m/\E i k≠0:=by refine bz λn=>pv.1 ?_;refine fR.mp (c.rt.dvd (c:=0) (λi e d=>?_) k (aH _) j);refine fR.mpr (bz λz=>n ⟨i,e,d,z⟩)
 have:=dZ (by omega) (ba.mpr (l i e d));have:=r i e d;omega
theorem RZ.unfit{m k e s d u:Nat}{n E:Mt}{D:Int}(b:Bs m n D)(y:k<m)(h:RZ m k e s d n E)(t:RZ m k e s d n (tr E))(v:k<u)(c:u<m):RZ m k e s (d+1) n (tr (λi j=>if i=k then E i j-1*E u j else E i j)):=by
 have r:=RT.sub (m:=m) (p:=k) (a:=k) (b:=u) (q:=1) (E:=E) (aH _) y (by omega) c (by omega);have w:E u k=0:=t.rz u v c;have p2:2^d+2^d=2^(d+1):=by rw[dG];omega
 have kk:(if k=k then E k k-1*E u k else E k k)=E k k:=by rw[ju rfl,w];omega
 refine⟨(h.cr.rt r).tr b,?_,?_,λj l o=>?_,?_,λi j f g=>?_,λi j f g=>?_⟩
 ·show(if k=k then E k k-1*E u k else E k k)≠0;rw[kk];exact h.nz
 ·show(if k=k then E k k-1*E u k else E k k).natAbs<=_;rw[kk];exact h.pb
 ·show(if j=k then E j k-1*E u k else E j k)=0;rw[jv (by omega)];exact t.rz j l o
 ·exact(h.mb.less v c (λj=>ju rfl) (λi j x=>jv x) (λi l o=>t.rz i l o) h.rz).tr
 ·show(if m+j=k then E (m+j) i-1*E u i else E (m+j) i).natAbs<=_;rw[jv (by omega)];exact aQ (h.rb j i g f) (pw2 (by omega))
 ·show(if j=k then E j (m+i)-1*E u (m+i) else E j (m+i)).natAbs<=_;split
  ·have l:=h.lb j i g f;have o:=h.lb u i c f;have:=gL (E j (m+i)) (1*E u (m+i));omega
  ·exact aQ (h.lb j i g f) (pw2 (by omega))
theorem Mn.next{m k T:Nat}{E g:Mt}(h:Mn m k T E)(e:∀i j,k<i->k<j->g i j=E i j):Mn m (k+1) T g:=λj l n f d=>by rw[ZG (B:=λa b=>E (l a) (n b)) λa b c o=>e _ _ (f a c).1 (d b o).1];exact h j l n (λa c=>⟨by have:=(f a c).1;omega,(f a c).2⟩) (λa c=>⟨by have:=(d a c).1;omega,(d a c).2⟩)
theorem RZ.next{m k e v y:Nat}{x E:Mt}(H:k<m)(h:RZ m k e v y x E)(B:RZ m k e v y x (tr E))(D:∀i j,k<i->i<m->j<m->E k k∣E i j):Pl m (k+1) v y x (λi j=>if i=k/\E k k<0 then-E i j else E i j):=by
 have l:∀i j,k<=i->i<m->k<=j->j<m->E k k∣E i j:=λi j F C I A=>by
  by_cases q:i=k
  ·rw[q];by_cases G:j=k
   ·rw[G];exact fA _
   ·rw[h.rz j (by omega) A];exact cD _
  ·exact D i j (by omega) C A
 by_cases s:E k k<0
 ·have r:=RT.neg (m:=m) (p:=k) (a:=k) (E:=E) (aH _) H
  have e:(λi j=>if i=k/\E k k<0 then-E i j else E i j)=(λi j=>if i=k then-E i j else E i j):=by
   funext i j;by_cases q:i=k
   ·rw[ju ⟨q,s⟩,ju q]
   ·rw[jv (λz=>q z.1),jv q]
  rw[e];have c:=h.cr.rt r;refine⟨⟨c.adm,λi j n g u=>?_,λi n=>?_,λi a b n t o f d=>?_⟩,h.mb.next λi j F C=>jv (by omega),λi j n g=>?_,λi j n g=>?_⟩
  ·by_cases q:i=k
   ·subst q;refine⟨?_,?_⟩
    ·show(if i=i then _ else _)=_;rw[ju rfl];by_cases w:j<i
     ·have:=(h.cr.d1 j i w (by omega) (by omega)).2;rw[this];rfl
     ·rw[h.rz j (by omega) g];rfl
    ·show(if j=i then _ else _)=_;rw[jv u];by_cases w:j<i
     ·exact(h.cr.d1 j i w (by omega) (by omega)).1
     ·exact B.rz j (by omega) g
   ·exact c.d1 i j (by omega) g u
  ·by_cases q:i=k
   ·subst q;show 1<=(if i=i then _ else _);rw[ju rfl];omega
   ·exact c.d2 i (by omega)
  ·by_cases q:i=k
   ·subst q;show(if i=i then-E i i else E i i)∣(if a=i then-E a b else E a b);rw[ju rfl,Int.neg_dvd];split
    ·exact Int.dvd_neg.mpr (l a b t f o d)
    ·exact l a b t f o d
   ·exact c.d3 i a b (by omega) t o f d
  ·show(if i=k then-E i (m+j) else E i (m+j)).natAbs<=_;split
   ·rw[eu];exact h.lb i j n g
   ·exact h.lb i j n g
  ·show(if m+i=k then _ else _:Int).natAbs<=_;rw[jv (by omega)];exact h.rb i j n g
 ·have e:(λi j=>if i=k/\E k k<0 then-E i j else E i j)=E:=by funext i j;rw[jv (λz=>s z.2)]
  rw[e];refine⟨⟨h.cr.adm,λi j n g u=>?_,λi n=>?_,λi a b n t o f d=>?_⟩,h.mb.next λi j _ _=>rfl,h.lb,h.rb⟩
  ·by_cases q:i=k
   ·subst q;by_cases w:j<i
    ·have:=h.cr.d1 j i w (by omega) (by omega);exact⟨this.2,this.1⟩
    ·exact⟨h.rz j (by omega) g,B.rz j (by omega) g⟩
   ·exact h.cr.d1 i j (by omega) g u
  ·by_cases q:i=k
   ·subst q;have:=h.nz;omega
   ·exact h.cr.d2 i (by omega)
  ·by_cases q:i=k
   ·subst q;exact l a b t f o d
   ·exact h.cr.d3 i a b (by omega) t o f d
end PM
namespace PW
open PySem L2 VL VX
theorem Mk{F:XS}{x:XT}{s:ZA}{k:Nat}(J:Nat->ZA->Prop)(g:J k s)(st:∀k s,J k s->x s=aA aB\/(x s=aA aC/\Xn F s λs2=>∃k',k'<k/\J k' s2)):Xn (XG x F) s λd=>∃k,J k d/\x d=aA aB:=by
 obtain⟨d,k',a,b,c⟩:=G6 (c:=x) (fb:=F) J (λk s h=>by
  rcases st k s h with z | ⟨z,s2,e,k',i,f⟩
  ·exact .inl z
  ·exact .inr ⟨z,s2,k',e,i,f⟩) g
 exact⟨d,a,k',b,c⟩
noncomputable def cR(w:Nat)(f:Nat->Int):PV:=.cst (iL (ZM w f))
noncomputable def bL(w:Nat)(E:Mt):List PV:=(aJ w).map λi=>cR w (E i)
section
variable {w m k i j a:Nat} {E E':Mt} {f g h:XE} {s:ZA}
theorem Vx:(bL w E).length=w:=by simp[bL]
theorem Nw(a:i<w):(bL w E)[i]?=aA (cR w (E i)):=by unfold bL;rw[aR,bB a];rfl
theorem Wl(f:Nat->Int):ZJ (cR w f)=aC:=Z1 _
theorem Q1:Zw (bL w E)=aC:=by rw[YE,ak];intro x a;obtain⟨i,_,rfl⟩:=bt.mp a;exact Wl _
theorem G8{v:Nat->Int}(c:a<w):(bL w E).set a (cR w v)=bL w (Yl a v E):=by
 apply cO;intro i;rw[aj,Vx];by_cases b:i<w
 ·rw[Nw (E:=Yl a v E) b];by_cases q:a=i
  ·subst q;rw[ju rfl,ju b,ZO]
  ·rw[jv q,Nw b,Yq _ _ (λz=>q z.symm)]
 ·rw[bJ (l:=bL w (Yl a v E)) (by rw[Vx];omega),jv (by omega)];exact bJ (by rw[Vx];omega)
theorem Rt(a:i<w)(q:f s=aA (.lst (bL w E)))(b:g s=aA (.int (i:Int))):Zj ZT f g s=aA (cR w (E i)):=o2 q b (WT (Nw a))
theorem Ei{v:Nat->Int}(a:j<w)(q:f s=aA (cR w v))(b:g s=aA (.int (j:Int))):Zj ZT f g s=aA (.int (v j)):=o2 q b (S2 a)
theorem Ud(b:i<w)(a:j<w)(q:f s=aA (.lst (bL w E)))(c:g s=aA (.int (i:Int)))(d:h s=aA (.int (j:Int))):Zj ZT (Zj ZT f g) h s=aA (.int (E i j)):=Ei a (Rt b q c) d
theorem Ol{v:Nat->Int}{c:Nat}(b:a<w)(q:f s=aA (.int (a:Int)))(d:g s=aA (cR w v))(e:Lk s c=aA (bL w E)):YF c f g s=aA (.nx (s.set c (aA (.lst (bL w (Yl a v E)))))):=by rw[RU d q e Q1 (Wl _) (W4 (by rw[Vx];exact b)),G8 b]
theorem UY{v:Nat->Int}(q:f s=aA (.lst (iL (ZM w v)))):Rk f s=aA (cR w v):=by unfold Rk;rw[q];show(XB (iL (ZM w v))).map _=_;rw[YY];rfl
theorem KW{u v:Nat->Int}:Uz (iL (ZM w u)) (iL (ZM w v))=(aJ w).map λj=>.tup [.int (u j),.int (v j)]:=by rw[Sm _ _ (by simp[ZZ]),aS,ZZ];refine bN λi a=>?_;have a:=aX.mp a;rw[Tx _ i (by rw[ZZ];exact a),Tx _ i (by rw[ZZ];exact a),Vw a,Vw a]
theorem KY{x:Int}{G:Nat}(h:x.natAbs<2^G)(a:0<G):x.natAbs.log2<G:=by
 by_cases z:x.natAbs=0
 ·rw[z];have:Nat.log2 0=0:=by decide
  omega
 ·exact(Nat.log2_lt z).mpr h
theorem Lc{x y:Int}{G:Nat}(h:x.natAbs<2^G)(c:y.natAbs<2^G)(a:0<G)(b:G<=67000000):CMulW x y:=⟨by have:=KY h a;omega,by have:=KY c a;omega⟩
theorem Ml{u v:Nat->Int}{q:Int}(b:w<=100)(c:∀j,j<w->CMulW q (v j)):UG [cR w u,cR w v,.int q]=aA (.lst (iL (ZM w λj=>u j-q*v j))):=by refine YU (ret (W9 (q:=λj=>.tup [.int (u j),.int (v j)]) (λj=>u j-q*v j) ?_ b λj a=>⟨_,rfl,vP (vI rfl (vC (C:=CMulW) (op:=(· * ·)) rfl rfl (c j a)))⟩));show aA (Uz (iL (ZM w u)) (iL (ZM w v)))=_;rw[KW]
noncomputable def bw(m k:Nat)(E:Mt):List Nat:=((aJ (m-(k+1))).map λi=>k+1+i).filter λi=>decide (E i k≠0)
theorem mem_bw{x:Nat}:x∈bw m k E↔k<x/\x<m/\E x k≠0:=by
 unfold bw;rw[fJ,bt];constructor
 ·rintro⟨⟨i,a,rfl⟩,h⟩;have:=aX.mp a;exact⟨by omega,by omega,of_decide_eq_true h⟩
 ·rintro⟨d,c,b⟩;exact⟨⟨x-(k+1),aX.mpr (by omega),by omega⟩,decide_eq_true b⟩
theorem Hm:(bw m k E).Pairwise (· < ·):=by unfold bw;refine List.Pairwise.filter _ (List.pairwise_map.mpr ?_);exact List.Pairwise.imp (λh=>by omega) List.pairwise_lt_range
theorem KZ{x:Nat}{r:List Nat}(e:bw m k E=x::r):PM.Fst m k E x:=by
 have a:=mem_bw.mp (show x∈bw m k E by rw[e];exact a0);refine⟨a.1,a.2.1,a.2.2,λi c d=>bz λz=>?_⟩;have b:i∈bw m k E:=mem_bw.mpr ⟨c,by omega,z⟩;have up:=Hm (m:=m) (k:=k) (E:=E);rw[e] at b up;rcases aa.mp b with q | q
 ·omega
 ·have:=List.rel_of_pairwise_cons up q;omega
theorem WO(d:m<=w)(c:w<=100)(f:k<m):Ys [.lst (bL w E),.int (m:Int),.int (k:Int)]=aA (.lst (iL (nL (bw m k E)))):=by
 have e:iL (nL (bw m k E))=(bw m k E).map λ(i:Nat)=>PV.int (i:Int):=by simp[nL]
 rw[e];refine YU (ret (V2 ((aJ (m-(k+1))).map λi=>k+1+i) (λ(i:Nat)=>PV.int (i:Int)) (λ(i:Nat)=>PV.int (i:Int)) (λi=>decide (E i k≠0)) ?_ (by simp;omega) λi b=>?_))
 ·rw[W3 (i:=(k:Int)+1) (j:=(m:Int)) (Dl rfl rfl) rfl (by omega) (by omega)];unfold X9;rw[cg,show((m:Int)-((k:Int)+1)).toNat=m-(k+1) by omega];congr 1
 ·obtain⟨x,a,rfl⟩:=bt.mp b;have:=aX.mp a;refine⟨_,rfl,xb (o2 (Ud (by omega) (by omega) rfl rfl rfl) rfl ?_),λ_=>vP rfl⟩;rw[Sk];simp
end
abbrev Fm(w m k:Nat)(E0 E:Mt)(x5 x6 x7:Option PV):ZA:=[aA (.lst (bL w E0)),aA (.int (m:Int)),aA (.int (k:Int)),aA (.lst (bL w E)),aA (.lst (iL (nL (bw m k E)))),x5,x6,x7]
theorem K0(x:Int):OU [.int x]=aA (.int (x.natAbs:Int)):=by
 show aA (PV.int (if x<0 then -x else x))=_;congr 2;split<;>omega
theorem Iv{k f:Nat}{E:Mt}(h:k≠f):Yl f (E k) (Yl k (E f) E)=λi j=>E (PM.sw k f i) j:=by
 funext i;unfold Yl PM.sw;by_cases q:i=f
 ·rw[ju q,jv (by omega),ju q]
 ·rw[jv q];by_cases a:i=k
  ·rw[ju a,ju a]
  ·rw[jv a,jv a,jv q]
noncomputable def Ru(X:List Nat)(k:Nat)(E:Mt):Mt:=λi j=>if i∈X then E i j-(E i k).fdiv (E k k)*E k j else E i j
theorem Iw{w m k:Nat}{E0 E a:Mt}{d f x7:Option PV}{G:Nat}(A:w<=100)(J:m<=w)(H:k<m)(L:0<G)(D:G<=60000000)(r:∀i j,k<=i->i<m->j<w->(a i j).natAbs<2^G)(p:a k k≠0) :
  Xn (YB [3] (VQ (Za 4)) (.one 7) (YF 3 (Za 7) (Rk (Zc UG [Zj ZT (Za 3) (Za 7),Zj ZT (Za 3) (Za 2),Zj Kq (Zj ZT (Zj ZT (Za 3) (Za 7)) (Za 2)) (Zj ZT (Zj ZT (Za 3) (Za 2)) (Za 2))]))))
   [aA (.lst (bL w E0)),aA (.int (m:Int)),aA (.int (k:Int)),aA (.lst (bL w a)),aA (.lst (iL (nL (bw m k E)))),d,f,x7]
   λs=>∃x7,s=[aA (.lst (bL w E0)),aA (.int (m:Int)),aA (.int (k:Int)),aA (.lst (bL w (Ru (bw m k E) k a))),aA (.lst (iL (nL (bw m k E)))),d,f,x7]:=by
 refine Ij (Eb (X:=bw m k E) (λt s=>∃x7,s=[aA (.lst (bL w E0)),aA (.int (m:Int)),aA (.int (k:Int)),aA (.lst (bL w (Ru ((bw m k E).take t) k a))),aA (.lst (iL (nL (bw m k E)))),d,f,x7]) rfl ⟨x7,?_⟩ ?_) ?_
 ·rw[iE,show Ru [] k a=a from funext λi=>funext λj=>jv (cG)]
 ·rintro t s g ⟨x7,rfl⟩;have u:=mem_bw.mp (dN (l:=bw m k E) g);obtain⟨x,o⟩:∃x,x=(bw m k E)[t]:=⟨_,rfl⟩;rw[<-o] at u ⊢
  have xn:x∉(bw m k E).take t:=λz=>by
   obtain⟨i,I,e⟩:=List.mem_take_iff_getElem.mp z;have h:i<t:=by omega
   have:=(List.pairwise_iff_getElem.mp (Hm (m:=m) (k:=k) (E:=E))) i t (by omega) g h;omega
  have F:k∉(bw m k E).take t:=λz=>by have:=(mem_bw.mp (iG z)).1;omega
  have n:Ru ((bw m k E).take t) k a x=a x:=funext λj=>jv xn;have b:Ru ((bw m k E).take t) k a k=a k:=funext λj=>jv F;refine Me (Ol (v:=λj=>a x j-(a x k).fdiv (a k k)*a k j) (by omega) rfl (UY (c3 (Rt (by omega) rfl rfl) (Rt (by omega) rfl rfl) (vC (C:=λ_ j=>j≠0) (op:=j7) (Ud (by omega) (by omega) rfl rfl rfl) (Ud (by omega) (by omega) rfl rfl rfl) ?_) ?_)) rfl) ⟨aA (.int (x:Int)),?_⟩
  ·rw[b];exact p
  ·rw[n,b];refine Ml A λj B=>?_;have q:=(PM.fd_any (x:=a x k) p).2.2;have c:=r x k (by omega) u.2.1 (by omega);refine Lc (G:=G+1) ?_ (aZ (r k j (aH _) H B) (PM.pw2 (by omega))) (by omega) (by omega);rw[dG];omega
  ·show [aA (PV.lst (bL w E0)),aA (.int (m:Int)),aA (.int (k:Int)),aA (.lst (bL w (Yl x (λj=>a x j-(a x k).fdiv (a k k)*a k j) (Ru ((bw m k E).take t) k a)))),aA (.lst (iL (nL (bw m k E)))),d,f,aA (.int (x:Int))]=_;congr 4;congr 2;congr 1;funext i;unfold Yl;have tk:∀y,y∈(bw m k E).take (t+1)↔y∈(bw m k E).take t\/y=x:=λy=>by rw[List.take_succ_eq_append_getElem g,bj,av,<-o]
   by_cases q:i=x
   ·rw[ju q,q];funext j;unfold Ru;rw[ju ((tk x).mpr (.inr rfl))]
   ·rw[jv q];funext j;unfold Ru;by_cases c:i∈(bw m k E).take t
    ·rw[ju c,ju ((tk i).mpr (.inl c))]
    ·rw[jv c,jv (λz=>by rcases(tk i).mp z with z | z;exact c z;exact q z)]
 ·rintro s ⟨x7,rfl⟩;rw[jL];exact⟨x7,rfl⟩
theorem Iy{w m k f:Nat}{E:Mt}(F:PM.Fst m k E f)(d:k<m):Ru (bw m k E) k (PM.pre k f E)=PM.red m k (PM.pre k f E):=by
 funext i j;unfold Ru PM.red;by_cases q:i∈bw m k E
 ·have:=mem_bw.mp q;rw[ju q,ju ⟨this.1,this.2.1⟩]
 ·rw[jv q];by_cases c:k<i/\i<m
  ·rw[ju c];have z:E i k=0:=bz λz=>q (mem_bw.mpr ⟨c.1,c.2,z⟩)
   have e:PM.pre k f E i k=0:=by
    unfold PM.pre;split
    ·show E (PM.sw k f i) k=0;rw[PM.sw_c (a:=k) (b:=f) (by omega) (λy=>F.ne (by rw[<-y];exact z))];exact z
    ·exact z
   rw[e,Int.zero_fdiv,b5,jD]
  ·rw[jv c]
theorem Qa{w m k G:Nat}{E0:Mt}(C:w<=100)(L:m<=w)(l:k<m)(hG:0<G)(I:G<=60000000)(X:∀j,j<w->∃N M P,PM.Hyp m k E0 j N M P/\2*(N*(M+2)*P^3)<2^G):∃E,ZC [.lst (bL w E0),.int (m:Int),.int (k:Int)]=aA (.lst (bL w E))/\PM.CL m k E0 E:=by
 suffices g:Yv Wo (ZQ 8 [.lst (bL w E0),.int (m:Int),.int (k:Int)]) λv=>∃E,v = .lst (bL w E)/\PM.CL m k E0 E by obtain⟨v,e,E,rfl,r⟩:=SX g;exact⟨E,e,r⟩
 have U:∀{N M P:Nat},1<=P->N<=2*(N*(M+2)*P^3):=λ{N M P} h=>by have c3:1<=P^3:=dj _ _ h;have:N<=N*(M+2):=ar N (by omega);have:N*(M+2)<=N*(M+2)*P^3:=ar _ c3;omega
 refine ZX (Zz (c1 rfl (by rw[PN,ju Q1]))) (ZX (Zz (c3 rfl rfl rfl (WO L C l))) ?_)
 obtain⟨O,T⟩:∃O,∀f,PM.Fst m k E0 f->(PM.red m k (PM.pre k f E0) k k).natAbs<O:=by
  by_cases q:∃f,PM.Fst m k E0 f
  ·obtain⟨f,F⟩:=q;refine⟨(PM.red m k (PM.pre k f E0) k k).natAbs+1,λg J=>?_⟩
   have:g=f:=by
    rcases Nat.lt_trichotomy g f with z | z | z
    ·exact absurd (F.ze g J.lo z) J.ne
    ·exact z
    ·exact absurd (J.ze f F.lo z) F.ne
   rw[this];omega
  ·exact⟨0,λf F=>absurd ⟨f,F⟩ q⟩
 refine Ua (Mk (λn st=>∃E o d x7,st=Fm w m k E0 E o d x7/\PM.RT m k E0 E/\((E=E0/\n=O)\/(PM.Aft m k E0 E/\n=(E k k).natAbs))) ⟨E0,none,none,none,rfl,.refl,.inl ⟨rfl,rfl⟩⟩ ?_) ?_
 ·rintro n st ⟨E,o,d,x7,rfl,rt,y⟩;have a:(iL (nL (bw m k E))).length=(bw m k E).length:=by simp[nL]
  have c:xB (Zj MK (Zc Yo [Za 4]) (eC (.int 0))) (Fm w m k E0 E o d x7)=aA (decide (0<(bw m k E).length)):=xb (Dm (b:=0) (c1 rfl (by rw[O4,a])) rfl)
  cases e:bw m k E with
  | nil=>exact .inl (c.trans (by rw[e];rfl))
  | cons f r=>
   refine .inr ⟨c.trans (by rw[e];rfl),?_⟩;have F:=KZ e;have hkf:=F.lo
   -- the bounds
   have W:∀i j,k<=i->i<m->j<w->(E i j).natAbs<2^G:=λi j t p B=>by
    obtain⟨N,M,P',H,u⟩:=X j B;rcases y with⟨rfl,_⟩ | ⟨A,_⟩
    ·exact bA (H.bo i t p) (bA (U H.one) u)
    ·obtain⟨N',Y,b2,_⟩:=A.po j N M P' H;exact bA (Y i t p) (bA b2 u)
   have Q:PM.Aft m k E0 (PM.red m k (PM.pre k f E))/\(PM.red m k (PM.pre k f E) k k).natAbs<n:=by
    rcases y with⟨rfl,rfl⟩ | ⟨A,rfl⟩
    ·exact⟨PM.Aft.first l F,T f F⟩
    ·exact A.next l F
   have pz:PM.pre k f E k k≠0:=by have:=Q.1.nz;rwa [PM.red_k] at this
   have D:∀i j,k<=i->i<m->j<w->(PM.pre k f E i j).natAbs<2^G:=λi j t p B=>by
    unfold PM.pre;split
    ·exact W _ j (by unfold PM.sw;split<;>(try split)<;>omega) (PM.sw_lt l F.hi p) B
    ·exact W i j t p B
   have x:∀o:Option PV,K9 (xB (Zj (WX aB) (Zj ZT (Zj ZT (Za 3) (Za 2)) (Za 2)) (eC (.int 0)))) (xB (Zj JN (Zc OU [Zj ZT (Zj ZT (Za 3) (Za 5)) (Za 2)]) (Zc OU [Zj ZT (Zj ZT (Za 3) (Za 2)) (Za 2)]))) (Fm w m k E0 E (aA (.int (f:Int))) d x7)=aA (decide (E k k=0) || decide ((E f k).natAbs<(E k k).natAbs)):=λ_=>xo (xb (Hi (Ud (by omega) (by omega) rfl rfl rfl) rfl)) (xb (D3 (c1 (Ud (by have:=F.hi;omega) (by omega) rfl rfl rfl) (K0 _)) (c1 (Ud (by omega) (by omega) rfl rfl rfl) (K0 _))));have Z:ZT (.lst (iL (nL (bw m k E)))) (.int 0)=aA (.int (f:Int)):=by rw[e];exact WT (j:=0) rfl
   refine U6 (Zz (ep (o2 rfl rfl Z))) (KN (R:=λs=>∃d,s=[aA (.lst (bL w E0)),aA (.int (m:Int)),aA (.int (k:Int)),aA (.lst (bL w (PM.pre k f E))),aA (.lst (iL (nL (bw m k E)))),aA (.int (f:Int)),d,x7]) (Hh (x o) (λz=>?_) λz=>?_) ?_)
   ·have S:E k k=0\/(E f k).natAbs<(E k k).natAbs:=by simpa using z
    refine U6 (Zz (ep (Rt (by omega) rfl rfl) (Wl _))) (U6 (Ol (by omega) rfl (Rt (by have:=F.hi;omega) rfl rfl) rfl) (Me (Ol (v:=E k) (by have:=F.hi;omega) rfl rfl rfl) ⟨aA (cR w (E k)),?_⟩));show [aA (PV.lst (bL w E0)),aA (.int (m:Int)),aA (.int (k:Int)),aA (.lst (bL w (Yl f (E k) (Yl k (E f) E)))),aA (.lst (iL (nL (bw m k E)))),aA (.int (f:Int)),aA (cR w (E k)),x7]=_;rw[Iv (by omega),show PM.pre k f E=λi j=>E (PM.sw k f i) j by unfold PM.pre;rw[ju S]]
   ·have S:¬(E k k=0\/(E f k).natAbs<(E k k).natAbs):=by simpa using z
    exact Me rfl ⟨d,by rw[show PM.pre k f E=E by unfold PM.pre;rw[jv S]];rfl⟩
   ·rintro s ⟨y6,rfl⟩;refine KN (Iw C L l hG I D pz) ?_;rintro s ⟨y7,rfl⟩;rw[Iy (w:=w) F l];exact Me (Zz (c3 rfl rfl rfl (WO L C l))) ⟨_,Q.2,_,_,_,_,rfl,(rt.trans (by omega) (PM.rt_pre l F.lo F.hi)).trans (by omega) (PM.rt_red l),.inr ⟨Q.1,rfl⟩⟩
 ·rintro st ⟨n,⟨E,o,d,x7,rfl,rt,y⟩,q⟩;have a:(iL (nL (bw m k E))).length=(bw m k E).length:=by simp[nL]
  have c:xB (Zj MK (Zc Yo [Za 4]) (eC (.int 0))) (Fm w m k E0 E o d x7)=aA (decide (0<(bw m k E).length)):=xb (Dm (b:=0) (c1 rfl (by rw[O4,a])) rfl);have q0:=of_decide_eq_false (aq (c.symm.trans q));have nil:bw m k E=[]:=List.eq_nil_of_length_eq_zero (by omega);have z:∀i,k<i->i<m->E i k=0:=λi t p=>bz λz=>by have:=mem_bw.mpr ⟨t,p,z⟩;rw[nil] at this;exact cG this
  refine XQ rfl ⟨E,rfl,?_⟩;rcases y with⟨rfl,_⟩ | ⟨A,_⟩
  ·exact .refl z
  ·exact .aft rt A z
section
variable {w m k:Nat} {E:Mt}
theorem WQ(b:w<=100):Yb [.lst (bL w E)]=aA (.lst (bL w (PM.tr E))):=by refine YU (ret (Z2 (aJ w) (λ(i:Nat)=>PV.int (i:Int)) (λi=>cR w (PM.tr E i)) (ZP (c1 rfl (by rw[O4,Vx])) (by omega)) (by simp;omega) λi a=>⟨_,rfl,rfl,ep (UY ?_) (Wl _)⟩));have a:=aX.mp a;exact W9 (q:=λr=>cR w (E r)) (λr=>E r i) rfl b λr c=>⟨_,rfl,vP (Ei a rfl rfl)⟩
noncomputable def beside(m k:Nat)(E:Mt):Bool:=((aJ (m-(k+1))).map λi=>E k (k+1+i)).any λz=>z != 0
theorem Ld(h:beside m k E=aB):∀j,k<j->j<m->E k j=0:=λj b a=>by have:=eU.mp h (E k j) (bt.mpr ⟨j-(k+1),aX.mpr (by omega),by rw[show k+1+(j-(k+1))=j by omega]⟩);simpa using this
theorem Nx(h:∀j,k<j->j<m->E k j=0):beside m k E=aB:=eU.mpr λx b=>by obtain⟨i,a,rfl⟩:=bt.mp b;have:=aX.mp a;rw[h _ (by omega) (by omega)];simp
theorem Iz{l:List Int}{a b:Nat}(d:a<=l.length)(c:b<=l.length):XD (iL l) (aA (a:Int)) (aA (b:Int))=iL ((l.drop a).take (b-a)):=by unfold XD;rw[HT.sIx_nat,HT.sIx_nat,aS,dB d,dB c,<-jc,<-jb]
theorem TQ{v:Nat->Int}{a b:Nat}(c:a<=b)(d:b<=w):((ZM w v).drop a).take (b-a)=(aJ (b-a)).map λi=>v (a+i):=by
 apply cO;intro i;rw[List.getElem?_take];by_cases h:i<b-a
 ·rw[ju h,fY,aR,bB h];unfold ZM;rw[aR,bB (by omega)];rfl
 ·rw[jv h,bJ (by simp;omega)]
theorem Mm{s:ZA}{f g h:XE}(d:m<=w)(j:k<m)(q:f s=aA (.lst (bL w E)))(c:g s=aA (.int (k:Int)))(e:h s=aA (.int (m:Int))):xB (Zc Sy [PH VR (Zj ZT f g) (S7 (Zj Yd g (eC (.int 1)))) (S7 h)]) s=aA (beside m k E):=by
 refine xb (c1 (a:=.lst (iL ((aJ (m-(k+1))).map λi=>E k (k+1+i)))) ?_ ?_)
 ·rw[W0,Rt (by omega) q c];simp only[a9];unfold S7;rw[Dl (a:=(k:Int)) (b:=1) c rfl,e];simp only[a9];show aA (PV.lst (XD (iL (ZM w (E k))) (aA ((k:Int)+1)) (aA (m:Int))))=_;rw[show((k:Int)+1)=((k+1:Nat):Int) from rfl,Iz (by rw[ZZ];omega) (by rw[ZZ];omega),TQ (by omega) d]
 ·show(XB (iL _)).map _=_;rw[YY];rfl
end
theorem G9{m k e a d G:Nat}{g E:Mt}(l:k<m)(h:PM.RZ m k e a d g E)(p:d+2*a+3*e+3<G):∀j,j<m+m->∃N M P,PM.Hyp m k E j N M P/\2*(N*(M+2)*P^3)<2^G:=λj n=>by
 have lt:∀{x},x<=d+2*a+3*e+3->2^x<2^G:=λ{x} o=>cH (by omega) (by omega);have col:∀i,k<=i->i<m->(E i k).natAbs<=2^a:=λi c b=>h.ab i k c b (aH _) l;by_cases q:j<m
 ·refine⟨2^a,2^a,2^e,⟨λi c b=>?_,b6,λ_=>h.pb,λz=>absurd z h.nz,.inl col⟩,bA (PM.bits3 _ _ _) (lt (by omega))⟩;by_cases f:j<k
  ·rw[(h.cr.d1 j i f b (by omega)).2];exact cB _
  ·exact h.ab i j c b (by omega) q
 ·refine⟨2^d,2^a,2^e,⟨λi c b=>?_,b6,λ_=>h.pb,λz=>absurd z h.nz,.inl col⟩,bA (PM.bits3 _ _ _) (lt (by omega))⟩;have:=h.lb i (j-m) b (by omega)
  rwa [show m+(j-m)=j by omega] at this
theorem S4{m k e b d G:Nat}{g E:Mt}(i:m<=50)(c:k<m)(h:PM.RZ m k e b d g E)(f:d+2*b+3*e+3<G)(a:G<=60000000):∃E',ZC [.lst (bL (m+m) E),.int (m:Int),.int (k:Int)]=aA (.lst (bL (m+m) E'))/\PM.CL m k E E':=
 Qa (G:=G) (by omega) (by omega) c (by omega) a (G9 c h f)
theorem Fb{m k e f g:Nat}{d E:Mt}{D:Int}(b:PM.Bs m d D)(h:PM.RZ m k e f g d (PM.tr E))(z:∀j,k<j->j<m->E k j=0):PM.RZ m k e f g d E:=
 ⟨h.cr.tr b,h.nz,h.pb,z,h.mb.tr,λi j c a=>h.rb j i a c,λi j c a=>h.lb j i a c⟩
abbrev EE(w m k:Nat)(B:List PV)(E:Mt):ZA:=[aA (.lst B),aA (.int (m:Int)),aA (.int (k:Int)),aA (.lst (bL w E))]
theorem Ue{m k e I x G sx bx:Nat}{s l:Nat->Nat}{o E:Mt}{B:List PV}{D:Int}(b:PM.Bs m o D)(S:PM.Bv m k I s l o)(P:m<=50)(u:k<m)(he:e<=I)(Z:I<=20)(h:PM.RZ m k e (l e) x o (PM.tr E))(y:∀e,e<=I->l e<=bx/\s e<=sx)
  (hG:x+PM.f1 s e+sx+2*bx+70<G) (t:G<=60000000) :
  Yv (Zq (XG (xB (Zc Sy [PH VR (Zj ZT (Za 3) (Za 2)) (S7 (Zj Yd (Za 2) (eC (.int 1)))) (S7 (Za 1))])) (Zq (Zx 3 (Zc Yb [Zc ZC [Zc Yb [Za 3],Za 1,Za 2]])) (Zx 3 (Zc ZC [Za 3,Za 1,Za 2])))) (ZY (Za 3)))
   (EE (m+m) m k B E) λv=>∃E' e' γ',v = .lst (bL (m+m) E')/\e'<=e/\γ'+PM.f1 s e'<=x+PM.f1 s e+2*s e'/\PM.RZ m k e' (l e') γ' o E'/\PM.RZ m k e' (l e') γ' o (PM.tr E')/\((¬ ∀i,k<i->i<m->E k k∣E k i)->e'<e):=by
 refine Ua (Mk (λn st=>∃d a c,st=EE (m+m) m k B d/\((n=a+1/\a<=e/\c+PM.f1 s a<=x+PM.f1 s e/\PM.RZ m k a (l a) c o (PM.tr d)/\(a=e->d=E))\/(n=0/\a<=e/\c+PM.f1 s a<=x+PM.f1 s e+2*s a/\PM.RZ m k a (l a) c o d/\PM.RZ m k a (l a) c o (PM.tr d)/\((¬ ∀i,k<i->i<m->E k k∣E k i)->a<e)))) ⟨E,e,x,rfl,.inl ⟨rfl,aH _,aH _,h,λ_=>rfl⟩⟩ ?_) ?_
 ·rintro n st ⟨d,a,c,rfl,O⟩;have j:xB (Zc Sy [PH VR (Zj ZT (Za 3) (Za 2)) (S7 (Zj Yd (Za 2) (eC (.int 1)))) (S7 (Za 1))]) (EE (m+m) m k B d)=aA (beside m k d):=Mm (by omega) u rfl rfl rfl
  cases q:beside m k d with
  | false=>exact .inl (j.trans (by rw[q]))
  | true=>
   refine .inr ⟨j.trans (by rw[q]),?_⟩;rcases O with⟨rfl,f,R,g,p⟩ | ⟨_,_,_,g,_⟩
   ·have b1:=y a (by omega);obtain⟨F,Y,T⟩:=S4 (G:=G) P u g (by omega) t
    have c2:∃C,ZC [.lst (bL (m+m) (PM.tr F)),.int (m:Int),.int (k:Int)]=aA (.lst (bL (m+m) C))/\PM.CL m k (PM.tr F) C:=by
     rcases PM.HV b S u (by omega) g T with⟨_,H,_⟩ | ⟨w,rfl,H,_⟩
     ·exact S4 (G:=G) P u H (by omega) t
     ·have:=y w (by omega);exact S4 (G:=G) P u H (by omega) t
    obtain⟨C,J,M⟩:=c2;refine U6 (Zz (c1 (c3 (c1 rfl (WQ (by omega))) rfl rfl Y) (WQ (by omega)))) (Me (Zz (c3 rfl rfl rfl J)) ?_);rcases PM.turnV b S u (by omega) g T M with⟨w,r,X,U,A,N,Q⟩ | ⟨w,r,X,U,A⟩
    ·refine⟨0,by omega,C,w,r,rfl,.inr ⟨rfl,by omega,by omega,A,N,λz=>?_⟩⟩;by_cases L:a=e
     ·have:=Q (by rw[p L];exact z);omega
     ·omega
    ·exact⟨w+1,by omega,C,w,r,rfl,.inl ⟨rfl,by omega,by omega,A,λz=>by omega⟩⟩
   ·exfalso;rw[Nx g.rz] at q;cases q
 ·rintro st ⟨n,⟨d,a,c,rfl,O⟩,q⟩;have j:xB (Zc Sy [PH VR (Zj ZT (Za 3) (Za 2)) (S7 (Zj Yd (Za 2) (eC (.int 1)))) (S7 (Za 1))]) (EE (m+m) m k B d)=aA (beside m k d):=Mm (by omega) u rfl rfl rfl;have z:=Ld (aq (j.symm.trans q));rcases O with⟨rfl,f,R,g,p⟩ | ⟨_,f,R,g,H,Q⟩
  ·refine XQ rfl ⟨d,a,c,rfl,f,by omega,Fb b g z,g,λW=>?_⟩;refine cx f λL=>W ?_;have e:=p L;subst e;exact λi A N=>by rw[z i A N];exact cD _
  ·exact XQ rfl ⟨d,a,c,rfl,f,R,g,H,Q⟩
theorem Om{w m k:Nat}{E:Mt}(a:w<=100)(c:m<=w)(d:k<m)(z:∀i,k<i->i<m->E i k=0):ZC [.lst (bL w E),.int (m:Int),.int (k:Int)]=aA (.lst (bL w E)):=by
 have nil:bw m k E=[]:=List.eq_nil_iff_forall_not_mem.mpr λx b=>by have:=mem_bw.mp b;exact this.2.2 (z x this.1 this.2.1)
 refine Md (ZX (Zz (c1 rfl (by rw[PN,ju Q1]))) (ZX (Zz (c3 rfl rfl rfl (WO c a d))) (Ua (Mk (k:=0) (λn st=>st=Fm w m k E E none none none) rfl ?_) ?_)))
 ·rintro n st rfl;unfold Fm;rw[nil];exact .inl rfl
 ·rintro st ⟨n,rfl,_⟩;exact XQ rfl rfl
theorem Fc{m k a d G:Nat}{l E:Mt}(f:k<m)(h:PM.Pl m k a d l E)(r:d+5*a+3<G):∀j,j<m+m->∃N M P,PM.Hyp m k E j N M P/\2*(N*(M+2)*P^3)<2^G:=λj o=>by
 have lt:∀{x},x<=d+5*a+3->2^x<2^G:=λ{x} p=>cH (by omega) (by omega);have col:∀i,k<=i->i<m->(E i k).natAbs<=2^a:=λi c b=>h.ab i k c b (aH _) f;have e:∀N,PM.Bo m k j N E->PM.Hyp m k E j N (2^a) (2^a):=λN n=>⟨n,b6,λ_=>col k (aH _) f,λ_ i c b=>col i (by omega) b,.inl col⟩;by_cases q:j<m
 ·refine⟨2^a,2^a,2^a,e _ λi c b=>?_,bA (PM.bits3 _ _ _) (lt (by omega))⟩;by_cases g:j<k
  ·rw[(h.cr.d1 j i g b (by omega)).2];exact cB _
  ·exact h.ab i j c b (by omega) q
 ·refine⟨2^d,2^a,2^a,e _ λi c b=>?_,bA (PM.bits3 _ _ _) (lt (by omega))⟩;have:=h.lb i (j-m) b (by omega)
  rwa [show m+(j-m)=j by omega] at this
structure Ej(m k a e0 sf sx bx:Nat)(s β:Nat->Nat)(A0 E:Mt)(D:Int):Prop where
 bs:PM.Bs m A0 D
 bd:PM.Bv m k e0 s β A0
 m5:m<=50
 km:k<m
 e17:e0<=20
 b8:∀e,e<=e0->β e<=bx/\s e<=sx
 a5:7*a+6<=β e0
 a4:4*a+3<=sf
 small:sf+sx+sx+sx+2*bx+PM.f2 s e0<=28500000
 pb:∀E',PM.CL m k E E'->(E' k k).natAbs<=2^e0
section
variable {m k a e0 γ sf sx bx:Nat} {s β:Nat->Nat} {A0 E:Mt} {D:Int}
theorem Rv(P:Ej m k a e0 sf sx bx s β A0 E D)(h:PM.Pl m k a γ A0 E)(o:γ<=31000000) :
  ∃d c b,Yr [.lst (bL (m+m) E),.int (m:Int),.int (k:Int)]=aA (.lst (bL (m+m) d))/\c<=e0/\b+PM.f1 s c<=γ+sf+PM.f1 s e0+2*s c/\PM.RZ m k c (β c) b A0 d/\PM.RZ m k c (β c) b A0 (PM.tr d):=by
 have p:=P.m5;have f:=P.km;have j:=P.a5;have x:=P.a4;have i:=P.e17;have H:=P.b8 e0 (aH _);have F:=P.small;have C:=PM.f2_ge s e0;obtain⟨q,t,e⟩:=Qa (w:=m+m) (G:=60000000) (by omega) (by omega) f (by omega) (by omega) (Fc f h (by omega));have r:=PM.Pl.first (s:=sf) P.bs f h e (P.pb q e) j x;have g:=Ue (G:=60000000) (sx:=sx) (bx:=bx) (B:=bL (m+m) E) P.bs P.bd p f (aH e0) i r P.b8 (by omega) (by omega);have l:Yv XH (ZQ 4 [.lst (bL (m+m) E),.int (m:Int),.int (k:Int)]) _:=ZX (Zz (c3 rfl rfl rfl t)) g;obtain⟨v,y,d,c,b,rfl,z,u,n,A,_⟩:=SX l;exact⟨d,c,b,y,z,u,n,A⟩
theorem Rw{e:Nat}(P:Ej m k a e0 sf sx bx s β A0 E D){d:Mt}(n:e<=e0)(r:PM.RZ m k e (β e) γ A0 (PM.tr d))(h:γ+PM.f1 s e+sx+2*bx+70<60000000) :
  ∃f c b,Yr [.lst (bL (m+m) d),.int (m:Int),.int (k:Int)]=aA (.lst (bL (m+m) f))/\c<=e/\b+PM.f1 s c<=γ+PM.f1 s e+2*s c/\PM.RZ m k c (β c) b A0 f/\PM.RZ m k c (β c) b A0 (PM.tr f)/\((¬ ∀i,k<i->i<m->d k k∣d k i)->c<e):=by
 have p:=P.m5;have l:=P.km;have j:=P.e17;have z:=P.small;have y:=PM.f2_ge s e0;have x:=PM.f1_mono s n;have g:=Ue (G:=60000000) (sx:=sx) (bx:=bx) (B:=bL (m+m) d) P.bs P.bd p l n j r P.b8 h (by omega);have o:Yv XH (ZQ 4 [.lst (bL (m+m) d),.int (m:Int),.int (k:Int)]) _:=ZX (Zz (c3 rfl rfl rfl (Om (w:=m+m) (by omega) (by omega) l λi q u=>r.rz i q u))) g;obtain⟨v,t,f,c,b,rfl,Z8⟩:=SX o;exact⟨f,c,b,t,Z8⟩
noncomputable def Fd(m k:Nat)(E:Mt)(i:Nat):Bool:=((aJ m).map λj=>!decide ((E i j).fmod (E k k)=0)).any id
theorem IA{i:Nat}(h:Fd m k E i=aB):∀j,j<m->E k k∣E i j:=λj a=>by have:=eU.mp h (!decide ((E i j).fmod (E k k)=0)) (bt.mpr ⟨j,aX.mpr a,rfl⟩);exact Int.dvd_of_fmod_eq_zero (by simpa using this)
theorem K1{i:Nat}(h:Fd m k E i=aC):∃j,j<m/\¬E k k∣E i j:=by obtain⟨b,c,d⟩:=du.mp h;obtain⟨j,a,rfl⟩:=bt.mp c;refine⟨j,aX.mp a,λz=>?_⟩;have:=Int.fmod_eq_zero_of_dvd z;simp[this] at d
theorem Oo{w:Nat}(r:w<=100)(n:m<=w)(y:k<m)(h:E k k≠0):∃v,Xv [.lst (bL w E),.int (m:Int),.int (k:Int)]=aA v/\((v = .non/\∀i j,k<i->i<m->j<m->E k k∣E i j)\/(∃u:Nat,v = .int (u:Int)/\k<u/\u<m/\∃j,j<m/\¬E k k∣E u j)):=by
 refine SX (ZX (Zz (ep (Ud (by omega) (by omega) rfl rfl rfl))) (Ea (L:=(aJ (m-(k+1))).map λi=>k+1+i) (q:=λ(i:Nat)=>PV.int (i:Int)) (g:=λ(i:Nat)=>PV.int (i:Int)) (Fd m k E) (λs=>∃x,s=[aA (.lst (bL w E)),aA (.int (m:Int)),aA (.int (k:Int)),aA (.int (E k k)),x]) ?_ ⟨none,rfl⟩ ?_ ?_ ?_))
 ·rw[W3 (i:=(k:Int)+1) (j:=(m:Int)) (Dl rfl rfl) rfl (by omega) (by omega)];unfold X9;rw[cg,show((m:Int)-((k:Int)+1)).toNat=m-(k+1) by omega];congr 1
 ·rintro i c s ⟨x,rfl⟩;obtain⟨t,d,rfl⟩:=bt.mp c;have:=aX.mp d;refine⟨_,rfl,xb (c1 (a:=.lst (((aJ m).map λj=>!decide ((E (k+1+t) j).fmod (E k k)=0)).map PV.bl)) ?_ (GP _)),ret (vP rfl),⟨_,rfl⟩⟩;rw[cg];refine Z2 (aJ m) (λj=>PV.int (E (k+1+t) j)) _ ?_ (by simp;omega) λj p=>⟨_,rfl,rfl,o2 (vC (C:=λ_ j=>j≠0) (op:=Int.fmod) rfl rfl h) rfl (by rw[Sk];rfl)⟩;show(PH VR (Zj ZT (Za 0) (Za 4)) L0 (S7 (Za 1)) _).bind _=_;rw[W0,Rt (i:=k+1+t) (E:=E) (w:=w) (by omega) rfl rfl];simp only[a9,JW];show(aA (PV.lst (XD (iL (ZM w (E (k+1+t)))) none (aA (m:Int))))).bind _=_;rw[KH];show aA (iL ((ZM w (E (k+1+t))).take m))=_;have:=TQ (w:=w) (v:=E (k+1+t)) (a:=0) (b:=m) (by omega) n;rw[fj,gm] at this;rw[this];show aA (jC PV.int (jC _ _))=_;rw[cg];congr 1;refine bN λi _=>?_;show PV.int (E (k+1+t) (0+i))=_;rw[Nat.zero_add]
 ·intro i c;have f:=List.mem_of_find?_eq_some c;have e:=List.find?_some c;obtain⟨t,d,rfl⟩:=bt.mp f;have:=aX.mp d;exact .inr ⟨_,rfl,by omega,by omega,K1 e⟩
 ·rintro o s ⟨x,rfl⟩;refine XQ rfl (.inl ⟨rfl,λi j f e l=>IA ?_ j l⟩);have:=List.find?_eq_none.mp o i (bt.mpr ⟨i-(k+1),aX.mpr (by omega),by omega⟩);simpa using this
theorem Lf{e b c:Nat}{g E:Mt}{G u:Nat}(h:PM.RZ m k e b c g E)(d:b<G)(n:c<G)(l:k<=u)(a:u<m):∀j,j<m+m->(E u j).natAbs<2^G:=λj o=>by
 have lt:∀{x},x<G->2^x<2^G:=λ{x} i=>cH (by omega) i;by_cases q:j<m
 ·by_cases f:j<k
  ·rw[(h.cr.d1 j u f a (by omega)).2];exact Nat.pow_pos (by omega)
  ·exact bA (h.ab u j l a (by omega) q) (lt d)
 ·have:=h.lb u (j-m) a (by omega);rw[show m+(j-m)=j by omega] at this;exact bA this (lt n)
theorem Q2(P:Ej m k a e0 sf sx bx s β A0 E D)(h:PM.Pl m k a γ A0 E)(hγ:γ<=31000000)(f:Nat)(t:∀e,e<=e0->β e<=f) :
  ∃o c,YD [.lst (bL (m+m) E),.int (m:Int),.int (k:Int)]=aA (.lst (bL (m+m) o))/\c<=γ+sf+2*sx+PM.f2 s e0/\PM.Pl m (k+1) f c A0 o:=by
 have m5:=P.m5;have F:=P.km;have e17:=P.e17;obtain⟨Y,Z,A,v1,S,g1,l,p⟩:=Rv P h (by omega);obtain⟨x1,w1,I⟩:=Oo (w:=m+m) (E:=Y) (by omega) (by omega) F l.nz
 suffices g:Yv V6 (ZQ 5 [.lst (bL (m+m) E),.int (m:Int),.int (k:Int)]) λv=>∃o c,v = .lst (bL (m+m) o)/\c<=γ+sf+2*sx+PM.f2 s e0/\PM.Pl m (k+1) f c A0 o by obtain⟨v,e,o,c,rfl,r⟩:=SX g;exact⟨o,c,e,r⟩
 have sm:=P.small;have base:A+PM.f2 s Z<=γ+sf+2*sx+PM.f2 s e0:=by have:=PM.f2_le s S;have:=(P.b8 Z S).2;omega
 refine ZX (Zz (c3 rfl rfl rfl v1)) (ZX (Zz (c3 rfl rfl rfl w1)) (Ua (Mk (λn st=>∃b d x,st=[aA (.lst (bL (m+m) E)),aA (.int (m:Int)),aA (.int (k:Int)),aA (.lst (bL (m+m) b)),aA x]/\n<=e0/\d+PM.f2 s n<=γ+sf+2*sx+PM.f2 s e0/\PM.RZ m k n (β n) d A0 b/\PM.RZ m k n (β n) d A0 (PM.tr b)/\((x = .non/\∀i j,k<i->i<m->j<m->b k k∣b i j)\/(∃u:Nat,x = .int (u:Int)/\k<u/\u<m/\∃j,j<m/\¬b k k∣b u j))) ⟨Y,A,x1,rfl,S,base,l,p,I⟩ ?_) ?_))
 ·rintro n st ⟨b,d,x,rfl,H,hg,l,p,N⟩;rcases N with⟨rfl,_⟩ | ⟨u,rfl,X,C,j,B,T⟩
  ·exact .inl rfl
  ·refine .inr ⟨rfl,?_⟩;have b8:=P.b8 n H;have fg:=PM.f2_ge s n;have O:=Lf (G:=60000000) l (by omega) (by omega) (by omega) C;have lo:UG [cR (m+m) (b k),cR (m+m) (b u),.int 1]=aA (.lst (iL (ZM (m+m) λj=>b k j-1*b u j))):=Ml (by omega) λj B=>Lc (G:=60000000) (by show 1<2^60000000;exact Nat.one_lt_two_pow (by omega)) (O j B) (by omega) (by omega);have r3:=l.unfit P.bs F p X C
   have eE:Yl k (λj=>b k j-1*b u j) b=λi j=>if i=k then b i j-1*b u j else b i j:=by
    funext i;unfold Yl;by_cases q:i=k
    ·rw[ju q];funext j;rw[ju q,q]
    ·rw[jv q];funext j;rw[jv q]
   obtain⟨U,e3,Q,v3,l3,g3,W,r5,d3⟩:=Rw P H r3 (by omega)
   have less:e3<n:=d3 λz=>by
    have uk:b u k=0:=p.rz u X C
    have jk:k<j:=by
     refine Nat.not_le.mp λle=>T ?_;by_cases q:j=k
     ·rw[q,uk];exact cD _
     ·rw[(l.cr.d1 j u (by omega) C (by omega)).2];exact cD _
    have:=z j jk B;simp only[ju] at this;rw[uk,l.rz j jk B] at this;refine T ?_;have h2:b k k∣-(1*b u j):=by simpa using this
    simpa using Int.dvd_neg.mp h2
   have st:=PM.f2_step s less;obtain⟨x3,w3,J⟩:=Oo (w:=m+m) (E:=U) (by omega) (by omega) F W.nz;refine U6 (Ol (w:=m+m) (E:=b) (v:=λj=>b k j-1*b u j) (by omega) rfl (UY (c3 (Rt (by omega) rfl rfl) (Rt (by omega) rfl rfl) rfl lo)) rfl) (U6 (Zz (c3 rfl rfl rfl ?_)) (Me (Zz (c3 rfl rfl rfl w3)) ⟨e3,less,U,Q,x3,rfl,by omega,by omega,W,r5,J⟩));rw[eE];exact v3
 ·rintro st ⟨n,⟨b,d,x,rfl,H,hg,l,p,N⟩,q⟩;rcases N with⟨rfl,dv⟩ | ⟨u,rfl,_⟩
  case inr=>cases q
  have nx:=l.next F p dv;have L:PM.Pl m (k+1) f d A0 (λi j=>if i=k/\b k k<0 then-b i j else b i j):=⟨nx.cr,nx.mb.up (PM.pw2 (t n H)),nx.lb,nx.rb⟩;have M:xB (Zj JN (Zj ZT (Zj ZT (Za 3) (Za 2)) (Za 2)) (eC (.int 0))) [aA (.lst (bL (m+m) E)),aA (.int (m:Int)),aA (.int (k:Int)),aA (.lst (bL (m+m) b)),aA .non]=aA (decide (b k k<0)):=xb (o2 (Ud (by omega) (by omega) rfl rfl rfl) rfl rfl);refine Ua (R:=λs=>s=[aA (.lst (bL (m+m) E)),aA (.int (m:Int)),aA (.int (k:Int)),aA (.lst (bL (m+m) (λi j=>if i=k/\b k k<0 then-b i j else b i j))),aA .non]) (Hh M (λz=>?_) λz=>?_) ?_
  ·have z:=of_decide_eq_true z;refine Me (Ol (w:=m+m) (E:=b) (v:=λj=>- b k j) (by omega) rfl (UY (W9 (q:=λj=>.int (b k j)) (λj=>- b k j) ?_ (by omega) λj B=>⟨_,rfl,vP (DK rfl rfl)⟩)) rfl) ?_
   ·show(Zj ZT (Za 3) (Za 2) _).bind _=_;rw[Rt (i:=k) (E:=b) (w:=m+m) (by omega) rfl rfl];show aA (jC PV.int (jC (b k) (aJ (m+m))))=_;rw[cg];rfl
   ·show [_,_,_,aA (PV.lst (bL (m+m) (Yl k (λj=>- b k j) b))),_]=_;rw[show Yl k (λj=>- b k j) b=λi j=>if i=k/\b k k<0 then-b i j else b i j from ?_];funext i;unfold Yl;by_cases q:i=k
    ·rw[ju q];funext j;rw[ju ⟨q,z⟩,q]
    ·rw[jv q];funext j;rw[jv (λy=>q y.1)]
  ·have z:=of_decide_eq_false z;refine Me rfl ?_;rw[show(λi j=>if i=k/\b k k<0 then-b i j else b i j)=b from funext λi=>funext λj=>jv (λy=>z y.2)]
  ·rintro s rfl;exact XQ rfl ⟨_,d,rfl,by omega,L⟩
end
noncomputable def E0(m:Nat)(A:Mt):Mt:=λi j=>if i<m then(if j<m then A i j else PM.one i (j-m)) else(if j<m then PM.one (i-m) j else 0)
theorem Fe{a b:Nat}(u v:Nat->Int):ZM a u++ZM b v=ZM (a+b) λj=>if j<a then u j else v (j-a):=by
 apply cO;intro i;unfold ZM;by_cases h:i<a
 ·rw[ay (by simpa using h),aR,aR,bB h,bB (by omega)];show aA (u i)=aA (if i<a then u i else v (i-a));rw[ju h]
 ·rw[bQ (by simp;omega),aS,b0,aR,aR];by_cases c:i<a+b
  ·rw[bB (by omega),bB c];show aA (v (i-a))=aA (if i<a then u i else v (i-a));rw[jv h]
  ·rw[bJ (by simp;omega),bJ (by simp;omega)];rfl
theorem K2{a b:Nat}{u v:Nat->Int}(h:a+b<=100):Sh (.lst (iL (ZM a u))) (.lst (iL (ZM b v)))=aA (.lst (iL (ZM (a+b) λj=>if j<a then u j else v (j-a)))):=by unfold Sh;simp only[];rw[ju ⟨by rw[aS,aS,ZZ,ZZ];omega,Z1 _,Z1 _⟩,<-cZ,Fe]
theorem U8{m i:Nat}(b:m<=100):We [.int (m:Int),.int (i:Int)]=aA (.lst (iL (ZM m (PM.one i)))):=by
 refine YU (ret (Xe (PM.one i) (ZP rfl (by omega)) (by omega) λj a=>⟨_,rfl,rfl,vP ?_⟩));unfold PM.one;by_cases q:i=j
 ·rw[ju q];exact Hj (xb ((Hi rfl rfl).trans (by rw[decide_eq_true (by omega)]))) rfl
 ·rw[jv q];exact Hk (xb ((Hi rfl rfl).trans (by rw[decide_eq_false (by omega)]))) rfl
theorem Ek{m:Nat}(a:m<=100):PK (.lst [.int 0]) (.int (m:Int))=aA (.lst (iL (ZM m λ_=>0))):=by
 unfold PK;simp only[];rw[ju (by refine⟨?_,?_,?_,?_⟩<;>first | rfl | omega | (simp;omega))];congr 2;apply cO;intro i;unfold ZM;by_cases h:i<m
 ·simp[h]
 ·simp[h]
theorem Oq{m:Nat}{A:Mt}(f:m<=50):Vn [wP (Z7 m m A)]=aA (.lst (bL (m+m) (E0 m A))):=by
 have up:∀i,i<m->cR (m+m) (E0 m A i) = .cst (iL (ZM (m+m) λj=>if j<m then A i j else PM.one i (j-m))):=λi b=>by unfold cR E0;simp only[ju b]
 have lo:∀i,i<m->cR (m+m) (E0 m A (m+i)) = .cst (iL (ZM (m+m) λj=>if j<m then PM.one i j else 0)):=λi b=>by unfold cR E0;rw[show m+i-m=i by omega];simp only[jv (show ¬m+i<m by omega)]
 have c:bL (m+m) (E0 m A)=(aJ m).map (λi=>cR (m+m) (E0 m A i))++(aJ m).map λi=>cR (m+m) (E0 m A (m+i)):=by unfold bL;rw[j8,cZ,cg];rfl
 have d:∀(g:Nat->Nat->Int),Zw ((aJ m).map λi=>cR (m+m) (g i))=aC:=λg=>by rw[YE,ak];intro x e;obtain⟨i,_,rfl⟩:=bt.mp e;exact Wl _
 refine Md (ZX (Zz (vP (c1 rfl (by rw[Oe,Va])))) (ZX (Zz (Z2 (aJ m) (λi=>.tup [.int ((i:Nat):Int),pP (ZM m (A i))]) (λi=>cR (m+m) (E0 m A i)) ?_ (by simp;omega) λi b=>⟨_,rfl,rfl,ep ?_ (Wl _)⟩)) (ZX (Zz (Z2 (aJ m) (λ(i:Nat)=>PV.int (i:Int)) (λi=>cR (m+m) (E0 m A (m+i))) (ZP rfl (by omega)) (by simp;omega) λi b=>⟨_,rfl,rfl,ep ?_ (Wl _)⟩)) (XQ (o2 rfl rfl ?_) rfl))))
 ·show aA (Wz (tL (Z7 m m A)))=_;rw[U5,Nn];congr 1;refine bN λi b=>?_;rw[aN,Np (aX.mp b)];rfl
 ·rw[up i (aX.mp b)];exact UY (o2 (a:=.lst (iL (ZM m (A i)))) (c1 rfl (by rw[Kg,ju (Z1 _)])) (c2 rfl rfl (U8 (by omega))) (K2 (by omega)))
 ·rw[lo i (aX.mp b)];exact UY (o2 (c2 rfl rfl (U8 (by omega))) (o2 rfl rfl (Ek (by omega))) (K2 (by omega)))
 ·unfold Sh;simp only[];rw[ju ⟨by simp;omega,d _,d _⟩,c]
theorem Dr(m:Nat)(A:Mt):PM.Adm m A (E0 m A):=by
 have d:PM.EqM m (λi k=>E0 m A i (m+k)) PM.one:=λi j b a=>by show E0 m A i (m+j)=_;unfold E0;rw[ju b,jv (by omega),show m+j-m=j by omega]
 have e:PM.EqM m (λi k=>E0 m A (m+i) k) PM.one:=λi j b a=>by show E0 m A (m+i) j=_;unfold E0;rw[jv (by omega),ju a,show m+i-m=i by omega]
 have c:PM.EqM m (PM.mul m PM.one PM.one) PM.one:=λi j b a=>PM.mul_one a;refine⟨⟨PM.one,PM.one,d.mulL.trans c,d.mulR.trans c,e.mulL.trans c,e.mulR.trans c⟩,λi j b a=>?_,λi j b a=>?_⟩
 ·rw[d.mulL i j b a,PM.one_mul b,e.mulR i j b a,PM.mul_one a];unfold E0;rw[ju b,ju a]
 ·unfold E0;rw[jv (by omega),jv (by omega)]
theorem Mo(i j:Nat):(PM.one i j).natAbs<=2^0:=by unfold PM.one;split<;>decide
theorem D4{m:Nat}{A:Mt}(c:m<=6)(h:∀i j,i<m->j<m->(A i j).natAbs<=2^6):PM.Pl m 0 46 0 A (E0 m A):=by
 refine⟨⟨Dr m A,λi _ a=>by omega,λi a=>by omega,λi _ _ a=>by omega⟩,?_,λi j a b=>?_,λi j a b=>?_⟩
 ·refine(PM.Mn.ent (n:=6) (B:=2^6) (by decide) (by omega) λi j _ a _ b=>?_).up (show PM.fct 6*(2^6)^6<=2^46 by decide);unfold E0;rw[ju a,ju b];exact h i j a b
 ·unfold E0;rw[ju a,jv (by omega)];exact Mo _ _
 ·unfold E0;rw[jv (by omega),ju b];exact Mo _ _
section
variable {W:List (List Int)} {m:Nat}
theorem K3(ok:Yt W)(f:SS W)(h:W.length<=7)(l:W.length=m+1):PM.Bs m (Zy W 0) (ZV m (Zy W 0)):=by
 have bk:=KP ok f (b:=0) ok.pos (λ_=>0);rw[show W.length-1=m by omega] at bk;have I:=W8 bk (aH m);refine⟨λi j c a=>bk.sym j i a c,⟨PM.tr (Lo m (Zy W 0)),λi j c a=>?_⟩,?_,?_⟩
 ·have e:=Ma (A:=Zy W 0) a c;show sN m (λk=>Lo m (Zy W 0) k i*Zy W 0 k j)=_;rw[Zh (g:=λk=>Zy W 0 j k*Lo m (Zy W 0) k i) λk d=>by rw[bD,bk.sym k j d a],e];unfold PM.one;by_cases q:i=j
  ·rw[ju q.symm];show _=ZV m (Zy W 0)*(if i=j then 1 else 0);rw[ju q,eN]
  ·rw[jv (λz=>q z.symm)];show _=ZV m (Zy W 0)*(if i=j then 1 else 0);rw[jv q,bR]
 ·rw[<-I.de];exact I.nz
 ·omega
theorem o0(i:Nat):Y0 0 i=i+1:=by unfold Y0;rw[jv (by omega)]
theorem K4{W:List (List Int)}(ok:Yt W)(o:SS W)(r:2<=W.length):1<=(Zr W 0).sum:=by
 have c:=ok.pos;rw[V8 ok c,Xx];refine bz λh=>?_;have h:¬1<=sN W.length (ent W 0):=h
 have z:∀j,j<W.length->ent W 0 j=0:=λj d=>by
  have e:=ZW (n:=W.length) (f:=λi=>if i=j then ent W 0 j else 0) d λi _ ne=>jv ne
  have l:=Xf (n:=W.length) (f:=λi=>ent W 0 i+(-1)*(if i=j then ent W 0 j else 0)) λi p=>by
   have:=ok.lo 0 i c p;split
   ·rename_i q;subst q;omega
   ·omega
  rw[Yc,ZN,e,ju rfl] at l;have:=ok.lo 0 j c d;omega
 have:=(o (· = 0) (λa b k m g=>⟨λq=>by rw[q,z b m] at g;omega,λq=>by rw[q,ok.sym a 0 k c,z a k] at g;omega⟩) 1 0 (by omega) c).mpr rfl;omega
theorem Ot(ok:Yt W)(g:SS W)(a:2<=W.length):sN (W.length-1) (λi=>Zy W 0 i i)<=2*((Vf W).length:Int)-1:=by
 have l:=K4 ok g a;have t:=Oa ok;rw[Xx] at t;have e:=Nq (m:=W.length-1) (b:=0) (f:=λh=>if h=0 then 0 else(Zr W h).sum) (ju rfl) (by omega);rw[show W.length-1+1=W.length by omega] at e
 have j:sN (W.length-1) (λi=>Zy W 0 i i)=sN W.length λh=>if h=0 then 0 else(Zr W h).sum:=by
  rw[e];exact Zh λi _=>by unfold Zy;rw[ju rfl,o0,jv (by omega)]
 have c:=ZW (n:=W.length) (f:=λh=>if h=0 then(Zr W 0).sum else 0) (k:=0) ok.pos λi _ ne=>jv ne
 have d:sN W.length (λh=>(Zr W h).sum)=sN W.length (λh=>(if h=0 then 0 else(Zr W h).sum)+if h=0 then(Zr W 0).sum else 0):=Zh λi _=>by
  split
  ·rename_i q;rw[q];omega
  ·omega
 rw[d,Yc,c,ju rfl] at t;omega
theorem IB(ok:Yt W)(b:W.length=m+1):∀i,i<m->0<=Zy W 0 i i:=λi a=>by unfold Zy;rw[ju rfl,V8 ok (by rw[b];exact Xo a),Xx];exact Xf λj c=>ok.lo _ _ (by rw[b];exact Xo a) c
theorem Hn(ok:Yt W)(h:SS W)(g:W.length=m+1)(j:(Vf W).length<=28):∀i,i<m->Zy W 0 i i<=55:=λi c=>by
 have d:=Ot ok h (by omega);rw[show W.length-1=m by omega] at d;have a:=IB ok g;have e:=ZW (n:=m) (f:=λx=>if x=i then Zy W 0 i i else 0) c λx _ ne=>jv ne
 have l:=Xf (n:=m) (f:=λx=>Zy W 0 x x+(-1)*(if x=i then Zy W 0 i i else 0)) λx b=>by
  have:=a x b;split
  ·rename_i z;subst z;omega
  ·omega
 rw[Yc,ZN,e,ju rfl] at l;omega
theorem Ho(ok:Yt W)(h:SS W)(d:W.length=m+1)(g:(Vf W).length<=28):∀i j,i<m->j<m->(Zy W 0 i j).natAbs<=55:=λi j a f=>by
 have e:Y0 0 i<W.length:=by have:=Xo (b:=0) a;omega
 have c:Y0 0 j<W.length:=by have:=Xo (b:=0) f;omega
 by_cases q:Y0 0 j=Y0 0 i
 ·rw[show j=i from Io q];have:=IB ok d i a;have:=Hn ok h d g i a;omega
 ·unfold Zy;rw[jv q];have:=ok.lo _ _ e c;have:=ok.hi _ _ e c;omega
theorem Ds:∀x,x<56->x^12<=2^(2*x+21):=by decide +kernel
theorem El{A:Mt}:∀{m:Nat},(∀i,i<m->0<=A i i/\A i i<=55)->∃s:Nat,sN m (λi=>A i i)=(s:Int)/\(Eh A m).natAbs^12<=2^(2*s+21*m)
 | 0,_=>⟨0,rfl,show(1:Int).natAbs^12<=2^(2*0+21*0) by decide⟩
 | m+1,h=>by
  obtain⟨s,e,l⟩:=El (m:=m) λi a=>h i (by omega);have b:=h m (by omega);refine⟨s+(A m m).natAbs,?_,?_⟩
  ·show sN m (λi=>A i i)+A m m=_;rw[e];omega
  ·show(Eh A m*A m m).natAbs^12<=_;rw[b7,Nat.mul_pow];refine aQ (cP l (Ds (A m m).natAbs (by omega))) ?_;rw[<-eT];exact PM.pw2 (by omega)
theorem DM(ok:Yt W)(f:SS W)(e:W.length=m+1)(y:W.length<=7)(r:(Vf W).length<=28):(ZV m (Zy W 0)).natAbs<=2^20:=by
 have n:=ok.pos;have a:W.length-1=m:=by omega
 by_cases z:m=0
 ·subst z;show(1:Int).natAbs<=_;decide
 have bk:=KP ok f (b:=0) n (λ_=>0);rw[a] at bk;have I:=W8 bk (aH m)
 obtain⟨S,p⟩:=KU bk (λi j c v ne=>by
  unfold Zy;rw[o0,o0,jv (by omega)];have:=ok.lo (i+1) (j+1) (by omega) (by omega)
  omega) (λi c=>by
  have g:=KO ok n (Y:=λh=>if h=0 then 0 else 1) (ju rfl) (k:=i) (by omega);rw[a,Zh (g:=Zy W 0 i) λj _=>by rw[o0,jv (by omega),eN]] at g
  have:0<=sN W.length λh=>(-1)*(ent W (Y0 0 i) h*((if h=0 then 0 else 1)-(if Y0 0 i=0 then 0 else 1))):=Xf λh q=>by
   have:=ok.lo (Y0 0 i) h (by rw[e];exact Xo c) q;rw[o0] at this ⊢;rw[jv (show ¬i+1=0 by omega)];split
   ·rw[Int.zero_sub,gJ,eN];omega
   ·simp
  rw[ZN] at this;have g:(sN W.length λh=>ent W (Y0 0 i) h*((if h=0 then(0:Int) else 1)-(if Y0 0 i=0 then 0 else 1))) = - sN m (Zy W 0 i):=g;omega) (IB ok e) (aH m)
 have d:=Ot ok f (by omega);rw[a] at d;obtain⟨s,u,l⟩:=El (A:=Zy W 0) (m:=m) λi c=>⟨IB ok e i c,Hn ok f e r i c⟩;rw[u] at d;rw[I.de] at p;have o:0<ZV m (Zy W 0):=by rw[<-I.de];exact S.dp
 refine f9.mp λt=>?_;have w:(2^20)^12<=(Eh (Zy W 0) m).natAbs^12:=fO (by omega) 12;have B:2^(2*s+21*m)<=2^236:=PM.pw2 (by omega);have x:(2^236:Nat)<(2^20)^12:=by decide
 omega
theorem IC{k a e:Nat}{c E:Mt}{D:Int}(b:PM.Bs m c D)(o:D.natAbs<=2^20)(q:k+1=m)(h:PM.Pl m k a e c E):PM.Pl m k 20 e c E:=by refine⟨h.cr,?_,h.lb,h.rb⟩;have d:=(h.cr.piv b (by omega) λi g f=>by omega).2;have:=dZ (by have:=b.nz;omega) (ba.mpr d);refine(PM.Mn.ent (n:=1) (B:=2^20) (by decide) (by omega) λi j g f p l=>?_).up (show PM.fct 1*(2^20)^1<=2^20 by decide);rw[show i=k by omega,show j=k by omega];omega
noncomputable def aK:Nat->Nat
 | 0=>46
 | 1=>500
 | 2=>4900
 | 3=>36000
 | 4=>254000
 | _=>1800000
noncomputable def gK:Nat->Nat
 | 0=>0
 | 1=>50000
 | 2=>470000
 | 3=>3470000
 | 4=>24470000
 | 5=>30870000
 | _=>30920000
theorem ID{k a c bx:Nat}{g E:Mt}{D:Int}(b:PM.Bs m g D)(j:k<m)(d:c<=20)(n:7*a+6+PM.ad c<=bx)(l:4*a+3+3*(bx+63)+2*bx+c*(4*(bx+63)+1)<=28500000)(i:∀E',PM.CL m k E E'->(E' k k).natAbs<=2^c) :
  Ej m k a c (4*a+3) (bx+63) bx (PM.sB (PM.be (7*a+6) c)) (PM.be (7*a+6) c) g E D/\PM.f2 (PM.sB (PM.be (7*a+6) c)) c<=c*(4*(bx+63)+1):=by
 have o:=b.m7;have be:∀e,e<=c->PM.be (7*a+6) c e<=bx/\PM.sB (PM.be (7*a+6) c) e<=bx+63:=λe h=>by unfold PM.sB PM.be;omega
 have f:=PM.f2_top λe d=>(be e d).2;exact⟨⟨b,PM.Bv.gen b,by omega,j,d,be,by unfold PM.be;omega,aH _,by omega,i⟩,f⟩
theorem Mp{k a:Nat}{c E:Mt}{D:Int}(b:PM.Bs m c D)(d:k<m)(i:m<=k+2)(h:D.natAbs<=2^20)(j:a<=300000)(g:∀E',PM.CL m k E E'->(E' k k).natAbs<=2^20) :
  Ej m k a 20 (4*a+3) (7*a+6+273) (7*a+6+210) (PM.sB (PM.bE (7*a+6))) (PM.bE (7*a+6)) c E D:=by
 have l:=b.m7;have f:=PM.f2_end (7*a+6);exact⟨b,PM.Bv.end b d h i,by omega,d,by omega,λe n=>by unfold PM.sB PM.bE;split<;>omega,by unfold PM.bE;rw[ju (by omega)];exact aH _,aH _,by omega,g⟩
theorem K5{k w:Nat}{p E:Mt}{D:Int}(b:PM.Bs m p D)(u:D.natAbs<=2^20)(J:m<=6)(n:k<m)(H:k=0->∀i j,i<m->j<m->(E i j).natAbs<=2^6)(h:PM.Pl m k (aK k) w p E)(x:w<=gK k) :
  ∃g d,YD [.lst (bL (m+m) E),.int (m:Int),.int (k:Int)]=aA (.lst (bL (m+m) g))/\d<=gK (k+1)/\PM.Pl m (k+1) (aK (k+1)) d p g:=by
 have kk:k=0\/k=1\/k=2\/k=3\/k=4\/k=5:=by omega
 have l:w<=31000000:=by rcases kk with r | r | r | r | r | r<;>subst r<;>exact aQ x (by decide)
 have s:∀{a},PM.Pl m k a w p E->∀g,PM.CL m k E g->(g k k).natAbs<=2^20:=λ{a} h g c=>aQ (h.small b n c λi G z=>h.ab i k G z (aH _) n).2 u;have c:(k+1=m)\/(k+2=m)\/(k+3<=m):=by omega
 rcases c with c | c | c
 ·have A:=IC b u c h;have P:=Mp b n (by omega) u (a:=20) (by omega) (s A)
  obtain⟨g,d,q,B,t⟩:=Q2 P A l (aK (k+1)) λe _=>by
   have:PM.bE (7*20+6) e<=210:=by unfold PM.bE;split<;>omega
   refine aQ this ?_;rcases kk with r | r | r | r | r | r<;>subst r<;>decide
  have f:=PM.f2_end (7*20+6);refine⟨g,d,q,?_,t⟩;have:gK k+50000<=gK (k+1):=by rcases kk with r | r | r | r | r | r<;>subst r<;>decide
  omega
 ·have L:aK k<=254000/\7*aK k+6<=aK (k+1)/\210<=aK (k+1)/\gK k+25*aK k+24000<=gK (k+1):=by
   have kk:k=0\/k=1\/k=2\/k=3\/k=4:=by omega
   rcases kk with r | r | r | r | r<;>subst r<;>decide
  have P:=Mp b n (by omega) u (a:=aK k) (by omega) (s h);obtain⟨g,d,q,B,t⟩:=Q2 P h l (aK (k+1)) λe _=>by unfold PM.bE;split<;>omega
  have f:=PM.f2_end (7*aK k+6);exact⟨g,d,q,by omega,t⟩
 ·have v:∀o,o<=20->7*aK k+6+PM.ad o<=aK (k+1)->4*aK k+3+3*(aK (k+1)+63)+2*aK (k+1)+o*(4*(aK (k+1)+63)+1)<=28500000->gK k+(4*aK k+3)+2*(aK (k+1)+63)+o*(4*(aK (k+1)+63)+1)<=gK (k+1)->(∀g,PM.CL m k E g->(g k k).natAbs<=2^o)->∃g d,YD [.lst (bL (m+m) E),.int (m:Int),.int (k:Int)]=aA (.lst (bL (m+m) g))/\d<=gK (k+1)/\PM.Pl m (k+1) (aK (k+1)) d p g:=λo y C I M F=>by obtain⟨P,f⟩:=ID b n y C I F;obtain⟨g,d,q,B,t⟩:=Q2 P h l (aK (k+1)) λe y=>(P.b8 e y).1;exact⟨g,d,q,by omega,t⟩
  have kk:k=0\/k=1\/k=2\/k=3:=by omega
  rcases kk with r | r | r | r
  ·subst r;exact v 6 (by omega) (by decide) (by decide) (by decide) λg c=>(h.small b n c λi _ z=>H rfl i 0 z n).1
  ·subst r;exact v 20 (by omega) (by decide) (by decide) (by decide) (s h)
  ·subst r;exact v 20 (by omega) (by decide) (by decide) (by decide) (s h)
  ·subst r;exact v 20 (by omega) (by decide) (by decide) (by decide) (s h)
end
section
variable {m:Nat} {A B:Mt} {u v:Nat->Int}
theorem K6{i j:Nat}(b:i<m)(a:j<m){f g h:XE}{s:ZA}(q:f s=aA (wP (Z7 m m B)))(c:g s=aA (.int (i:Int)))(d:h s=aA (.int (j:Int))):Zj ZT (Zj ZT f g) h s=aA (.int (B i j)):=o2 (o2 q c (WT (Np b))) d (S2 a)
theorem UZ{j:Nat}(d:m<=50)(b:j<m)(c:∀k,k<m->CMulW (u k) (B k j)):Y1 [pP (ZM m u),wP (Z7 m m B),.int (j:Int)]=aA (.int (sN m λk=>u k*B k j)):=by
 refine YU (ret (vP (c1 (W9 (q:=λi=>.tup [.int ((i:Nat):Int),.int (u i)]) (λk=>u k*B k j) ?_ (by omega) λi a=>⟨_,rfl,vC (C:=CMulW) (op:=(· * ·)) rfl (K6 a b rfl rfl rfl) (c i a)⟩) ?_)))
 ·show aA (Wz (iL (ZM m u)))=_;rw[G1,ZZ];congr 1;refine bN λi a=>?_;rw[Vw (aX.mp a)]
 ·rw[Kd];congr 2;exact Xx _ _
theorem Q3(c:m<=50)(b:∀k j,k<m->j<m->CMulW (u k) (B k j)):WD [pP (ZM m u),wP (Z7 m m B)]=aA (pP (ZM m λj=>sN m λk=>u k*B k j)):=
 YU (ret (F8 (c1 (Xe (λj=>sN m λk=>u k*B k j) (ZP (n:=m) (c1 rfl (by rw[Kf,aS,ZZ])) (by omega)) (by omega) λj a=>⟨_,rfl,rfl,c3 rfl rfl rfl (UZ c a λk d=>b k j d a)⟩) (YC _))))
theorem U9{M:List (List Int)}{f:XE}{s:ZA}(q:f s=aA (.lst (tL M))):eP (Zc ZH [f]) s=aA (wP M):=ep (c1 q (YC _)) (by rw[YH];exact XY _)
theorem Vh(d:m<=50)(b:∀i k j,i<m->k<m->j<m->CMulW (A i k) (B k j)):Yk [wP (Z7 m m A),wP (Z7 m m B)]=aA (wP (Z7 m m (PM.mul m A B))):=
 YU (ret (U9 (Xz (w:=m) (PM.mul m A B) (q:=λi=>pP (ZM m (A i))) (by show aA (tL (Z7 m m A))=_;rw[UW]) (by omega) λi c=>⟨_,rfl,c2 rfl rfl (Q3 d λk j e a=>b i k j c e a)⟩)))
theorem S5(c:m<=100)(a:∀j,j<m->R4 (u j) (v j)):W6 [pP (ZM m u),pP (ZM m v)]=aA (pP (ZM m λj=>(u j).fdiv (v j))):=
 YU (ret (F8 (c1 (W9 (q:=λj=>.tup [.int (u j),.int (v j)]) (λj=>(u j).fdiv (v j)) (by show aA (Uz (iL (ZM m u)) (iL (ZM m v)))=_;rw[KW]) c λj b=>⟨_,rfl,vC (C:=R4) (op:=j7) rfl rfl (a j b)⟩) (YC _))))
theorem Q4{W:List (List Int)}(ok:Yt W)(a:W.length=m+1):WC [wP W]=aA (wP (Z7 m m (Zy W 0))):=by have h:=Ub ok (b:=0) ok.pos;rw[show W.length-1=m by omega] at h;exact YU (ret (c2 rfl rfl h))
theorem IE{l:List PV}{k:Nat}(a:k<=l.length):XD l none (aA (k:Int))=l.take k:=by unfold XD;rw[HT.sIx_none,HT.sIx_nat,fj,gm,dB a]
theorem IF{l:List PV}{k:Nat}(a:k<=l.length):XD l (aA (k:Int)) none=l.drop k:=by unfold XD;rw[HT.sIx_none,HT.sIx_nat,dB a,bV (by rw[dq];omega)]
theorem IG:(ZM (m+m) u).take m=ZM m u:=by have:=TQ (w:=m+m) (v:=u) (a:=0) (b:=m) (by omega) (by omega);rw[fj,gm] at this;rw[this];unfold ZM;refine bN λi _=>?_;rw[Nat.zero_add]
theorem IH:(ZM (m+m) u).drop m=ZM m λj=>u (m+j):=by have:=TQ (w:=m+m) (v:=u) (a:=m) (b:=m+m) (by omega) (by omega);rw[bV (by rw[dq,ZZ];omega),show m+m-m=m by omega] at this;exact this
theorem Ff{x:Int}(b:1<=m)(a:m<=100):PR (.tup [.int x]) (.int (m:Int))=aA (pP (ZM m λ_=>x)):=by
 unfold PR;simp only[];rw[ju (by refine⟨rfl,by simp,by omega,by omega,by simp;omega⟩)];congr 2;apply cO;intro i;unfold ZM;by_cases h:i<m
 ·simp[h]
 ·simp[h]
end
abbrev Uh(m:Nat)(E:Mt):Mt:=λi j=>E i (m+j)
abbrev U0(m:Nat)(E:Mt):Mt:=λi j=>E (m+i) j
abbrev Dt(W:List (List Int))(m:Nat)(E:Mt):List (List Int):=Z7 m m λi j=>(PM.mul m (Zy W 0) (U0 m E) i j).fdiv (E j j)
abbrev Du(W:List (List Int))(m:Nat)(E:Mt):List (List Int):=Z7 m m λi j=>(PM.mul m (Uh m E) (Zy W 0) i j).fdiv (E i i)
theorem K7{W:List (List Int)}{m:Nat}(ok:Yt W)(H:SS W)(L:W.length<=7)(N:(Vf W).length<=28)(D:W.length=m+1) :
  ∃E c,TH [wP W]=aA (.tup [wP (Z7 m m (Uh m E)),wP (Dt W m E),wP (Z7 m m (U0 m E)),wP (Du W m E),pP (ZM m λi=>E i i)])/\PM.Cr m m (Zy W 0) E/\c<=43000000/\(∀i j,i<m->j<m->(E i (m+j)).natAbs<=2^c)/\(∀i j,i<m->j<m->(E (m+i) j).natAbs<=2^c)/\(∀i,i<m->E i i∣ZV m (Zy W 0)):=by
 have M:m<=6:=by omega
 have bs:=K3 ok H L D;have I:=DM ok H D L N;have t:=Ho ok H D N
 suffices g:Yv N7 (ZQ 10 [wP W]) λv=>∃E c,v = .tup [wP (Z7 m m (Uh m E)),wP (Dt W m E),wP (Z7 m m (U0 m E)),wP (Du W m E),pP (ZM m λi=>E i i)]/\PM.Cr m m (Zy W 0) E/\c<=43000000/\(∀i j,i<m->j<m->(E i (m+j)).natAbs<=2^c)/\(∀i j,i<m->j<m->(E (m+i) j).natAbs<=2^c)/\(∀i,i<m->E i i∣ZV m (Zy W 0)) by obtain⟨v,e,E,c,rfl,r⟩:=SX g;exact⟨E,c,e,r⟩
 refine ZX (Zz (c1 rfl (Q4 ok D))) (ZX (Zz (vP (c1 rfl (by rw[Oe,Va])))) (ZX (Zz (c1 rfl (Oq (by omega)))) (Ua (Mf (n:=m) (λk s=>∃E c C,s=[aA (wP W),aA (wP (Z7 m m (Zy W 0))),aA (.int (m:Int)),aA (.lst (bL (m+m) E)),C,none,none,none,none,none]/\c<=gK k/\(k=0->∀i j,i<m->j<m->(E i j).natAbs<=2^6)/\PM.Pl m k (aK k) c (Zy W 0) E) rfl ⟨E0 m (Zy W 0),0,none,rfl,cB _,λ_ i j b d=>?_,?_⟩ ?_) ?_)))
 ·rw[show E0 m (Zy W 0) i j=Zy W 0 i j by unfold E0;rw[ju b,ju d]];exact aQ (t i j b d) (by decide)
 ·exact D4 M λi j b d=>aQ (t i j b d) (by decide)
 ·rintro k s u ⟨E,c,C,rfl,f,Y,h⟩;obtain⟨Q,F,e,l,p⟩:=K5 bs I M u Y h f;exact Me (Zz (c3 rfl rfl rfl e)) ⟨Q,F,_,rfl,l,λz=>absurd z (by omega),p⟩
 ·rintro s ⟨E,c,C,rfl,f,_,h⟩
  have y:c<=43000000:=aQ f (by
   have kk:m=0\/m=1\/m=2\/m=3\/m=4\/m=5\/m=6:=by omega
   rcases kk with r | r | r | r | r | r | r<;>subst r<;>decide)
  have P:∀i,i<m->E i i∣ZV m (Zy W 0):=λi b=>by
   obtain⟨Z0,R⟩:=bs.z;refine h.cr.adm.div R b λx U=>?_;by_cases q:x=i
   ·rw[q];exact fA _
   ·rw[(h.cr.d1 i x b U q).2];exact cD _
  have dl:∀i,i<m->E i i≠0/\(E i i).natAbs.log2<9000:=λi b=>by have h1:=h.cr.d2 i b;have h2:=dZ (by have:=bs.nz;omega) (ba.mpr (P i b));refine⟨by omega,?_⟩;have:=KY (x:=E i i) (G:=21) (by omega) (by omega);omega
  have J:∀{i j G},6<=G->i<m->j<m->(Zy W 0 i j).natAbs<2^G:=λ{i j G} Z b d=>aZ (show _<2^6 by have:=t i j b d;omega) (PM.pw2 Z);have X:∀i j,i<m->j<m->(E (m+i) j).natAbs<2^(c+6):=λi j b d=>bA (h.rb i j b d) (cH (by omega) (by omega));have T:∀i j,i<m->j<m->(E i (m+j)).natAbs<2^(c+6):=λi j b d=>bA (h.lb i j b d) (cH (by omega) (by omega));have S:=Vh (m:=m) (A:=Zy W 0) (B:=U0 m E) (by omega) λi k j b u d=>Lc (G:=c+6) (J (by omega) b u) (X k j u d) (by omega) (by omega);have e9:=Vh (m:=m) (A:=Uh m E) (B:=Zy W 0) (by omega) λi k j b u d=>Lc (G:=c+6) (T i k b u) (J (by omega) u d) (by omega) (by omega);have lst:bL (m+m) E=(aJ m).map (λi=>cR (m+m) (E i))++(aJ m).map λi=>cR (m+m) (E (m+i)):=by unfold bL;rw[j8,cZ,cg];rfl
  refine ZX (Zz (F8 (c1 (Xe (λi=>E i i) (ZP rfl (by omega)) (by omega) λi b=>⟨_,rfl,rfl,Ud (w:=m+m) (E:=E) (by omega) (by omega) rfl rfl rfl⟩) (YC _)))) (ZX (Zz (U9 (Xz (w:=m) (Uh m E) (q:=λi=>cR (m+m) (E i)) ?_ (by omega) λi b=>⟨_,rfl,c1 (a:=.lst (iL (ZM m λj=>E i (m+j)))) ?_ (YC _)⟩))) (ZX (Zz (U9 (Xz (w:=m) (U0 m E) (q:=λi=>cR (m+m) (E (m+i))) ?_ (by omega) λi b=>⟨_,rfl,c1 (a:=.lst (iL (ZM m (E (m+i))))) ?_ (YC _)⟩))) (ZX (Zz (U9 (Xz (m:=m) (w:=m) (λi j=>(PM.mul m (Zy W 0) (U0 m E) i j).fdiv (E j j)) (q:=λi=>pP (ZM m (PM.mul m (Zy W 0) (U0 m E) i))) ?_ (by omega) λi b=>⟨_,rfl,c2 rfl rfl (S5 (by omega) λj d=>dl j d)⟩))) (ZX (Zz (U9 (Xz (m:=m) (w:=m) (λi j=>(PM.mul m (Uh m E) (Zy W 0) i j).fdiv (E i i)) (q:=λi=>.tup [pP (ZM m (PM.mul m (Uh m E) (Zy W 0) i)),.int (E i i)]) ?_ (by omega) λi b=>⟨_,rfl,c2 rfl (o2 (a:=.tup [.int (E i i)]) rfl rfl (Ff (by omega) (by omega))) (S5 (by omega) λj d=>dl i b)⟩))) (XQ (ep rfl ?_) ⟨E,c,rfl,h.cr,y,h.lb,h.rb,P⟩)))))
  ·show(PH VR (Za 3) L0 (S7 (Za 2)) _).bind _=_;rw[W0];show(aA (PV.lst (XD (bL (m+m) E) none (aA (m:Int))))).bind _=_;rw[IE (by rw[Vx];omega),lst,List.take_left' (by simp)];rfl
  ·rw[W0];show aA (PV.lst (XD (iL (ZM (m+m) (E i))) (aA (m:Int)) none))=_;rw[GZ,IH]
  ·show(PH VR (Za 3) (S7 (Za 2)) L0 _).bind _=_;rw[W0];show(aA (PV.lst (XD (bL (m+m) E) (aA (m:Int)) none))).bind _=_;rw[IF (by rw[Vx];omega),lst,List.drop_left' (by simp)];rfl
  ·rw[W0];show aA (PV.lst (XD (iL (ZM (m+m) (E (m+i)))) none (aA (m:Int))))=_;rw[KH,IG]
  ·have:Zc Yk [Za 1,Za 7] [aA (wP W),aA (wP (Z7 m m (Zy W 0))),aA (.int (m:Int)),aA (.lst (bL (m+m) E)),C,aA (pP (ZM m λi=>E i i)),aA (wP (Z7 m m (Uh m E))),aA (wP (Z7 m m (U0 m E))),none,none]=aA (wP (Z7 m m (PM.mul m (Zy W 0) (U0 m E)))):=c2 rfl rfl S;refine(Sn this).trans ?_;show aA (tL (Z7 m m _))=_;rw[UW]
  ·have:∀O,Zc Yk [Za 6,Za 1] [aA (wP W),aA (wP (Z7 m m (Zy W 0))),aA (.int (m:Int)),aA (.lst (bL (m+m) E)),C,aA (pP (ZM m λi=>E i i)),aA (wP (Z7 m m (Uh m E))),aA (wP (Z7 m m (U0 m E))),O,none]=aA (wP (Z7 m m (PM.mul m (Uh m E) (Zy W 0)))):=λO=>c2 rfl rfl e9;rw[Ki];refine(congrArg (λo=>fH o _) (this _)).trans ?_;show aA (Uz (tL (Z7 m m (PM.mul m (Uh m E) (Zy W 0)))) (iL (ZM m λi=>E i i)))=_;rw[Sm _ _ (by rw[Nn];simp[ZZ]),Nn];congr 1;refine bN λi b=>?_;have b:=aX.mp b;rw[aN,Np b,Tx _ i (by rw[ZZ];exact b),Vw b];rfl
  ·rw[YH];simp only[Zw,YH,XY,Z1,jd]
end PW
namespace PW
open L2 VL
noncomputable def Ug(n:Nat)(M:List (List Int)):Int:=sN n λi=>sN n (ent M i)
theorem Lg(n:Nat):Ug n (aU n (aU n (0:Int)))=0:=Wj λi b=>Wj λj a=>by simp[ent,Zr,Xa,b,a]
theorem Qb{n a b:Nat}{c:Int}(g:a<n)(e:b<n):(sN n λi=>sN n λj=>if i=a/\j=b then c else 0)=c:=by rw[ZW g λi _ f=>Wj λj _=>jv λz=>f z.1,ZW e λj _ d=>jv λz=>d z.2,ju ⟨rfl,rfl⟩]
theorem Mq{n:Nat}{M:List (List Int)}{a b:Nat}{t:Int}(ok:MatOk n M)(d:a<n)(c:b<n)(f:a≠b):Ug n (SW M a b t)=Ug n M+2*(t-ent M a b):=by
 have e:Ug n (SW M a b t)=sN n λi=>sN n λj=>(ent M i j+if i=a/\j=b then t-ent M a b else 0)+if i=b/\j=a then t-ent M a b else 0:=Zh λi k=>Zh λj h=>by
  rw[TM ok d c];have s:=ok.sym a b d c;by_cases p:b=i/\a=j
  ·obtain⟨rfl,rfl⟩:=p;rw[ju ⟨rfl,rfl⟩,jv λz=>f z.1.symm,ju ⟨rfl,rfl⟩];omega
  ·rw[jv p,jv (show ¬(i=b/\j=a) from λz=>p ⟨z.1.symm,z.2.symm⟩)];by_cases p2:a=i/\b=j
   ·obtain⟨rfl,rfl⟩:=p2;rw[ju ⟨rfl,rfl⟩,ju ⟨rfl,rfl⟩];omega
   ·rw[jv p2,jv (show ¬(i=a/\j=b) from λz=>p2 ⟨z.1.symm,z.2.symm⟩)];omega
 rw[e]
 have g:(sN n λi=>sN n λj=>(ent M i j+if i=a/\j=b then t-ent M a b else 0)+if i=b/\j=a then t-ent M a b else 0)=(Ug n M+sN n λi=>sN n λj=>if i=a/\j=b then t-ent M a b else 0)+sN n λi=>sN n λj=>if i=b/\j=a then t-ent M a b else 0:=by
  unfold Ug;rw[<-Yc,<-Yc];exact Zh λi _=>by rw[<-Yc,<-Yc]
 rw[g,Qb d c,Qb c d];omega
theorem Dv{c:List Int}{mo n:Nat}{M:List (List Int)}{sp:List Int}{x7 x8 x9:Option PV}{k:Nat}(h:c.length<=63)(S:n<=7)(u:1<=k)(r:k<n)(f:NamesOk n sp)(ok:MatOk n M)(F:Grown M sp k) :
  ∃M' y7,MatOk n M'/\Grown M' sp (k+1)/\Ug n M'<=Ug n M+6/\EC (Xm c mo n M sp (aA (.int (k:Int))) x7 x8 x9)=aA (.nx (Xm c mo n M' sp (aA (.int (k:Int))) y7 x8 x9)):=by
 obtain⟨v,N,L⟩:=Xy (Yn c k) (t:=1) (m:=k) (by omega) (by omega);obtain⟨w,O,G⟩:=Xy (Yn c k) (t:=2) (m:=3) (by omega) (by omega);have I:=W7 h (k:=k) (by omega);have Q:=f.at (x:=k) r;have T:=f.at (x:=v) (by omega);have ne:=f.ne (x:=k) (y:=v) r (by omega) (by omega);obtain⟨a,ea⟩:∃a:Nat,Xa sp k=(a:Int):=⟨(Xa sp k).toNat,by omega⟩;obtain⟨b,C⟩:∃b:Nat,Xa sp v=(b:Int):=⟨(Xa sp v).toNat,by omega⟩;have e:a<n:=by omega
 have d:b<n:=by omega
 have s:=Od (k:=1+(w:Int)) ok e d;have lo:=ok.lo a b e d;generalize z:(if ent M a b+(1+(w:Int))<9 then ent M a b+(1+(w:Int)) else 9)=t at s;have A:0<t/\t<=9:=by rw[<-z];split<;>omega
 have U:t<=ent M a b+3:=by rw[<-z];have:=ok.hi a b e d;split<;>omega
 have p:a≠b:=by omega
 have P:=Mq (t:=t) ok e d p;have B:=Vm (l:=sp) (k:=k) (by rw[f.len];exact r);have D:=Vm (l:=sp) (k:=v) (by rw[f.len];omega);rw[ea] at B;rw[C] at D;obtain⟨J,E⟩:=Mc ok e d A.1;refine⟨SW M a b t,aA (.int (Yn c k)),KJ ok e d (by omega) (by omega) A.2,λj u R=>?_,?_,?_⟩
 ·by_cases q:j<k
  ·exact(F.mono J) j u q
  ·have:j=k:=by omega
   subst this;exact⟨v,N,by rw[ea,C];exact E⟩
 ·omega
 ·have H:Zx 7 (Zc Z5 [Za 0,Za 6]) (Xm c mo n M sp (aA (.int (k:Int))) x7 x8 x9)=aA (.nx (Xm c mo n M sp (aA (.int (k:Int))) (aA (.int (Yn c k))) x8 x9)):=by simp[Xm,I]
  unfold EC;rw[Y9 H,Mb (i:=4) (l0:=.lst (rL M)) (ls:=[.int (a:Int),.int (b:Int),.int (1+(w:Int))]) rfl ?_ rfl s]
  ·rfl
  ·have g:Zu [PV.int (Yn c k),PV.int 1,PV.int (k:Int)]=aA (.int (v:Int)):=L;have o:Zu [PV.int (Yn c k),PV.int 2,PV.int 3]=aA (.int (w:Int)):=G;simp[Xm,B,D,g,o]
theorem Dw{e:List Int}{mo n:Nat}{M:List (List Int)}{sp:List Int}{x7 x8 x9:Option PV}{i:Nat}(p:e.length<=63)(R:n<=7)(Q:2<=n)(O:i<6)(ok:MatOk n M) :
  ∃M' y7 y8 y9,MatOk n M'/\(∀i j,0<ent M i j->0<ent M' i j)/\Ug n M'<=Ug n M+4/\ED (Xm e mo n M sp (aA (.int (i:Int))) x7 x8 x9)=aA (.nx (Xm e mo n M' sp (aA (.int (i:Int))) y7 y8 y9)):=by
 generalize H:Yn e (7+i)=c;obtain⟨a,g,ea⟩:=Xy c (t:=4) (m:=n) (by omega) (by omega);obtain⟨d,P,x⟩:=Xy c (t:=5) (m:=n-1) (by omega) (by omega);obtain⟨w,L,A⟩:=Xy c (t:=6) (m:=2) (by omega) (by omega);have o:=W7 p (k:=7+i) (by omega);rw[H] at o
 obtain⟨b,f,h,I⟩:∃b:Nat,b<n/\a≠b/\((a:Int)+1+(d:Int))%(n:Int)=(b:Int):=by
  refine⟨(a+1+d)%n,ij _ (by omega),?_,?_⟩
  ·by_cases q:a+1+d<n
   ·rw[jN q];omega
   ·rw[Nat.mod_eq_sub_mod (by omega),jN (by omega)];omega
  ·have:((a:Int)+1+(d:Int))=((a+1+d:Nat):Int):=by omega
   rw[this];exact(Int.natCast_emod _ _).symm
 have v:=Od (k:=1+(w:Int)) ok g f;have lo:=ok.lo a b g f;generalize y:(if ent M a b+(1+(w:Int))<9 then ent M a b+(1+(w:Int)) else 9)=t at v;have z:0<t/\t<=9:=by rw[<-y];split<;>omega
 have S:t<=ent M a b+2:=by rw[<-y];have:=ok.hi a b g f;split<;>omega
 have N:=Mq (t:=t) ok g f h;obtain⟨E,J⟩:=Mc ok g f z.1;refine⟨SW M a b t,aA (.int c),aA (.int (a:Int)),aA (.int (b:Int)),KJ ok g f h (by omega) z.2,E,by omega,?_⟩;have B:((7+i:Nat):Int)=7+(i:Int):=by omega
 rw[B] at o;have C:Zx 7 (Zc Z5 [Za 0,Zj Yd (eC (.int 7)) (Za 6)]) (Xm e mo n M sp (aA (.int (i:Int))) x7 x8 x9)=aA (.nx (Xm e mo n M sp (aA (.int (i:Int))) (aA (.int c)) x8 x9)):=by simp[Xm,o]
 have s:Zu [PV.int c,PV.int 4,PV.int (n:Int)]=aA (.int (a:Int)):=ea;have G:Zx 8 (Zc Zu [Za 7,eC (.int 4),Za 3]) (Xm e mo n M sp (aA (.int (i:Int))) (aA (.int c)) x8 x9)=aA (.nx (Xm e mo n M sp (aA (.int (i:Int))) (aA (.int c)) (aA (.int (a:Int))) x9)):=by simp[Xm,s]
 have u:((n-1:Nat):Int)=(n:Int)-1:=by omega
 rw[u] at x;have l:Zu [PV.int c,PV.int 5,PV.int ((n:Int)-1)]=aA (.int (d:Int)):=x;have F:0<n:=by omega
 have D:Zx 9 (eP (Zj Vl (Zj Yd (Zj Yd (Za 8) (eC (.int 1))) (Zc Zu [Za 7,eC (.int 5),Zj Wx (Za 3) (eC (.int 1))])) (Za 3))) (Xm e mo n M sp (aA (.int (i:Int))) (aA (.int c)) (aA (.int (a:Int))) x9)=aA (.nx (Xm e mo n M sp (aA (.int (i:Int))) (aA (.int c)) (aA (.int (a:Int))) (aA (.int (b:Int))))):=by simp[Xm,l,F,I]
 have r:Zu [PV.int c,PV.int 6,PV.int 2]=aA (.int (w:Int)):=A;unfold ED;rw[Y9 C,Y9 G,Y9 D,Mb (i:=4) (l0:=.lst (rL M)) (ls:=[.int (a:Int),.int (b:Int),.int (1+(w:Int))]) rfl ?_ rfl v]
 ·rfl
 ·simp[Xm,r]
theorem Ny{a:List Int}(w:a.length<=63){mo:Nat}(h1:1<=mo)(h7:mo<=7):∃W,QF [.cst (iL a),.int (mo:Int)]=aA (wP W)/\Yt W/\SS W/\W.length<=mo/\(Vf W).length<=28:=by
 obtain⟨S,hp0,U⟩:=Xy (Yn a 0) (t:=0) (m:=mo) (by omega) (by omega);have H:Zu [PV.int (Yn a 0),PV.int 0,PV.int (mo:Int)]=aA (.int (S:Int)):=U;have P:=W7 w (k:=0) (by omega);have C:Z5 [PV.cst (iL a),PV.int 0]=aA (.int (Yn a 0)):=P;obtain⟨n,hn⟩:∃n:Nat,n=1+S:=⟨_,rfl⟩;have hn':(1:Int)+(S:Int)=(n:Int):=by omega
 let Z:=aU n (aU n (0:Int));have e1:Zx 2 (Zc Z5 [Za 0,eC (.int 0)]) [aA (.cst (iL a)),aA (.int (mo:Int)),none,none,none,none,none,none,none,none]=aA (.nx [aA (.cst (iL a)),aA (.int (mo:Int)),aA (.int (Yn a 0)),none,none,none,none,none,none,none]):=by simp[C]
 have e2:Zx 3 (eP (Zj Yd (eC (.int 1)) (Zc Zu [Za 2,eC (.int 0),Za 1]))) [aA (.cst (iL a)),aA (.int (mo:Int)),aA (.int (Yn a 0)),none,none,none,none,none,none,none]=aA (.nx [aA (.cst (iL a)),aA (.int (mo:Int)),aA (.int (Yn a 0)),aA (.int (n:Int)),none,none,none,none,none,none]):=by simp[H,hn']
 have e3:Zx 4 (Zt 1 [3] (ZR [Za 3]) (.one 0) ZF (Zj PK (VH [eC (.int 0)]) (Za 1))) [aA (.cst (iL a)),aA (.int (mo:Int)),aA (.int (Yn a 0)),aA (.int (n:Int)),none,none,none,none,none,none]=aA (.nx [aA (.cst (iL a)),aA (.int (mo:Int)),aA (.int (Yn a 0)),aA (.int (n:Int)),aA (.lst (rL Z)),none,none,none,none,none]):=by rw[Sj,La (n:=n) rfl (by omega)];rfl
 have e4:Zx 5 (VH []) [aA (.cst (iL a)),aA (.int (mo:Int)),aA (.int (Yn a 0)),aA (.int (n:Int)),aA (.lst (rL Z)),none,none,none,none,none]=aA (.nx (Xm a mo n Z [] none none none none)):=by simp[Xm]
 -- the houses' order
 obtain⟨s5,f5,sp,B,hs5,I⟩:=Xh (T:=.one 6) (fb:=EB) (ls:=Uy n) (s:=Xm a mo n Z [] none none none none)
  (λi st=>∃sp B,st=Xm a mo n Z sp B none none none/\NamesOk i sp) ⟨[],none,rfl,NamesOk.nil⟩ (by
   rintro i l st E ⟨sp,B,rfl,I⟩;obtain⟨L,rfl⟩:=V3 E;obtain⟨X,Y,e⟩:=G0 (mo:=mo) (n:=n) (M:=Z) (x7:=none) (x8:=none) (x9:=none) w (by omega) I;exact⟨_,_,rfl,e,X,_,rfl,Y⟩)
 subst hs5;rw[Sl] at I;have e5:YB [4,5] (ZR [Za 3]) (.one 6) EB (Xm a mo n Z [] none none none none)=aA (.nx (Xm a mo n Z sp B none none none)):=by show(ZR [Za 3] (Yg [4,5] (Xm a mo n Z [] none none none none))).bind _=_;rw[ZP (n:=n) (by simp[Xm,Yg]) (by omega)];exact f5
 -- each to one ahead
 obtain⟨s6,f6,M,p,h,Q,u,J,sm⟩:=Xh (T:=.one 6) (fb:=EC) (ls:=X9 1 (n-1)) (s:=Xm a mo n Z sp B none none none)
  (λi st=>∃M p h,st=Xm a mo n M sp p h none none/\MatOk n M/\Grown M sp (i+1)/\Ug n M<=6*(i:Int)) ⟨Z,B,none,rfl,MatOk.zero n,λj h1 h2=>by omega,by rw[Lg];omega⟩ (by
   rintro i l st E ⟨M,p,h,rfl,u,J,sm⟩;obtain⟨L,rfl⟩:=PQ E;have hk:(1:Int)+(i:Int)=((i+1:Nat):Int):=by omega
   rw[hk];obtain⟨d,o,b,f,y,e⟩:=Dv (mo:=mo) (x7:=h) (x8:=none) (x9:=none) (k:=i+1) w (by omega) (by omega) (by omega) I u J;exact⟨_,_,rfl,e,d,_,o,rfl,b,f,by omega⟩)
 subst Q;rw[Kh] at J sm
 have e6:YB [4,5] (Yz [eC (.int 1),Za 3]) (.one 6) EC (Xm a mo n Z sp B none none none)=aA (.nx (Xm a mo n M sp p h none none)):=by
  show(Yz [eC (.int 1),Za 3] (Yg [4,5] (Xm a mo n Z sp B none none none))).bind _=_;rw[W3 (i:=1) (j:=(n:Int)) rfl (by simp[Xm,Yg]) (by omega) (by omega)];have:((n:Int)-1).toNat=n-1:=by omega
  rw[this];exact f6
 have F:Grown M sp n:=λj h1 h2=>J j h1 (by omega)
 -- more ties
 obtain⟨N,hp3,ep3⟩:=Xy (Yn a 0) (t:=3) (m:=6) (by omega) (by omega);have G:Zu [PV.int (Yn a 0),PV.int 3,PV.int 6]=aA (.int (N:Int)):=ep3
 have e7:∃d A o x z,MatOk n d/\Grown d sp n/\Ug n d<=56/\Q6 (xB (Zj MK (Za 3) (eC (.int 1)))) (YB [4,5] (ZR [Zc Zu [Za 2,eC (.int 3),eC (.int 6)]]) (.one 6) ED) YZ (Xm a mo n M sp p h none none)=aA (.nx (Xm a mo n d sp A o x z)):=by
  by_cases q:1<n
  ·obtain⟨s7,f7,d,A,o,x,z,hs7,b,f,y⟩:=Xh (T:=.one 6) (fb:=ED) (ls:=Uy N) (s:=Xm a mo n M sp p h none none)
    (λi st=>∃d A o x z,st=Xm a mo n d sp A o x z/\MatOk n d/\Grown d sp n/\Ug n d<=36+4*(i:Int)) ⟨M,p,h,none,none,rfl,u,F,by omega⟩ (by
     rintro i l st E ⟨d,A,o,x,z,rfl,b,f,y⟩;obtain⟨L,rfl⟩:=V3 E;obtain⟨M2,u7,u8,u9,O,g2,sm2,e⟩:=Dw (mo:=mo) (sp:=sp) (x7:=o) (x8:=x) (x9:=z) (i:=i) w (by omega) (by omega) (by omega) b;exact⟨_,_,rfl,e,M2,_,u7,u8,u9,rfl,O,f.mono g2,by omega⟩)
   subst hs7;rw[Sl] at y;refine⟨d,A,o,x,z,b,f,by omega,?_⟩
   have c:xB (Zj MK (Za 3) (eC (.int 1))) (Xm a mo n M sp p h none none)=aA aC:=by
    have q':(1:Int)<(n:Int):=by omega
    simp[Xm,q,q']
   rw[Wc,c];simp only[a9,if_true];show(ZR [Zc Zu [Za 2,eC (.int 3),eC (.int 6)]] (Yg [4,5] (Xm a mo n M sp p h none none))).bind _=_;rw[ZP (n:=N) (by simp[Xm,Yg,G]) (by omega)];exact f7
  ·refine⟨M,p,h,none,none,u,F,by omega,?_⟩
   have c:xB (Zj MK (Za 3) (eC (.int 1))) (Xm a mo n M sp p h none none)=aA aB:=by
    have q':¬(1:Int)<(n:Int):=by omega
    simp[Xm,q']
   rw[Wc,c];rfl
 obtain⟨d,A,o,x,z,b,f,y,e7⟩:=e7;refine⟨d,?_,b.web (by omega) (by omega),f.conn b.len I,by rw[b.len];omega,?_⟩
 ·have R:Zt 1 [] (VQ (Za 4)) (.one 0) ZF (Zc ZH [Za 0]) (Xm a mo n d sp A o x z)=aA (.lst (d.map pP)):=by rw[Z2 d (λr=>.lst (iL r)) pP (by simp[Xm,rL]) (by rw[b.len];omega) (λr _=>⟨_,rfl,rfl,by simp[ZU]⟩)]
  show Xg 10 QE _=_;unfold QE;show(Zq _ _ [aA (.cst (iL a)),aA (.int (mo:Int)),none,none,none,none,none,none,none,none]).bind O1=_;rw[Y9 e1,Y9 e2,Y9 e3,Y9 e4,Y9 e5,Y9 e6,Y9 e7,Ii (v:=wP d)]
  ·rfl
  ·rw[Si,YG,ZK,R];simp
 ·have D:=b.web (by omega) (by omega);have t:=Oa D;rw[Xx,b.len,Zh (g:=λi=>sN n (ent d i)) λi L=>by rw[V8 D (by rw[b.len];exact L),Xx,b.len]] at t;have:Ug n d=2*((Vf d).length:Int):=t;omega
end PW
namespace PW
open PySem L2 VL VX
theorem Ou{v:PV}(neg:Bool)(h:X8 8 v v=aC):WX neg v v=aA (.bl (!neg)):=by
 unfold WX;rw[ju h];cases neg<;>simp
theorem K8(neg:Bool)(M:List (List Int)):WX neg (wP M) (wP M)=aA (.bl (!neg)):=Ou neg (V0 5 M M)
theorem Dx{M:List (List Int)}{s:ZA}:(fH ((fH (aA (PV.lst (tL M))) λx=>(Tg [] s).map (x::·)).bind ZH) λl=>if ZJ l=aC then aA l else none)=aA (wP M):=by show(if ZJ (wP M)=aC then aA (wP M) else none)=_;rw[ju (by rw[YH];exact XY _)]
theorem Tq{W:List (List Int)}(ok:Yt W):Xj [wP W]=aA (wP (Z7 (W.length-1) (W.length-1) (Zy W 0))):=by
 have O:=ok.pos;have N:=ok.few;obtain⟨m,E⟩:∃m,W.length=m+1:=⟨W.length-1,by omega⟩;have p:W.length-1=m:=by omega
 rw[p];let M:=Zy W 0;let rows:Nat->Option PV:=λi=>aA (.lst ((aJ i).map λi=>pP (ZM m (M i))));let st:Nat->Option PV->Option PV->ZA:=λi f d=>[aA (wP W),rows i,f,d]
 have len:∀s:ZA,s[0]?=aA (aA (wP W))->Zc Yo [Za 0] s=aA (.int (W.length:Int)):=λs h=>by
  have:Za 0 s=aA (wP W):=by show s[0]?.bind id=_;rw[h];rfl
  rw[YG,ZK,this];show aA (PV.int ((W.map pP).length:Int))=_;rw[aS]
 have t:∀s:ZA,s[0]?=aA (aA (wP W))->Yz [eC (.int 1),Zc Yo [Za 0]] s=aA (X9 1 m):=λs h=>by rw[W3 (i:=1) (j:=(W.length:Int)) rfl (len s h) ⟨by omega,by omega⟩ ⟨by omega,by omega⟩,E];congr 2;omega
 let fb:XS:=(Zq (Zx 3 (Zt 1 [0,2] (Yz [eC (.int 1),Zc Yo [Za 0]]) (.one 0) ZF (eP (Zj Wx (eC (.int 0)) (Zj ZT (Zj ZT (Za 1) (Za 2)) (Za 0))))))
  (Zq (YF 3 (Zj Wx (Za 2) (eC (.int 1))) (Zc VJ [Zj ZT (Za 0) (Za 2)]))
  (Xu 1 (eP (Zc ZH [Za 3])))))
 obtain⟨L,f1,f,d,G⟩:=Xh (T:=.one 2) (fb:=fb) (ls:=X9 1 m) (s:=st 0 none none) (λi s=>∃f d,s=st i f d) ⟨none,none,rfl⟩ (by
  rintro i l s A ⟨f,d,rfl⟩;obtain⟨D,rfl⟩:=PQ A;have r:i+1<W.length:=by omega
  have z:(1:Int)+(i:Int)=((i+1:Nat):Int):=by omega
  rw[z];let c:Nat->Int:=λj=>0-ent W (i+1) (j+1)
  have H:Zt 1 [0,2] (Yz [eC (.int 1),Zc Yo [Za 0]]) (.one 0) ZF (eP (Zj Wx (eC (.int 0)) (Zj ZT (Zj ZT (Za 1) (Za 2)) (Za 0)))) (st i (aA (.int ((i+1:Nat):Int))) d)=aA (.lst (iL (ZM m c))):=by
   rw[Z2 (aJ m) (λ(j:Nat)=>.int (1+(j:Int))) (λj=>.int (c j)) (t _ rfl) (by simp;omega) (λj e=>⟨[aA (.int (1+(j:Int))),aA (wP W),aA (.int ((i+1:Nat):Int))],rfl,rfl,?_⟩)]
   ·simp[ZM]
   ·have e:=aX.mp e;have u:(1:Int)+(j:Int)=((j+1:Nat):Int):=by omega
    have n:Um (W.map pP) ((i+1:Nat):Int)=aA (pP (Zr W (i+1))):=Tw r;have o:=Vm (l:=Zr W (i+1)) (k:=j+1) (by rw[ok.sq _ r];omega);have B:Zj ZT (Za 1) (Za 2) [aA (.int (1+(j:Int))),aA (wP W),aA (.int ((i+1:Nat):Int))]=aA (pP (Zr W (i+1))):=n;have F:Zj ZT (Zj ZT (Za 1) (Za 2)) (Za 0) [aA (.int (1+(j:Int))),aA (wP W),aA (.int ((i+1:Nat):Int))]=aA (.int (ent W (i+1) (j+1))):=by rw[Tv,B];show Um (iL (Zr W (i+1))) (1+(j:Int))=_;rw[u];exact o
    exact vP (vI (op:=(· - ·)) (a:=0) rfl F)
  have w:Zx 3 (Zt 1 [0,2] (Yz [eC (.int 1),Zc Yo [Za 0]]) (.one 0) ZF (eP (Zj Wx (eC (.int 0)) (Zj ZT (Zj ZT (Za 1) (Za 2)) (Za 0))))) (st i (aA (.int ((i+1:Nat):Int))) d)=aA (.nx (st i (aA (.int ((i+1:Nat):Int))) (aA (.lst (iL (ZM m c)))))):=by rw[Sj,H];rfl
  have g:(ZM m c).set i (Zr W (i+1)).sum=ZM m (M i):=by
   refine Ic (by rw[bq,ZZ,ZZ]) λj e=>?_;rw[bq,ZZ] at e;rw[PW.nth_set (by rw[ZZ];exact e),Vw e,Vw e];show _=Zy W 0 i j;have o0:∀k,Y0 0 k=k+1:=λk=>by unfold Y0;rw[jv (by omega)]
   unfold Zy;rw[o0,o0];by_cases q:j=i
   ·rw[ju q,ju (by omega)]
   ·rw[jv q,jv (by omega)];show 0-ent W (i+1) (j+1)=_;omega
  have x:YF 3 (Zj Wx (Za 2) (eC (.int 1))) (Zc VJ [Zj ZT (Za 0) (Za 2)]) (st i (aA (.int ((i+1:Nat):Int))) (aA (.lst (iL (ZM m c)))))=aA (.nx (st i (aA (.int ((i+1:Nat):Int))) (aA (.lst (iL (ZM m (M i))))))):=by
   have J:Zj Wx (Za 2) (eC (.int 1)) (st i (aA (.int ((i+1:Nat):Int))) (aA (.lst (iL (ZM m c)))))=aA (.int (i:Int)):=by rw[vI (op:=(· - ·)) (a:=((i+1:Nat):Int)) (b:=1) rfl rfl];congr 2;show((i+1:Nat):Int)-1=_;omega
   have I:Zc VJ [Zj ZT (Za 0) (Za 2)] (st i (aA (.int ((i+1:Nat):Int))) (aA (.lst (iL (ZM m c)))))=aA (.int (Zr W (i+1)).sum):=by have n:Um (W.map pP) ((i+1:Nat):Int)=aA (pP (Zr W (i+1))):=Tw r;have o:Zj ZT (Za 0) (Za 2) (st i (aA (.int ((i+1:Nat):Int))) (aA (.lst (iL (ZM m c)))))=aA (pP (Zr W (i+1))):=n;rw[YG,ZK,o];show VJ [.tup (iL (Zr W (i+1)))]=_;rw[GO]
   rw[RU (m:=iL (ZM m c)) (j:=i) I J rfl (Z1 _) rfl (W4 (by rw[aS,ZZ];exact D))];rw[show(iL (ZM m c)).set i (.int (Zr W (i+1)).sum)=iL (ZM m (M i)) by rw[<-g];exact(jB ..).symm];rfl
  refine⟨st i (aA (.int ((i+1:Nat):Int))) d,st (i+1) (aA (.int ((i+1:Nat):Int))) (aA (.lst (iL (ZM m (M i))))),rfl,?_,_,_,rfl⟩;show Zq _ _ _=_;rw[Y9 w,Y9 x];rw[So (l:=pP (ZM m (M i))) (m:=(aJ i).map λi=>pP (ZM m (M i))) (by rw[Si];exact Dp) rfl (by simp;omega)];show aA (Out.nx [aA (wP W),aA (.lst (((aJ i).map λi=>pP (ZM m (M i)))++[pP (ZM m (M i))])),_,_])=aA (Out.nx [aA (wP W),aA (.lst ((aJ (i+1)).map λi=>pP (ZM m (M i)))),_,_]);rw[dW,cZ];rfl)
 subst G;rw[show(X9 1 m).length=m by simp[X9]] at f1;have y:Zx 1 (VH []) [aA (wP W),none,none,none]=aA (.nx (st 0 none none)):=rfl;have C:YB [1,3] (Yz [eC (.int 1),Zc Yo [Za 0]]) (.one 2) fb (st 0 none none)=aA (.nx (st m f d)):=by show(Yz [eC (.int 1),Zc Yo [Za 0]] (Yg [1,3] (st 0 none none))).bind _=_;rw[t _ rfl];exact f1
 show Xg 4 Xi _=_;unfold Xi;show(Zq _ _ [aA (wP W),none,none,none]).bind O1=_;rw[Y9 y,Y9 C]
 rw[Ii (v:=wP (Z7 m m M)) (by
  rw[Si];show(fH (ZH [.lst ((aJ m).map λi=>pP (ZM m (M i)))]) λl=>if ZJ l=aC then aA l else none)=_;rw[<-UW];exact Dx (s:=[]))]
 rfl
section
variable {W:List (List Int)} {m:Nat}
theorem Em{e:Type}{n:Nat}{ix:List Nat}{d:XL}{c:XE}{s:ZA}(ls:List e)(q:e->PV)(b:d s=aA (ls.map q))(k:ls.length<=100)(h:∀a∈ls,∃s1,Yu (.one 0) (q a) (ZU n ix s)=aA s1/\c s1=aA (.bl aC)):Zc Rg [Zt n ix d (.one 0) ZF c] s=aA (.bl aC):=by refine c1 (a:=.lst ((ls.map λ_=>aC).map PV.bl)) ?_ (by rw[Ke];simp);rw[Z2 ls q (λ_=>.bl aC) b (by omega) (λi g=>by obtain⟨s1,j,f⟩:=h i g;exact⟨s1,j,rfl,f⟩),cg];rfl
theorem Ov{B:Mt}(a:m<=50):Vo [wP (Z7 m m B),.int (m:Int)]=aA (.bl aC):=by refine YU (ret (ep (dU (ea (p:=aC) (p2:=aC) rfl (dU (ea (p:=aC) (p2:=aC) (dU (Hi (c1 rfl (by rw[Oe,Va])) rfl) (by rw[decide_eq_true rfl])) (Em (aJ m) (λi=>pP (ZM m (B i))) ((Sn rfl).trans (by rw[<-UW];rfl)) (by simp;omega) λi _=>⟨_,rfl,c2 rfl rfl (Oh (ZZ _ _) (by omega))⟩)) rfl)) rfl)))
theorem II{L B R F:Mt}{v:Nat->Int}(a:m<=50):Sz [.tup [wP (Z7 m m L),wP (Z7 m m B),wP (Z7 m m R),wP (Z7 m m F),pP (ZM m v)],.int (m:Int)]=aA (.bl aC):=by refine YU (sq (F9 (dU (xo (p:=aB) (p2:=aB) (xn (xb (p:=aC) rfl)) (dU (xo (p:=aB) (p2:=aB) (xb (dU (o2 (c1 rfl (Kf _)) rfl (Sk aC _ _)) (by simp))) (xn (xb (c2 (o2 rfl rfl rfl) rfl (Oh (ZZ _ _) (by omega)))))) rfl)) rfl)) (ret (ep (Em [L,B,R,F] (λX=>wP (Z7 m m X)) rfl (show 4<=100 by omega) λX _=>⟨_,rfl,c2 rfl rfl (Ov a)⟩))))
theorem U1{A B:Mt}(h:∀i j,i<m->j<m->A i j=B i j):Z7 m m A=Z7 m m B:=by unfold Z7;refine bN λi b=>?_;unfold ZM;exact bN λj a=>h i j (aX.mp b) (aX.mp a)
theorem IJ(m:Nat)(f:Nat->Int):ZM (m+1) f=ZM m f++[f m]:=by unfold ZM;rw[dW,cZ];rfl
theorem IK(i w:Nat)(A:Mt):Z7 (i+1) w A=Z7 i w A++[ZM w (A i)]:=by unfold Z7;rw[dW,cZ];rfl
theorem Nz{A B:Mt}(l:m<=50)(h:∀i k j,i<m->k<m->j<m->CMulW (A i k) (B k j)):YJ [wP (Z7 m m A),wP (Z7 m m B)]=aA (wP (Z7 m m (PM.mul m A B))):=by
 refine Md (ZX (Zz (vP (c1 rfl (by rw[Oe,Va])))) (ZX (Zz (v:=.lst (tL (Z7 0 m (PM.mul m A B)))) rfl) (Ua (Mf (n:=m) (λi s=>∃b c a,s=[aA (wP (Z7 m m A)),aA (wP (Z7 m m B)),aA (.int (m:Int)),aA (.lst (tL (Z7 i m (PM.mul m A B)))),b,c,a]) rfl ⟨none,none,none,rfl⟩ ?_) ?_)))
 ·rintro i s g ⟨b,c,a,rfl⟩;refine U6 (Zz (v:=.lst (iL (ZM 0 (PM.mul m A B i)))) rfl) (KN (Mf (n:=m) (λj s=>∃e,s=[aA (wP (Z7 m m A)),aA (wP (Z7 m m B)),aA (.int (m:Int)),aA (.lst (tL (Z7 i m (PM.mul m A B)))),aA (.int (i:Int)),aA (.lst (iL (ZM j (PM.mul m A B i)))),e]) rfl ⟨a,rfl⟩ ?_) ?_)
  ·rintro j s f ⟨e,rfl⟩;refine Me (Mg PV.int (L:=ZM j (PM.mul m A B i)) (y:=PM.mul m A B i j) (vP (c1 (Xe (λk=>A i k*B k j) (ZP rfl (by omega)) (by omega) λk d=>⟨_,rfl,rfl,vC (C:=CMulW) (op:=(· * ·)) (K6 g d rfl rfl rfl) (K6 d f rfl rfl rfl) (h i k j g d f)⟩) (by rw[Kd];congr 2;exact Xx _ _))) rfl (by rw[ZZ];omega)) ⟨_,by rw[<-IJ];rfl⟩
  ·rintro s ⟨e,rfl⟩;refine Me (Mg pP (L:=Z7 i m (PM.mul m A B)) (y:=ZM m (PM.mul m A B i)) (F8 (c1 rfl (YC _))) rfl (by rw[Va];omega)) ⟨_,_,_,by rw[<-IK];rfl⟩
 ·rintro s ⟨b,c,a,rfl⟩;exact XQ (U9 rfl) rfl
theorem Lh(e:m<=50):SA [.int (m:Int)]=aA (wP (Z7 m m PM.one)):=by
 refine YU (ret (U9 (Xz (w:=m) PM.one (q:=λi=>.int (i:Int)) (ZP rfl (by omega)) (by omega) λi d=>⟨_,rfl,c1 (Xe (PM.one i) (ZP rfl (by omega)) (by omega) λj c=>⟨_,rfl,rfl,c1 (Hi (a:=(i:Int)) (b:=(j:Int)) rfl rfl) ?_⟩) (YC _)⟩)));rw[N3];unfold PM.one;by_cases q:i=j
 ·rw[ju q,decide_eq_true (by omega)];rfl
 ·rw[jv q,decide_eq_false (by omega)];rfl
theorem Li{a E:Mt}(n:PM.Cr m m a E):∃d b:Mt,PM.EqM m (PM.mul m (Uh m E) d) PM.one/\PM.EqM m (PM.mul m d (Uh m E)) PM.one/\PM.EqM m (PM.mul m (U0 m E) b) PM.one/\PM.EqM m (PM.mul m b (U0 m E)) PM.one/\
  (∀i j,i<m->j<m->PM.mul m a (U0 m E) i j=d i j*E j j/\PM.mul m (Uh m E) a i j=E i i*b i j):=by
 obtain⟨d,b,s,r,q,u⟩:=n.adm.ex;have h:=n.adm.val;refine⟨d,b,s,r,q,u,λi j g f=>⟨?_,?_⟩⟩
 ·have e:PM.mul m a (U0 m E) i j=PM.mul m d E i j:=by rw[PM.mul_congr (A':=d) (B':=PM.mul m (Uh m E) (PM.mul m a (U0 m E))) (λ_ _=>rfl) (λl o=>(h l j o f).symm),<-PM.assoc,PM.mul_congr (A':=PM.one) (B':=PM.mul m a (U0 m E)) (λl o=>r i l g o) (λ_ _=>rfl),PM.one_mul g]
  rw[e];exact ZW f λk c p=>by rw[(n.d1 j k f c p).2,bR]
 ·have e:PM.mul m (Uh m E) a i j=PM.mul m E b i j:=by have t:PM.mul m E b i j=PM.mul m (PM.mul m (PM.mul m (Uh m E) a) (U0 m E)) b i j:=PM.mul_congr (λk c=>by rw[PM.assoc];exact(h i k g c).symm) λ_ _=>rfl;rw[t,PM.assoc,PM.mul_congr (A':=PM.mul m (Uh m E) a) (B':=PM.one) (λ_ _=>rfl) (λk c=>q k j c f),PM.mul_one f]
  rw[e];exact ZW g λk c p=>by rw[(n.d1 i k g c p).1,b5]
end
theorem law_true(U:List Int)(hns:U.length<=63)(hbd:∀n∈U,n.natAbs.log2<=1048576):D_law [.cst (iL U)]=aA (.bl aC):=by
 obtain⟨W,eW,ok,Z,h7,h8⟩:=Ny hns (mo:=7) (by omega) (by omega);have hp:=ok.pos;obtain⟨m,Y⟩:∃m,W.length=m+1:=⟨W.length-1,by omega⟩;obtain⟨E,g,eP,H,hγ,lb,rb,dg⟩:=K7 ok Z h7 h8 Y;have I:=Ho ok Z Y h8;obtain⟨u,t,b1,b2,b3,b4,ex⟩:=Li H;have X:∀i,i<m->E i i≠0:=λi c=>by have:=H.d2 i c;omega
 have eB:Dt W m E=Z7 m m u:=U1 λi j c d=>by show(PM.mul m (Zy W 0) (U0 m E) i j).fdiv (E j j)=u i j;rw[(ex i j c d).1];exact Int.mul_fdiv_cancel _ (X j d)
 have eO:Du W m E=Z7 m m t:=U1 λi j c d=>by show(PM.mul m (Uh m E) (Zy W 0) i j).fdiv (E i i)=t i j;rw[(ex i j c d).2];exact dH _ (X i c)
 rw[eB,eO] at eP
 -- how great they are
 have O:m*(55*2^g)<=2^(g+9):=by
  have h1:m*(55*2^g)<=6*(55*2^g):=dF _ (by omega);have h2:2^(g+9)=512*2^g:=by rw[eT,br]
  omega
 have up:2^g<=2^(g+9):=PM.pw2 (by omega);have sAR:∀i j,i<m->j<m->(PM.mul m (Zy W 0) (U0 m E) i j).natAbs<=2^(g+9):=λi j c d=>aQ (S3 λk D=>by rw[b7];exact cP (I i k c D) (rb k j D d)) O;have P:∀i j,i<m->j<m->(PM.mul m (Uh m E) (Zy W 0) i j).natAbs<=2^(g+9):=λi j c d=>aQ (S3 (M:=55*2^g) λk D=>by rw[b7,br];exact cP (I k j D d) (lb i k c D)) O;have Q:∀i j,i<m->j<m->(u i j).natAbs<=2^(g+9):=λi j c d=>by have:=sAR i j c d;rw[(ex i j c d).1,b7] at this;exact aQ (ar _ (by have:=X j d;omega)) this
 have J:∀i j,i<m->j<m->(t i j).natAbs<=2^(g+9):=λi j c d=>by have:=P i j c d;rw[(ex i j c d).2,b7] at this;exact aQ (dR _ (by have:=X i c;omega)) this
 have sL:∀i j,i<m->j<m->(Uh m E i j).natAbs<=2^(g+9):=λi j c d=>aQ (lb i j c d) up;have sR:∀i j,i<m->j<m->(U0 m E i j).natAbs<=2^(g+9):=λi j c d=>aQ (rb i j c d) up;have sA:∀i j,i<m->j<m->(Zy W 0 i j).natAbs<=2^(g+9):=λi j c d=>aQ (I i j c d) (aQ (show 55<=2^9 by decide) (PM.pw2 (by omega)));have cm:∀{x y:Int},x.natAbs<=2^(g+9)->y.natAbs<=2^(g+9)->CMulW x y:=λ{x y} h1 h2=>Lc (G:=g+10) (bA h1 (cH (by omega) (by omega))) (bA h2 (cH (by omega) (by omega))) (by omega) (by omega);have f:∀{A B C:Mt},(∀i j,i<m->j<m->(A i j).natAbs<=2^(g+9))->(∀i j,i<m->j<m->(B i j).natAbs<=2^(g+9))->PM.EqM m (PM.mul m A B) C->YJ [wP (Z7 m m A),wP (Z7 m m B)]=aA (wP (Z7 m m C)):=λ{A B C} hA hB e=>by rw[<-U1 e];exact Nz (by omega) λi k j c D d=>cm (hA i k c D) (hB k j D d)
 have T:=II (m:=m) (L:=Uh m E) (B:=u) (R:=U0 m E) (F:=t) (v:=λi=>E i i) (by omega);have S:=Lh (m:=m) (by omega);have sq:=Tq ok;rw[show W.length-1=m by omega] at sq;have t1:=f sL sA λ_ _ _ _=>rfl
 have t2:=f (C:=λi j=>if i=j then E i i else 0) P sR λi j c d=>by
  rw[PM.assoc,H.adm.val i j c d];show E i j=if i=j then E i i else 0
  by_cases q:i=j
  ·rw[ju q,q]
  ·rw[jv q];exact(H.d1 i j c d λz=>q z.symm).1
 let V:PV:=.tup [wP (Z7 m m (Uh m E)),wP (Z7 m m u),wP (Z7 m m (U0 m E)),wP (Z7 m m t),pP (ZM m λi=>E i i)];let st:Option PV->Option PV->Option PV->Option PV->ZA:=λx9 h o Ds=>[aA (.cst (iL U)),aA (wP W),aA (.int (m:Int)),aA V,aA (wP (Z7 m m (Uh m E))),aA (wP (Z7 m m u)),aA (wP (Z7 m m (U0 m E))),aA (wP (Z7 m m t)),aA (pP (ZM m λi=>E i i)),x9,h,o,Ds];have pV:ZJ V=aC:=by show ZJ (.tup [_,_,_,_,_])=aC;rw[YH];simp only[Zw,YH,XY,Z1,jd]
 have bnd:∀s:ZA,Za 3 s=aA V->L6 (.many [4,5,6,7,8]) (Za 3) s=(Yu (.many [4,5,6,7,8]) V s).map .nx:=λs q=>by show(Za 3 s).bind _=_;rw[q,a9,ju pV]
 refine Md (ZX (Zz (c2 rfl rfl eW)) (ZX (Zz (v:=.int (m:Int)) (vP ((DJ (c1 rfl Oe) rfl).trans (by congr 2;omega)))) (ZX (Zz (c1 rfl eP)) (ZX (F9 (xn (xb (c2 rfl rfl T)))) (ZX (s1:=st none none none none) ((bnd _ rfl).trans rfl) (Ua (Nm (ls:=[(Uh m E,u),(u,Uh m E),(U0 m E,t),(t,U0 m E)].map λp:Mt×Mt=>.tup [wP (Z7 m m p.1),wP (Z7 m m p.2)]) (λi s=>∃x9 h,s=st x9 h none none) rfl ⟨_,_,rfl⟩ ?_) ?_))))))
 ·rintro i l s hl ⟨x9,h,rfl⟩;rw[aR] at hl;obtain⟨p,hp1,rfl⟩:=Option.map_eq_some_iff.mp hl;have N:=dD hp1
  have e:YJ [wP (Z7 m m p.1),wP (Z7 m m p.2)]=aA (wP (Z7 m m PM.one)):=by
   simp only[aa,cG,or_false] at N;rcases N with r | r | r | r<;>subst r
   ·exact f sL Q b1
   ·exact f Q sL b2
   ·exact f sR J b3
   ·exact f J sR b4
  exact⟨_,rfl,Me (F9 (xb (o2 (c2 rfl rfl e) (c1 rfl S) (K8 aC _)))) ⟨_,_,rfl⟩⟩
 rintro s ⟨x9,h,rfl⟩;refine Ua (Mf (n:=m) (λi s=>∃o,s=st x9 h o none) rfl ⟨_,rfl⟩ ?_) ?_
 ·rintro i s c ⟨o,rfl⟩;have d1:=H.d2 i c;have e8:Zj ZT (Za 8) (Za 11) (st x9 h (aA (.int (i:Int))) none)=aA (.int (E i i)):=o2 rfl rfl (S2 c);refine Me (F9 (dU (xo (p:=aB) (p2:=aB) (xb (dU (o2 e8 rfl rfl) ?_)) ?_) rfl)) ⟨_,rfl⟩
  ·show aA (PV.bl (decide (E i i<1)))=_;rw[decide_eq_false (by omega)]
  ·rw[L9,xb (Dm (a:=i) (b:=0) rfl rfl)];by_cases q:i=0
   ·rw[decide_eq_false (by omega)];rfl
   ·rw[decide_eq_true (by omega)];have dv:E (i-1) (i-1)∣E i i:=H.d3 (i-1) i i (by omega) (by omega) (by omega) c c;have d0:=H.d2 (i-1) (by omega);have e9:Zj ZT (Za 8) (Zj Wx (Za 11) (eC (.int 1))) (st x9 h (aA (.int (i:Int))) none)=aA (.int (E (i-1) (i-1))):=o2 (b:=.int ((i-1:Nat):Int)) rfl ((DJ rfl rfl).trans (by congr 2;omega)) (S2 (by omega));show xB _ _=_;exact xb (dU (o2 (DZ e8 e9) rfl (Sk aC _ 0)) (by rw[Int.emod_eq_zero_of_dvd dv];rfl))
 rintro s ⟨o,rfl⟩;have pure:∀A:Mt,ZJ (wP (Z7 m m A))=aC:=λA=>by rw[YH];exact XY _
 refine ZX (Zz (U9 (Xz (w:=m) (λi j=>if i=j then E i i else 0) (q:=λi=>.int (i:Int)) (ZP rfl (by omega)) (by omega) λi c=>⟨_,rfl,c1 (Xe (λj=>if i=j then E i i else 0) (ZP rfl (by omega)) (by omega) λj d=>⟨_,rfl,rfl,?_⟩) (YC _)⟩))) (XQ (ep (v:=.bl aC) (dU (ea (p:=aC) (p2:=aC) (o2 (c2 (c2 rfl (c1 rfl sq) t1) rfl t2) rfl (K8 aB _)) (o2 (c1 rfl eP) rfl (Ou aB ?_))) rfl)) rfl)
 ·have e1:Zc T8 [Zj (WX aB) (Za 2) (Za 0)] [aA (.int (j:Int)),aA (pP (ZM m λi=>E i i)),aA (.int (i:Int))]=aA (.int (if i=j then 1 else 0)):=c1 (Hi (a:=(i:Int)) (b:=(j:Int)) rfl rfl) (by
   rw[N3];by_cases q:i=j
   ·rw[ju q,decide_eq_true (by omega)];rfl
   ·rw[jv q,decide_eq_false (by omega)];rfl)
  refine dU (vC (C:=CMulW) (op:=(· * ·)) (o2 rfl rfl (S2 c)) e1 ?_) ?_
  ·have h1:=dZ (by have:=(K3 ok Z h7 Y).nz;omega) (ba.mpr (dg i c));have h2:=DM ok Z Y h7 h8;refine Lc (G:=21) (by omega) ?_ (by omega) (by omega);split<;>decide
  ·congr 2;by_cases q:i=j
   ·rw[ju q,ju q];exact eN _
   ·rw[jv q,jv q];exact bR _
 ·show(X8 7 (wP (Z7 m m (Uh m E))) (wP (Z7 m m (Uh m E)))&&(X8 7 (wP (Z7 m m u)) (wP (Z7 m m u))&&(X8 7 (wP (Z7 m m (U0 m E))) (wP (Z7 m m (U0 m E)))&&(X8 7 (wP (Z7 m m t)) (wP (Z7 m m t))&&(X8 7 (pP (ZM m λi=>E i i)) (pP (ZM m λi=>E i i))&&aC)))))=aC;rw[V0,V0,V0,V0,N5];rfl
end PW
namespace PW
open PySem L2 VL
theorem all_mk{P:bH}{w:bu}{K:aD}{mg:ah->Option aF}{fa:aG}(hfa:mg "law" = aA (.ref fa))(B:Vk mg)(T:P.given.tree=none)
  (d0:Def K mg "_law_cell" SI)
  (d1:Def K mg "_law_part" SJ)
  (d2:Def K mg "_law_tie" QO)
  (d3:Def K mg "_law_web" QP)
  (d4:Def K mg "ties_at" UL)
  (d5:Def K mg "row_of" SK)
  (d6:Def K mg "square_without" YM)
  (d7:Def K mg "square_of" WI)
  (d8:Def K mg "unit_row" Vt)
  (d9:Def K mg "block_of" Vu)
  (d10:Def K mg "rows_to_clear" Y5)
  (d11:Def K mg "less" Nc)
  (d12:Def K mg "cleared_below" Y6)
  (d13:Def K mg "turned_over" XM)
  (d14:Def K mg "crossed_out" XN)
  (d15:Def K mg "unfit_row" WK)
  (d16:Def K mg "part_found" Wh)
  (d17:Def K mg "divided" UP)
  (d18:Def K mg "row_by_column" Y7)
  (d19:Def K mg "row_times" WL)
  (d20:Def K mg "multiplied" Wi)
  (d21:Def K mg "parts" QV)
  (d22:Def K mg "_law_whole" US)
  (d23:Def K mg "_law_row" QW)
  (d24:Def K mg "_law_square" Vv)
  (d25:Def K mg "_law_told" SQ)
  (d26:Def K mg "_law_times" UT)
  (d27:Def K mg "_law_unit" SR)
  (d28:Def K mg "_law_web_square" Xl)
  (d29:Def K mg "law" Kz)
  : ∃fd:dJ,(∀(s:aL)(u:aF),ir s fd ⟨[u],[]⟩ [("_law_script",u)])/\∀base:bP,K.In base->base.Ns cE mg->Ta P w K mg base OJ 40 fa fd ["_law_script"] (Xq K D_law 1):=by
 refine L8 d29 hfa (λ_ _ _ _ _ _ _=>rfl) λbase f fd _ _ F=>?_;have C_m_cell:SD P w K mg base:=MZ d0 B;have C_l_part:SE P w K mg base:=M0 d1 B;have C_l_tie:=Ku (P:=P) (w:=w) (base:=base) d2 B;have C_l_web:QL P w K mg base:=Kv d3 B C_m_cell C_l_part C_l_tie;have C_ties_at:UH P w K mg base:=Nb d4 B;have C_row_of:SF P w K mg base:=M3 d5 B C_ties_at;have C_square_without:YL P w K mg base:=V7 d6 B C_row_of;have C_square_of:WE P w K mg base:=QR d7 B C_square_without;have C_unit_row:Vq P w K mg base:=P5 d8 B;have C_block_of:Vr P w K mg base:=P6 d9 B C_unit_row;have C_rows_to_clear:Y2 P w K mg base:=UN d10 B;have C_less:QM P w K mg base:=Ib d11 B;have C_cleared_below:Y3 P w K mg base:=UO d12 B T C_rows_to_clear C_less;have C_turned_over:XI P w K mg base:=SN d13 B;have C_crossed_out:XJ P w K mg base:=SO d14 B C_cleared_below C_turned_over;have C_unfit_row:WG P w K mg base:=QS d15 B;have C_part_found:Wf P w K mg base:=Ro d16 B C_crossed_out C_unfit_row C_less;have C_divided:UI P w K mg base:=Nf d17 B;have C_row_by_column:Y4 P w K mg base:=UR d18 B;have C_row_times:WH P w K mg base:=QU d19 B C_row_by_column;have C_multiplied:Wg P w K mg base:=Rr d20 B C_row_times;have C_parts:QN P w K mg base:=Kw d21 B C_square_of C_block_of C_part_found C_divided C_multiplied;have C_l_whole:UJ P w K mg base:=Nh d22 B;have C_l_row:TJ P w K mg base:=Ky d23 B C_l_whole;have C_q_square:Vs P w K mg base:=P8 d24 B C_l_row;have C_q_told:SG P w K mg base:=M5 d25 B C_l_row C_q_square;have C_q_times:UK P w K mg base:=Ni d26 B;have C_l_unit:SH P w K mg base:=M7 d27 B;have C_l_web_square:Xk P w K mg base:=Tp d28 B;exact GX F B C_l_web C_parts C_q_told C_q_times C_l_unit C_l_web_square
end PW
namespace PySem.W.Fast
def tw4101120891683123766:=()
def tw15185042471309042404:=()
def tw7044303101521576475:=()
def tw9339175457343412067:=()
def tw6529469126746526519:=()
def tw12867578160426046220:=()
def tw8101702381752841335:=()
def tw16810451650146103996:=()
def tw15941562098044524953:=()
def tw17007288478523300652:=()
def tw17950255653521872828:=()
def tw7769466269468410787:=()
def tw7223221113526017176:=()
def tw7481807966122059758:=()
def tw12534323518117953511:=()
def tw16204091162451612351:=()
def tw9041191158759046801:=()
def tw4100231154101798835:=()
def tw8910106369623220309:=()
def tw18217325644296934059:=()
def tw2206278641625239277:=()
def tw15349194348321199812:=()
def tw3883157681541525417:=()
def tw3343007957714915459:=()
def tw5260883651639291666:=()
def tw7410792281287612742:=()
def tw16833302332585432074:=()
def tw6571110853504784773:=()
def tw4721224422712555155:=()
def tw3998933165349885844:=()
def tw12106285858988572466:=()
def tw7095493225737089945:=()
def tw3819867043146044005:=()
def tw5512110529292817536:=()
def tw3716550889412341477:=()
def tw4921287686361891608:=()
def tw7763069144797758223:=()
def tw12895733818070596570:=()
def tw16448891250992712130:=()
def tw2464500297196774008:=()
def tw11294742534489564267:=()
def tw15497922245022192745:=()
def tw10859251425405737597:=()
def tw1486237445705712897:=()
def tw3337576932499745261:=()
def tw11839342408929913038:=()
def tw8009458158337571404:=()
def tw1535661161144432179:=()
def tw11167826341121548483:=()
def tw8042199458294720243:=()
def tw13780580159662855259:=()
def tw12193555858244554221:=()
def tw4759664843948150787:=()
def tw8932957490803862477:=()
def tw1663608899815947051:=()
def tw9946476187930330758:=()
def tw5424502614392361177:=()
def tw14941828139300273414:=()
def tw18410966678183746100:=()
def tw12437027559239048170:=()
def tw13606304277478109456:=()
def tw11953804514270699965:=()
def tw2858754762657266217:=()
def tw8237273569565735473:=()
def tw18322224833963022516:=()
def tw1227430464635873352:=()
def tw12001471575461717850:=()
def tw8200806431700069327:=()
def tw14539811658214152391:=()
end PySem.W.Fast
open PySem PySem.W PyProof.Rows
set_option maxRecDepth 100000 in
set_option maxHeartbeats 0 in
theorem PySem.Challenge.cw_purseweb_k62_parts_of_a_web_holds : PySem.Challenge.rw_purseweb_k62_parts_of_a_web.Holds := by
 w_on;o_law;k_head;(case hw=>w_witness2)
 k_fill
 refine VL.law_walkB (l:=gV) (D:=PW.D_law) (x:="_law_script") 40 rfl rfl ⟨rfl,by decide,by decide,rfl⟩ (λw=>VL.noLam (by kernel_rfl)) PW.law_true (λw h Y=>PySem.W.kIn_of Y) ?F
 case F=>
  intro w mg fa h KX G hmg
  refine' PW.all_mk hmg ?B rfl ?d0 ?d1 ?d2 ?d3 ?d4 ?d5 ?d6 ?d7 ?d8 ?d9 ?d10 ?d11 ?d12 ?d13 ?d14 ?d15 ?d16 ?d17 ?d18 ?d19 ?d20 ?d21 ?d22 ?d23 ?d24 ?d25 ?d26 ?d27 ?d28 ?d29
  case B=>constructor<;>(refine PySem.W.mg_none_of KX G ?_;k_is)
  case d0 | d1 | d2 | d3 | d4 | d5 | d6 | d7 | d8 | d9 | d10 | d11 | d12 | d13 | d14 | d15 | d16 | d17 | d18 | d19 | d20 | d21 | d22 | d23 | d24 | d25 | d26 | d27 | d28 | d29=>(refine' L2.def_mk KX G ?a ?l ?c ?k;(case a=>k_is);(case l=>k_is);(case c=>k_is);(case k=>k_is))
