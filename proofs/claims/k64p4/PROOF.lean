import PyProof.Rows.All
import Wide.All
import OpenK.AllK
import Wide.FinOn
import Lean
import PyProof.EqAt
import PyProof.EqKinds
import PyProof.TupleCall
import PyProof.NeKinds
import PyProof.ListMulRoad
import PyProof.WalkInts
import PyProof.ListRange
import KE.KRevIter
import KE.KSortTup
import KE.KDictSum
import PyProof.Rows.SortWalk
import PyProof.ExcInit
import PyProof.InstStoreFacts
import OpenK.KMake
import OpenK.KCls
import PyProof.FString2
import PyProof.TupleOfSeq
import KE.KUnpack
import PySem.Challenge.RW_purseweb_k64_places
open Option renaming some → aA,bind_some → a0,isSome_iff_exists → bY,map_some → dU,getD_none → jL,bind → jW,none → jm,some → ax
open Bool renaming false → aB,true → aC,false_ne_true → bK,and_eq_true → bV,eq_iff_iff → gp
open PySem.W renaming Frag → aD,kia_one → bp,codeIn → cH,kitOne → cL,fnOf → cM,keepIn → eO,cellsFrom_some → g6,nsIn → gg,instObj → gj,lookIn → gz,kitx_list → il,kitx_dict → ip,plainGet → jJ,findIn → j6
open PySem.Heap renaming get?_push_of_some → aE,lt_size → aP,get?_push_size → aX,size_push → bg,SameBut → cB,get?_update_other → g8,get?_update_self → gv,ExtBut → jR
open PySem renaming Value → aF,Addr → aG,wpAny_bind → aI,Shared → aL,starEach → aS,wpAny_pure → ag,Str → ah,Expr → ao,wpAny → ay,Program → bI,foldedSetIterable → bQ,Heap → bR,Stmt → ba,Around → bc,World → br,wpAny_field → bu,mainGlobals → cD,wpAny_mono → cJ,wpAny_truthy_bool → cK,mem_of_lookup → cP,bootBuiltins → cW,binaryOp → cX,wpAny_callSpecial?_slot → c9,wpAny_newObj_type → cb,Obj → cj,behindInMarks → cq,Scope → cx,NameKind → cy,wpAny_seqItems → cz,wpAny_setField_rec → dA,wpAny_passesOwn → dE,FuncData → dN,backTo → dZ,IsPair → df,Pos → dj,wpAny_call_entry → dm,wpAny_comprehension_free → eA,wpAny_ite_false → eG,compareOp → eI,sliceBounds → eK,call_meets → fC,wpAny_updateSeq_pair → fG,wpAny_execs_nil → fL,wpAny_loadPart' → fM,swapsWith → fT,cellsFrom → fU,assignEach → fW,wpAny_Call_Name_kw → fY,newFunctionEnv → fZ,wpAny_binaryOp_repeat_ref → gC,wpAny_holding → gJ,wpAny_onRaise → gL,bindArgs → gQ,noFill_tuple_add → gR,codeAny → gZ,typeIs_int → g9,letOwnedTupleGo → gk,IsZip → gn,wpAny_isTrue_Compare1 → gu,rawInt → gx,sizeLine_eq → gy,recursionLimit → hU,compEnvC → hW,PassesOwn → iK,notedBy → iM,Builtin → iN,wpAny_standAt → iR,cLine → iS,seq_tuple_add → iT,builtinsNs → iV,wpAny_pyIter_tuple → iW,IsPart → iY,BindsTo → ir,codeAny_mono → iu,concat_meets → iz,seqIndex_neg → jA,callerA → jB,Env → jH,pushCells → jO,seqIndex_of → jQ,wpAny_letGo → jS,getItem → j1,isTrue → j3,wpAny_Name → j4,CmpOp → j5,bindL → j7,bindC → j8,wpAny_rule → j9,Within → jh,pyNext → jj,Result → jl
open Nat renaming le_refl → aH,le_trans → aV,lt_of_lt_of_le → aZ,ne_of_lt → av,le_mul_of_pos_right → az,lt_of_le_of_lt → bA,mul_le_mul_left → bH,one_le_two_pow → b9,lt_irrefl → bh,zero_le → bz,pow_lt_pow_right → cE,le_of_lt → cI,mul_comm → cN,mul_le_mul → dB,lt_of_le_of_ne → dC,min_eq_left → dF,pow_succ → dJ,le_add_right → dO,mul_assoc → dW,mul_left_comm → dY,mul_le_mul_right → dh,one_le_pow → di,ne_of_gt → dk,le_of_dvd → eD,le_succ_of_le → eZ,le_mul_of_pos_left → el,pow_add → fJ,pow_le_pow_left → fP,not_lt → f9,lt_succ_self → gS,min_eq_right → gU,sub_zero → gh,le_succ → iA,add_mul → iE,one_mul → iG,pow_le_pow_right → iH,add_le_add_right → iI,add_left_cancel → iQ,add_sub_cancel → ic,mod_lt → ij,mod_eq_of_lt → jP,log2_lt → jV,div_add_mod → jY
open List renaming range → aJ,getD_eq_getElem?_getD → aM,getElem?_eq_getElem → aN,size_toArray → aO,length_map → aQ,getElem?_map → aR,replicate → aT,mem_cons_of_mem → aU,getElem?_eq_some_iff → aW,mem_range → aY,mem_cons_self → a9,mem_append_right → aa,mem_cons → af,all_eq_true → aj,mem_singleton → aq,getElem?_set → au,getElem?_append_left → aw,getElem?_range → bB,lookup_cons → bG,getElem?_eq_none → bJ,nodup_cons → bM,map_congr_left → bN,mem_append_left → bO,getElem?_append_right → bS,length_cons → bW,take_of_length_le → bX,length_append → bZ,getElem?_replicate → b6,length_range → b7,mem_append → bj,mem_map → bq,ext_getElem? → cO,length_set → cQ,length_replicate → cS,not_mem_nil → cU,nodup_nil → cY,append_nil → cg,replicate_succ → ck,map_map → cp,length_drop → cv,getElem_mem → cw,getElem?_drop → dR,flatten_cons → dX,mem_of_getElem? → dc,any_eq_true → dq,map_append → eH,length_eq_zero_iff → eM,any_eq_false → eN,append_assoc → eT,drop_eq_nil_of_le → eY,length_take → fB,filter_cons → fD,length → fF,mem_iff_getElem → fH,mem_filter → fK,filterMap_cons → fO,drop_zero → fj,getElem?_zip_eq_some → gE,set_eq_of_length_le → gM,map_cons → gO,getElem?_set_self → gY,of_mem_zip → gm,range_succ → gq,getElem?_set_ne → gw,take_zero → iB,mem_of_mem_take → iC,all_cons → iU,mem_filterMap → iX,foldl → i5,nodup_append → jC,map → jD,getElem_inj → jI,take_length → jN,sum_append → jX,range_add → jc,take_nil → jd,drop_nil → je,map_take → jf,map_drop → jg
open Option.some renaming inj → ak
open Ne renaming symm → ar
open PySem.NameKind renaming free → bC,cell → b0
open Int renaming mul_comm → bF,neg_mul → bT,mul_assoc → bU,mul_zero → b5,zero_mul → bb,natAbs_dvd_natAbs → cA,dvd_zero → cC,emod_lt_of_pos → cV,natAbs_mul → cZ,one_mul → cu,emod_nonneg → dG,mul_left_comm → dI,mul_nonneg → dP,le_of_mul_le_mul_left → dt,mul_fdiv_cancel_left → eB,toNat_natCast → eV,natAbs_neg → eh,dvd_refl → eu,mul_one → fE,le_refl → fI,add_zero → fQ,le_of_lt → fR,zero_dvd → fS,fdiv_eq_ediv_of_nonneg → fX,lt_or_gt_of_ne → fu,mul_neg_of_neg_of_pos → gF,mul_neg → gG,natAbs_sub_le → gH,dvd_mul_of_dvd_right → gP,eq_ofNat_of_zero_le → gW,fmod_nonneg_of_pos → gi,not_lt → i9,natCast_nonneg → ie,fmod_lt_of_pos → ig,sub_zero → jE,mul_add → jT,add_mul → jU,fdiv → jb
open Classical renaming byContradiction → bt
open PyProof.Rows renaming callWith_type1 → cG,slot_tuple_getitem → dM,envOfC → fA,AllBare → gX,subscriptTail_builtinR → g7,floordiv_int → ik
open True renaming intro → cT
open PySem.Builtin.Slice renaming slicePlaces → dD,sliceAdjust → gA
open Eq renaming trans → dH
open False renaming elim → dQ
open ForInStep renaming yield → dS
open Array renaming length_toList → du,toList_append → iO,toList → ji
open PySem.Builtin.Int renaming intBits → dw
open PySem.F renaming args_tuple_add_2 → dy,entry_tuple_add → eJ,slot_tuple_add → eQ
open PySem.Builtin.List renaming listTooLong → dz
open PySem.PassesOwn renaming never → fN
open PySem.Calls renaming Name_function_global → fV
open PySem.Builtin.SmallTypes renaming nextOf → gD
open PySem.W.WData renaming weightAll → gV,int → jM
open PySem.SeqAt.EqAt renaming same → gs,of_refs → i8
open Or renaming inr → hV,inl → i6
open PySem.Challenge renaming pw_purseweb_k64_places → iD,rw_purseweb_k64_places → iJ
open PySem.Heap.SameBut renaming update → iP
open PySem.Obj renaming mapSeq → iZ,data_mapFields → i7
open PySem.Value renaming int → jF,ref → jG,type → j2
open PyProof.Rows.IsTup renaming new → jK
open Sum renaming inl → jZ,inr → j0
open PySem.SeqAt renaming EqAt → ja
open PySem.Shared renaming heap → jn
open PySem.PylongRoom renaming of → jo
theorem jw.{u}{c:Prop}{h:Decidable c}(a:c){b:Sort u}{t e:b}:ite c t e=t:=if_pos a
theorem jx.{u}{c:Prop}{h:Decidable c}(a:Not c){b:Sort u}{t e:b}:ite c t e=e:=if_neg a
noncomputable section
set_option Elab.async false
set_option linter.all false
set_option maxRecDepth 100000
namespace L2
open PySem PySem.Spec PyProof.Rows
abbrev S3:=Sum Int ah
noncomputable def He:S3->aF->Bool
 | .inl k,v=>aF.isInt k v
 | .inr x,v=>aF.isStrOf x v
noncomputable def E8(w:br):S3->Int
 | .inl k=>hashInt k
 | .inr x=>hashStr w x
theorem Z1:∀{k:S3}{v:aF},He k v=aC->(∃i t,k=jZ i/\v=jF i t)\/(∃x t,k=j0 x/\v=aF.str x t)
 | .inl i,v,h=>by obtain⟨t,e⟩:=aF.isInt_shape h;exact .inl ⟨i,t,rfl,e⟩
 | .inr x,v,h=>by obtain⟨t,e⟩:=aF.isStrOf_shape h;exact .inr ⟨x,t,rfl,e⟩
theorem HI(a b:Int):decide ((jZ a:S3)=jZ b)=(a==b):=by grind
theorem HJ(a b:ah):decide ((j0 a:S3)=j0 b)=decide (a=b):=by simp
theorem HK(a:Int)(b:ah):decide ((jZ a:S3)=j0 b)=aB:=decide_eq_false (λq=>nomatch q)
theorem HL(a:ah)(b:Int):decide ((j0 a:S3)=jZ b)=aB:=decide_eq_false (λq=>nomatch q)
noncomputable def NH(prog:bI)(w:br):PySem.KeyKind prog w S3 where
 is:=He
 hash:=E8 w
 inj:=λv a b ha hb=>by
  rcases Z1 ha with⟨i,t,rfl,rfl⟩ | ⟨x,t,rfl,rfl⟩
  ·rcases Z1 hb with⟨j,u,rfl,e⟩ | ⟨y,u,rfl,e⟩
   ·injection e with e1 _;rw[e1]
   ·exact nomatch e
  ·rcases Z1 hb with⟨j,u,rfl,e⟩ | ⟨y,u,rfl,e⟩
   ·exact nomatch e
   ·injection e with e1 _;rw[e1]
 byValue:=λk v h=>by rcases Z1 h with⟨i,t,rfl,rfl⟩ | ⟨x,t,rfl,rfl⟩<;>rfl
 pyHash:=λhv h=>by
  rcases Z1 hv with⟨i,t,rfl,rfl⟩ | ⟨x,t,rfl,rfl⟩
  ·exact wpAny_pyHash_int h
  ·exact wpAny_pyHash_str h
 eqBool:=λhu hv h=>by
  rcases Z1 hu with⟨i,t,rfl,rfl⟩ | ⟨x,t,rfl,rfl⟩
  ·rcases Z1 hv with⟨j,u,rfl,rfl⟩ | ⟨y,u,rfl,rfl⟩
   ·rw[HI] at h;exact wpAny_eqBool_int h
   ·rw[HK] at h;exact ja.int_str i t y u _ _ _ _ h
  ·rcases Z1 hv with⟨j,u,rfl,rfl⟩ | ⟨y,u,rfl,rfl⟩
   ·rw[HL] at h;exact ja.str_int x t j u _ _ _ _ h
   ·rw[HJ] at h;exact wpAny_eqBool_str h
 «strs»:=λk x t v h=>by
  rcases Z1 h with⟨i,u,rfl,e⟩ | ⟨y,u,rfl,e⟩
  ·exact nomatch e
  ·injection e with e1 _;subst e1;cases v<;>rfl
inductive V where
 | non | bl (b:Bool) | int (i:Int) | str (x:ah) | byt (b:Array UInt8) | flt (b:UInt64) | ref (a:aG) | ty (n:String)
 deriving DecidableEq
noncomputable def RelV:V->aF->Prop
 | .non,u=>u=aF.none
 | .bl b,u=>u=aF.bool b
 | .int i,u=>∃t,u=jF i t
 | .str x,u=>∃t,u=aF.str x t
 | .byt b,u=>∃t,u=aF.bytes b t
 | .flt b,u=>∃t,u=aF.float b t
 | .ref a,u=>u=jG a
 | .ty n,u=>u=j2 n
abbrev Vals:List V->List aF->Prop:=Paired RelV
theorem Vals.length{a:List V}{b:List aF}(r:Vals a b):a.length=b.length:=Paired.length r
theorem Vals.get:∀{xs:List V}{us:List aF}{i:Nat}{x:V},Vals xs us->xs[i]?=aA x->∃u,us[i]?=aA u/\RelV x u
 | _,_,_,_,.nil,e=>by simp at e
 | _,_,0,_,.cons r _,e=>by simp at e;subst e;exact⟨_,rfl,r⟩
 | _,_,i+1,x,.cons _ t,e=>by obtain⟨u,b,a⟩:=Vals.get (i:=i) (x:=x) t (by simpa using e);exact⟨u,by simpa using b,a⟩
theorem Vals.set{x:V}{u:aF}(r:RelV x u):∀{xs:List V}{us:List aF}(i:Nat),Vals xs us->Vals (xs.set i x) (us.set i u)
 | _,_,_,.nil=>.nil
 | _,_,0,.cons _ t=>.cons r t
 | _,_,i+1,.cons q t=>.cons q (Vals.set r i t)
theorem Vals.append:∀{xs ys:List V}{us ws:List aF},Vals xs us->Vals ys ws->Vals (xs++ys) (us++ws)
 | _,_,_,_,.nil,s=>s
 | _,_,_,_,.cons r t,s=>.cons r (Vals.append t s)
theorem Vals.take:∀{xs:List V}{us:List aF}(n:Nat),Vals xs us->Vals (xs.take n) (us.take n)
 | _,_,0,_=>.nil
 | _,_,_+1,.nil=>.nil
 | _,_,n+1,.cons r t=>.cons r (Vals.take n t)
theorem Vals.drop:∀{xs:List V}{us:List aF}(n:Nat),Vals xs us->Vals (xs.drop n) (us.drop n)
 | _,_,0,r=>r
 | _,_,_+1,.nil=>.nil
 | _,_,n+1,.cons _ t=>Vals.drop n t
noncomputable def HM:Option V->Option aF->Prop
 | some v,aA u=>RelV v u
 | none,none=>True
 | _,_=>False
noncomputable def KV{κ:Type}:List (κ×V)->List (κ×aF)->Prop:=Paired λ(p:κ×V) (q:κ×aF)=>p.1=q.1/\RelV p.2 q.2
noncomputable def kV:S3->V
 | .inl i=>.int i
 | .inr x=>.str x
inductive HO where
 /-- a list -/
 | lst (xs:List V)
 /-- a tuple (never changes) -/
 | tup (xs:List V)
 /-- a dict whose keys are ints and texts;one whose keys are tuples of ints and texts (the empty one is both) -/
 | dK (jr:List (S3×V)) | dT (jr:List (List S3×V))
 /-- a set of ints: jv members,jv size -/
 | set (S:Int->Bool) (n:Nat)
 /-- an instance of the class at C,jv dict at dx,jv attributes -/
 | ins (C dx:aG) (fs:List (ah×V))
 /-- the dict of the instance at x -/
 | own (x:aG)
 /-- the dict of an exception -/
 | xd (fs:List (ah×V))
 /-- a bound method,f of x -/
 | met (f x:aG)
 /-- a range object lo,lo+1,.. below hi -/
 | rng (lo hi:Int)
 /-- a thing that is known to the object (the script;a dict while a loop walks it): read,never written while it is so -/
 | frz (o:cj) (u:HO)
 /-- a code object's table -/
 | tbl (ps:Array aF)
 /-- any other thing,by what is aC of jv one object (a def of one's own: SetO a S n:=HO.ext λh=>..) -/
 | ext (φ:bR->Prop)
abbrev Hp:=aG->Option HO
noncomputable def upd(H:Hp)(a:aG)(o:HO):Hp:=λb=>if b=a then aA o else H b
theorem Zn{H:Hp}{a:aG}{o:HO}:upd H a o a=aA o:=by unfold upd;rw[jw rfl]
theorem upd_ne{H:Hp}{a b:aG}{o:HO}(h:b≠a):upd H a o b=H b:=by unfold upd;rw[jx h]
theorem Zm{H:Hp}{a b:aG}{o:HO}(h:H a=aA o)(c:H b=none):a≠b:=by grind
noncomputable def Mq(x:ah):Bool:=x=="tree_of" || x=="still_by" || x=="made_of"
noncomputable def E9(x:ah):ah:=x++".<locals>."++"<lambda>"
noncomputable def Lr(o:cj)(q:ah):Prop:=∃vs t,o.data = .fields vs/\vs[1]?=aA (.str q t)
noncomputable def FJ(q:ah)(H:Hp)(ps:List aF):Prop:=TriplesOk ps/\∀pos v,codeAmong pos ps=aA v->∃c o,v = .ref c/\H c=aA (.frz o (.own 0))/\Lr o q
theorem TC{h:bR}{T:aF}{a:Array aF}{n:Nat}{o:cj}(e:(h.push { cls:=T,data:=.seq a n }).get? h.objs.size=aA o):o.dict=none:=by rw[aX _ rfl] at e;cases e;rfl
section
variable (P:bI) (w:br)
noncomputable def ObjOk(H:Hp)(h:bR)(a:aG):HO->Prop
 | .lst xs=>xs.length<=sizeLine/\∃(jv:List aF) (n:Nat),Vals xs jv/\h.get? a=aA { cls:=.type "list",data:=.seq jv.toArray n }
 | .tup xs=>(xs.length<=sizeLine/\∀o,h.get? a=aA o->o.dict=none)/\∃jv:List aF,Vals xs jv/\IsTup h a jv.toArray
 | .dK jr=>jr.length<=sizeLine/\(a==sysModules)=aB/\∃vs,KV jr vs/\h.DictOf (NH P w) a vs
 | .dT jr=>jr.length<=sizeLine/\(a==sysModules)=aB/\∃xs:List (List S3×aG×aF),
   Paired (λ(p:List S3×V) (q:List S3×aG×aF)=>p.1=q.1/\H q.2.1=aA (.tup (p.1.map kV))/\RelV p.2 q.2.2) jr xs/\
   ∃o es ep,h.get? a=aA o/\o.ExactDict/\o.data = .dict es ep/\es.toList=xs.map (entryOfKey (tupleKind (NH P w)))/\(xs.map (·.1)).Nodup
 | .set S n=>h.SetOf (intKind P w) a S n
 | .ins C dx fs=>H dx=aA (.own a)/\fs.length<=1000/\dx≠a/\h.get? a=aA (gj C dx)/\
   ∃mA,h.Ns1 dx mA/\(∀f,HM (fs.lookup f) (mA f))/\jh mA (fs.map (·.1))
 | .own _=>∃o,h.get? a=aA o
 | .xd fs=>∃mA,h.Ns1 a mA/\∀f,HM (fs.lookup f) (mA f)
 | .rng lo hi=>∃t u v,h.get? a=aA { cls:=.type "range",data:=.fields #[.int lo t,.int hi u,.int 1 v] }
 | .frz o u=>h.get? a=aA o/\ObjOk H h a u
 | .tbl ps=>∃(q:ah) (t:Tok) (ps':Array aF),ps[0]?=aA (.str q t)/\h.get? a=aA { cls:=.none,data:=.fields ps' }/\FJ q H ps'.toList
 | .met f x=>h.get? a=aA (PySem.W.methodObj (.ref f) (.ref x))
 | .ext φ=>φ h/\(∃o,h.get? a=aA o)/\∀h1 h2:bR,φ h1->(∀o,h1.get? a=aA o->h2.get? a=aA o)->φ h2
noncomputable def HOk(H:Hp)(h:bR):Prop:=∀a o,H a=aA o->ObjOk P w H h a o
end
section
variable {P:bI} {w:br} {H H':Hp} {h h':bR} {a:aG} {o:HO}
theorem ObjOk.lt(x:ObjOk P w H h a o):a<h.objs.size:=by
 cases o with
 | lst xs=>obtain⟨_,_,_,_,e⟩:=x;exact aP e
 | tup xs=>obtain⟨_,_,_,p⟩:=x;exact p.lt
 | dK jr=>obtain⟨_,_,_,_,o,_,_,e,_⟩:=x;exact aP e
 | dT jr=>obtain⟨_,_,_,_,o,_,_,e,_⟩:=x;exact aP e
 | set S n=>obtain⟨o,_,_,_,e,_⟩:=x;exact aP e
 | ins C dx fs=>obtain⟨_,_,_,e,_⟩:=x;exact aP e
 | own y=>obtain⟨_,e⟩:=x;exact aP e
 | xd fs=>obtain⟨_,⟨_,_,_,e,_⟩,_⟩:=x;exact aP e
 | rng lo hi=>obtain⟨_,_,_,e⟩:=x;exact aP e
 | frz ob u=>obtain⟨e,_⟩:=x;exact aP e
 | tbl ps=>obtain⟨_,_,_,_,e,_⟩:=x;exact aP e
 | met f y=>exact aP (show h.get? a=aA _ from x)
 | ext φ=>obtain⟨_,⟨_,e⟩,_⟩:=x;exact aP e
theorem Paired.mapP{c d:Type}{F G:c->d->Prop}:∀{l₁:List c}{l₂:List d},Paired F l₁ l₂->(∀a b,F a b->G a b)->Paired G l₁ l₂
 | _,_,.nil,_=>.nil
 | _,_,.cons r t,f=>.cons (f _ _ r) (Paired.mapP t f)
theorem ObjOk.stay(x:ObjOk P w H h a o)(k:∀b u,(b=a\/H b=aA (.own a))->h.get? b=aA u->h'.get? b=aA u)
  (I:∀b,H b=aA (.own a)->H' b=aA (.own a)) (E:∀b j,H b=aA (.tup j)->H' b=aA (.tup j)) (N:∀b u,H b=aA (.frz u (.own 0))->H' b=aA (.frz u (.own 0))):ObjOk P w H' h' a o:=by
 induction o with
 | lst j=>obtain⟨z,A,n,r,e⟩:=x;exact⟨z,A,n,r,k _ _ (.inl rfl) e⟩
 | tup j=>obtain⟨z,A,r,g,e,c⟩:=x;exact⟨⟨z.1,λo q=>by rw[k _ _ (.inl rfl) e] at q;cases q;exact z.2 _ e⟩,A,r,g,k _ _ (.inl rfl) e,c⟩
 | dK jr=>obtain⟨z,y,vs,r,g,i,ep,e,c⟩:=x;exact⟨z,y,vs,r,g,i,ep,k _ _ (.inl rfl) e,c⟩
 | dT jr=>
  obtain⟨z,y,j,r,g,i,ep,e,c⟩:=x;exact⟨z,y,j,Paired.mapP r λp q z=>⟨z.1,E _ _ z.2.1,z.2.2⟩,g,i,ep,k _ _ (.inl rfl) e,c⟩
 | set S n=>obtain⟨g,i,ep,t,e,c⟩:=x;exact⟨g,i,ep,t,k _ _ (.inl rfl) e,c⟩
 | ins C dx fs=>
  obtain⟨d,z,ne,e,D,⟨B,i,ep,l,c⟩,r⟩:=x;exact⟨I _ d,z,ne,k _ _ (.inl rfl) e,D,⟨B,i,ep,k _ _ (.inr d) l,c⟩,r⟩
 | own y=>obtain⟨g,e⟩:=x;exact⟨g,k _ _ (.inl rfl) e⟩
 | xd fs=>obtain⟨D,⟨B,i,ep,e,c⟩,r⟩:=x;exact⟨D,⟨B,i,ep,k _ _ (.inl rfl) e,c⟩,r⟩
 | rng lo hi=>obtain⟨t,u,v,e⟩:=x;exact⟨t,u,v,k _ _ (.inl rfl) e⟩
 | frz g u ih=>obtain⟨e,q⟩:=x;exact⟨k _ _ (.inl rfl) e,ih q⟩
 | tbl ps=>
  obtain⟨q,t,m,M,e,G,O⟩:=x;refine⟨q,t,m,M,k a _ (.inl rfl) e,G,λs v J=>?_⟩;obtain⟨c,o,L,l,F⟩:=O s v J;exact⟨c,o,L,N c o l,F⟩
 | met f y=>
  have e:=x;exact k a _ (.inl rfl) e
 | ext φ=>obtain⟨p,⟨o,e⟩,st⟩:=x;exact⟨st _ _ p λo q=>k _ _ (.inl rfl) q,⟨o,k _ _ (.inl rfl) e⟩,st⟩
theorem HOk.lt(x:HOk P w H h)(e:H a=aA o):a<h.objs.size:=(x a o e).lt
theorem HOk.fresh(x:HOk P w H h)(e:h.objs.size<=a):H a=none:=by
 cases q:H a with
 | none=>rfl
 | some u=>exact absurd (aZ (x.lt q) e) (bh _)
theorem HOk.kept(x:HOk P w H h)(k:∀b u,h.get? b=aA u->h'.get? b=aA u):HOk P w H h':=λa o e=>
 (x a o e).stay (λb u _ q=>k b u q) (λ_ q=>q) (λ_ _ q=>q) λ_ _ q=>q
theorem HOk.laid(x:HOk P w H h)(k:∀b u,h.get? b=aA u->h'.get? b=aA u)(g:h.objs.size<=a)(new:ObjOk P w (upd H a o) h' a o):HOk P w (upd H a o) h':=λb u e=>by
 have d:=x.fresh g;by_cases f:b=a
 ·subst f;rw[Zn] at e;cases e;exact new
 ·rw[upd_ne f] at e;exact(x b u e).stay (λc v _ q=>k c v q) (λc q=>by rw[upd_ne (Zm q d)];exact q) (λc i q=>by rw[upd_ne (Zm q d)];exact q) λc u q=>by rw[upd_ne (Zm q d)];exact q
end
noncomputable def Rd(H:Hp)(a:aG)(u:HO):Prop:=H a=aA u\/∃o,H a=aA (.frz o u)
theorem Rd.ok{P:bI}{w:br}{H:Hp}{h:bR}{a:aG}{u:HO}(r:Rd H a u)(x:HOk P w H h):ObjOk P w H h a u:=by
 rcases r with r | ⟨o,r⟩
 ·exact x a u r
 ·obtain⟨_,q⟩:=x a _ r;exact q
noncomputable def W7:Option HO->Prop
 | some (.lst _)=>True
 | some (.dK _)=>True
 | some (.dT _)=>True
 | some (.set _ _)=>True
 | some (.ins _ _ _)=>True
 | some (.ext _)=>True
 | _=>False
section
variable {P:bI} {w:br} {H:Hp} {h h':bR} {x e:aG} {o':HO}
theorem HOk.write(ok:HOk P w H h)(f:W7 (H x))(n:e=x\/H e=aA (.own x))(k:∀b u,b≠e->h.get? b=aA u->h'.get? b=aA u)(m:∃u,h'.get? e=aA u)
  (new:ObjOk P w (upd H x o') h' x o'):HOk P w (upd H x o') h':=λb u q=>by
 have d:∀c y,H c=aA (.own y)->c≠x:=λc y r z=>by subst z;rw[r] at f;exact f
 have g:∀c i,H c=aA (.tup i)->c≠x:=λc i r z=>by subst z;rw[r] at f;exact f
 by_cases l:b=x
 ·subst l;rw[Zn] at q;cases q;exact new
 ·rw[upd_ne l] at q;by_cases a:b=e
  ·have o:H b=aA (.own x):=by
    rcases n with z | z
    ·exact absurd (a.trans z) l
    ·rw[a];exact z
   rw[q] at o;cases o;obtain⟨v,p⟩:=m;exact⟨v,by rw[a];exact p⟩
  ·refine(ok b u q).stay (λc v j r=>k c v ?_ r) (λc r=>by rw[upd_ne (d c b r)];exact r) (λc i r=>by rw[upd_ne (g c i r)];exact r) λc v r=>by rw[upd_ne (λz=>by subst z;rw[r] at f;exact f)];exact r
   rcases j with rfl | j
   ·exact a
   ·rintro rfl;rcases n with z | z
    ·exact d c b j z
    ·rw[j] at z;cases z;exact l rfl
end
structure Un(fs ex:List aG)(H H':Hp)(h h':bR):Prop where
 keep:∀b o,h.get? b=aA o->H b=none->b∉fs->b∉ex->h'.get? b=aA o
 slot:∀b o,h.get? b=aA o->H b=none->b∈fs->b∉ex->∃sl,h'.get? b=aA { o with slots:=sl }
 free:∀b o,h.get? b=aA o->H b=none->b∉ex->H' b=none
 there:∀b o,h.get? b=aA o->b∉ex->∃o',h'.get? b=aA o'
 tups:∀b xs,H b=aA (.tup xs)->H' b=aA (.tup xs)
 frzs:∀b o u,H b=aA (.frz o u)->H' b=aA (.frz o u)
 tbls:∀b ps,H b=aA (.tbl ps)->∃more,H' b=aA (.tbl (ps++more))
section
variable {fs fs' ex ex':List aG} {H H1 H2:Hp} {h h1 h2 h':bR} {a x e:aG} {o:HO}
theorem Un.any(u:Un fs ex H H1 h h1){b:aG}{a:cj}(q:h.get? b=aA a)(n:H b=none)(c:b∉ex):∃sl,h1.get? b=aA { a with slots:=sl }:=by
 by_cases d:b∈fs
 ·exact u.slot b a q n d c
 ·exact⟨a.slots,u.keep b a q n d c⟩
theorem Un.kept(k:∀b u,h.get? b=aA u->h'.get? b=aA u):Un fs ex H H h h':=
 ⟨λb a q _ _ _=>k b a q,λb a q _ _ _=>⟨a.slots,k b a q⟩,λ_ _ _ n _=>n,λb a q _=>⟨a,k b a q⟩,λ_ _ q=>q,λ_ _ _ q=>q,λ_ c q=>⟨#[],by rw[q];simp⟩⟩
theorem Un.refl:Un fs ex H H h h:=Un.kept λ_ _ q=>q
theorem Un.laid(k:∀b u,h.get? b=aA u->h'.get? b=aA u)(e:h.objs.size<=a)(c:H a=none):Un fs ex H (upd H a o) h h' where
 keep:=λb u q _ _ _=>k b u q
 slot:=λb u q _ _ _=>⟨u.slots,k b u q⟩
 free:=λb u q n _=>by rw[upd_ne (av (aZ (aP q) e))];exact n
 there:=λb u q _=>⟨u,k b u q⟩
 tups:=λb d q=>by rw[upd_ne (Zm q c)];exact q
 frzs:=λb u d q=>by rw[upd_ne (Zm q c)];exact q
 tbls:=λb f q=>⟨#[],by rw[upd_ne (Zm q c),q];simp⟩
theorem Un.write(c:W7 (H x))(l:e=x\/H e=aA (.own x))(k:∀b u,b≠e->h.get? b=aA u->h'.get? b=aA u)(d:∃u,h'.get? e=aA u):Un fs ex H (upd H x o) h h':=by
 have g:∀b,H b=none->b≠x:=λb n z=>by subst z;rw[n] at c;exact c
 have i:∀b,H b=none->b≠e:=λb n z=>by
  subst z;rcases l with r | r
  ·exact g b n r
  ·rw[n] at r;cases r
 have f:∀b u,H b=aA u->¬W7 (aA u)->b≠x:=λb u q m z=>by subst z;rw[q] at c;exact m c
 refine⟨λb u q n _ _=>k b u (i b n) q,λb u q n _ _=>⟨u.slots,k b u (i b n) q⟩,λb u q n _=>by rw[upd_ne (g b n)];exact n,λb u q _=>?_,
  λb j q=>by rw[upd_ne (f b _ q λz=>z)];exact q,λb u j q=>by rw[upd_ne (f b _ q λz=>z)];exact q,λb p q=>⟨#[],by rw[upd_ne (f b _ q λz=>z),q];simp⟩⟩
 by_cases a:b=e
 ·subst a;exact d
 ·exact⟨u,k b u a q⟩
end
noncomputable def TabsH(K:aD)(mg:ah->Option aF)(base:bR)(H:Hp):Prop:=∀(q:ah)(c:aG),Mq q=aC->cH K (.ref c) q=aC->
 ∃Pt ps t,PySem.W.CodeHd base c Pt/\H Pt=aA (.tbl ps)/\ps[0]?=aA (.str (E9 q) t)/\base.BuiltinsAt mg Pt
theorem TabsH.un{K:aD}{g:ah->Option aF}{base:bR}{fs r:List aG}{H i:Hp}{h o:bR}(t:TabsH K g base H)(u:Un fs r H i h o):TabsH K g base i:=λq c p k=>by
 obtain⟨e,a,tk,s,j,b,l⟩:=t q c p k;obtain⟨f,m⟩:=u.tbls e a j
 have d:0<a.size:=by
  cases z:a.size with
  | zero=>rw[Array.getElem?_eq_none (by omega)] at b;cases b
  | succ n=>omega
 exact⟨e,_,tk,s,m,by rw[Array.getElem?_append_left d];exact b,l⟩
noncomputable def EK(h:bR)(H:Hp):List aG:=(aJ h.objs.size).filter λa=>(H a).isSome
noncomputable def R6(h:bR)(H:Hp):bR:=PySem.W.hideAll h (EK h H)
theorem Mr(h:bR)(H:Hp):(R6 h H).objs.size=h.objs.size:=PySem.W.hideAll_size _ _
theorem Ls{h:bR}{H:Hp}{b:aG}{o:cj}(e:h.get? b=aA o)(n:H b=none):(R6 h H).get? b=aA o:=
 PySem.W.hideAll_get _ e λa=>by have q:=(fK.mp a).2;rw[n] at q;simp at q
theorem Ji{h:bR}{H:Hp}{b:aG}{o:cj}(e:(R6 h H).get? b=aA o):h.get? b=aA o/\H b=none:=by
 have a:=PySem.W.of_hideAll (EK h H) e;refine⟨a,?_⟩
 cases q:H b with
 | none=>rfl
 | some x=>
  have c:b∈EK h H:=fK.mpr ⟨aY.mpr (aP a),by simp[q]⟩;have z:(R6 h H).get? b=none:=PySem.W.hideAll_none (EK h H) c;rw[z] at e;cases e
noncomputable def Jj(g h:bR)(L:aG):List (aG×cj):=(aJ h.objs.size).filterMap λa=>if a=L\/(g.get? a).isSome=aC then none else(h.get? a).map λo=>(a,o)
noncomputable def Z6(g h:bR)(L d:aG):List (aG×cj):=(Jj g h L).filter λp=>decide (p.1≠d)
structure Mod(K:aD)(mg:ah->Option aF)(base:bR):Prop where
 kin:K.In base
 glob:base.Ns cD mg
 blt:∃mb,base.Ns iV mb/\∀x:ah,x≠"__name__"->mb x=cW x
 nolimit:base.NoLimit
 seer:base.NoSeer
structure Cx where
 prog:bI
 w:br
 K:aD
 mg:ah->Option aF
 base:bR
 A:bc
 N:List ah
 s₀:aL
 H₀:Hp
 env:jH
 outer:List jH
 stack:List jH
 ex:List aG
 fn:ah->Bool
 calm:Bool
 pn:List (aG×cj)
 xe:aF->aL->Prop
noncomputable def Ol(l:List jH):List aG:=l.filterMap (·.frame)
abbrev Cx.fs(X:Cx):List aG:=Ol X.outer
noncomputable def EL(sc:cx)(x:ah):Prop:=sc.names.lookup x=aA .local\/sc.names.lookup x=aA .cell\/sc.names.lookup x=aA .free
noncomputable def Jk(sc:cx)(x:ah):Prop:=sc.names.lookup x=aA .local\/sc.names.lookup x=aA .cell
noncomputable def Dc(env:jH)(h:bR)(m:ah->Option aF)(x:ah)(u:aF):Prop:=
 (env.kindOf x=aA .local/\m x=aA u)\/((env.kindOf x=aA .cell\/env.kindOf x=aA .free)/\∃c,env.cells.lookup x=aA c/\h.IsCell c (aA u))
structure Cx.Ok(X:Cx):Prop where
 mod:Mod X.K X.mg X.base
 kind:X.env.scope.kind = .function
 glob:X.env.globals=cD
 blt:X.env.builtins=iV
 above:X.s₀.heap.objs.size<=X.env.locals
 inj:∀x y c,X.env.cells.lookup x=aA c->X.env.cells.lookup y=aA c->x=y
 has:∀x,(X.env.kindOf x=aA .cell\/X.env.kindOf x=aA .free)->∃c,X.env.cells.lookup x=aA c
 cab:∀x c,X.fn x=aC->X.env.cells.lookup x=aA c->X.s₀.heap.objs.size<=c
 hd:X.calm=aC->X.A.handled=none
 frames:X.A.frames=aA X.stack
 stk:X.stack=X.outer\/(X.stack=X.env::X.outer/\X.env.frame=aA X.env.locals)
 exf:∀b∈X.ex,b≠X.env.locals/\∀x c,X.env.cells.lookup x=aA c->c≠b
 bs:∀b o,X.base.get? b=aA o->X.s₀.heap.get? b=aA o/\X.H₀ b=none
 bsz:X.base.objs.size<=X.s₀.heap.objs.size
 noex:∀b o,X.base.get? b=aA o->b∉X.ex
 exfs:∀b∈X.ex,b∉X.fs
 funs:X.s₀.heap.FunFrames X.base X.outer
 frf:∀b∈X.fs,X.H₀ b=none
 tab:TabsH X.K X.mg X.base X.H₀
 cod:∀q:ah,X.env.func≠none->X.env.qual=q++".<locals>."->Mq q=aC->cH X.K X.env.code q=aC
structure Inv(X:Cx)(jq:List (aG×cj))(σ:List (Option V))(H:Hp)(s:aL):Prop where
 ok:X.Ok
 os:s.os=X.s₀.os
 bare:gX s.gens
 base:Un X.fs X.ex X.H₀ H X.s₀.heap s.heap
 loc:∃m,s.heap.Ns X.env.locals m/\∀(i:Nat)(x:ah)(v:V),X.N[i]?=aA x->σ[i]?=aA (aA v)->EL X.env.scope x->∃u,RelV v u/\Dc X.env s.heap m x u
 cell:∀x c,X.env.cells.lookup x=aA c->∃v,s.heap.IsCell c v
 free:H X.env.locals=none
 freeC:∀x c,X.env.cells.lookup x=aA c->H c=none
 pin:∀p∈X.pn++jq,s.heap.get? p.1=aA p.2/\H p.1=none/\p.1≠X.env.locals/\p.1∉X.fs/\∀v,p.2.data≠.cell v
 hok:HOk X.prog X.w H s.heap
 len:σ.length=X.N.length
section
variable {X:Cx} {jq:List (aG×cj)} {σ:List (Option V)} {H H':Hp} {s:aL} {h':bR}
theorem Cx.Ok.nofr(ok:X.Ok){b:aG}{o:cj}(e:X.base.get? b=aA o):b∉X.fs:=λa=>by have:=(ok.funs.mem a).1;rw[e] at this;cases this
theorem Inv.bs(I:Inv X jq σ H s):∀b o,X.base.get? b=aA o->s.heap.get? b=aA o/\H b=none:=λb o e=>
 ⟨I.base.keep b o (I.ok.bs b o e).1 (I.ok.bs b o e).2 (I.ok.nofr e) (I.ok.noex b o e),I.base.free b o (I.ok.bs b o e).1 (I.ok.bs b o e).2 (I.ok.noex b o e)⟩
theorem Inv.bk(I:Inv X jq σ H s):∀b o,X.base.get? b=aA o->s.heap.get? b=aA o:=λb o e=>(I.bs b o e).1
theorem Inv.mod(I:Inv X jq σ H s):Mod X.K X.mg X.base:=I.ok.mod
theorem Inv.kIn(I:Inv X jq σ H s):X.K.In s.heap:=I.ok.mod.kin.keeps I.bk
theorem Inv.nolimit(I:Inv X jq σ H s):s.heap.NoLimit:=I.ok.mod.nolimit.keeps I.bk
theorem Inv.fr(I:Inv X jq σ H s):∃m,Fr X.base X.env.locals s.heap m:=
 let⟨m,a,_⟩:=I.loc
 ⟨m,a,I.bk,aV I.ok.bsz I.ok.above⟩
theorem Inv.lt(I:Inv X jq σ H s):X.env.locals<s.heap.objs.size:=let⟨_,a,_⟩:=I.loc;a.lt
theorem Inv.sz(I:Inv X jq σ H s):X.s₀.heap.objs.size<=s.heap.objs.size:=aV I.ok.above (cI I.lt)
theorem Inv.nofs(I:Inv X jq σ H s){a:aG}(h:s.heap.objs.size<=a):a∉X.fs:=λc=>by obtain⟨_,o,b,_⟩:=I.ok.funs.mem c;exact absurd (aZ (aP b) (aV I.sz h)) (bh _)
theorem Inv.cne(I:Inv X jq σ H s):∀x c,X.env.cells.lookup x=aA c->c≠X.env.locals:=λx c e z=>by obtain⟨v,o,d,f⟩:=I.cell x c e;obtain⟨m,⟨h,g,ep,b,a,_⟩,_⟩:=I.loc;rw[z,b] at d;cases d;rw[a] at f;cases f
theorem Inv.funs(I:Inv X jq σ H s):s.heap.FunFrames X.base X.outer:=by
 have all:∀(l:List jH),(∀b∈Ol l,b∈X.fs)->X.s₀.heap.FunFrames X.base l->s.heap.FunFrames X.base l:=by
  intro l
  induction l with
  | nil=>intro _ _;trivial
  | cons env r ih=>
   intro f m;obtain⟨i,⟨L,o,a,j,k,g⟩,h⟩:=m;have c:L∈X.fs:=f L (by unfold Ol;rw[fO,a];exact a9);obtain⟨n,e⟩:=I.base.slot L o k (I.ok.frf L c) c λz=>I.ok.exfs L z c;exact⟨i,⟨L,_,a,j,e,g⟩,ih (λb d=>f b (by unfold Ol;rw[fO,a];exact aU _ d)) h⟩
 exact all X.outer (λ_ d=>d) I.ok.funs
theorem Inv.stack(I:Inv X jq σ H s):s.heap.FunFrames X.base X.stack:=by
 rcases I.ok.stk with e | ⟨e,a⟩
 ·rw[e];exact I.funs
 ·rw[e];obtain⟨m,b,_⟩:=I.loc;refine .cons (by rw[I.ok.kind];decide) a b ?_ I.funs;exact bR.get?_none_of_le (aV I.ok.bsz I.ok.above)
theorem Inv.stkSub(I:Inv X jq σ H s):∀b∈Ol X.stack,b∈X.env.locals::X.fs:=λb a=>by
 rcases I.ok.stk with e | ⟨e,c⟩
 ·rw[e] at a;exact aU _ a
 ·rw[e] at a;unfold Ol at a;rw[fO,c] at a;exact a
theorem Inv.stkFree(I:Inv X jq σ H s):∀b∈Ol X.stack,H b=none:=λb a=>by
 rcases af.mp (I.stkSub b a) with e | a
 ·rw[e];exact I.free
 ·obtain⟨_,o,c,_⟩:=I.ok.funs.mem a;exact I.base.free b o c (I.ok.frf b a) λz=>I.ok.exfs b z a
theorem Inv.step{U:Array GenState}{t':Nat}{d':Drawn}{ch:List aG}(I:Inv X jq σ H s)
  (j:∀b∈ch,(b∈X.ex\/X.s₀.heap.objs.size<=b)/\b≠X.env.locals/\(∀x c,X.env.cells.lookup x=aA c->c≠b)/\∀p∈X.pn++jq,p.1≠b)
  (h:∀b o,b≠X.env.locals->b∉X.fs->b∉ch->s.heap.get? b=aA o->H b=none->h'.get? b=aA o)
  (A:∀b o,b≠X.env.locals->b∈X.fs->b∉ch->s.heap.get? b=aA o->H b=none->∃Q,h'.get? b=aA { o with slots:=Q }) (free:∀b o,b∉ch->s.heap.get? b=aA o->H b=none->H' b=none)
  (B:∀b o,b∉ch->s.heap.get? b=aA o->∃L,h'.get? b=aA L)
  (G:∀b y,H b=aA (.tup y)->H' b=aA (.tup y)) (M:∀b o u,H b=aA (.frz o u)->H' b=aA (.frz o u)) (J:∀b N,H b=aA (.tbl N)->∃more,H' b=aA (.tbl (N++more)))
  (Z:∀m,s.heap.Ns X.env.locals m->h'.Ns X.env.locals m) (P:HOk X.prog X.w H' h') (hg:gX U) :
  Inv X jq σ H' { s with heap:=h',gens:=U,drawn:=d',toks:=t' }:=by
 have F:∀b o,X.s₀.heap.get? b=aA o->b≠X.env.locals:=λb o e=>av (aZ (aP e) I.ok.above)
 have t:∀b o,X.s₀.heap.get? b=aA o->b∉X.ex->b∉ch:=λb o e a C=>by
  rcases(j b C).1 with z | z
  ·exact a z
  ·exact absurd (aZ (aP e) z) (bh _)
 have g:∀x c,X.env.cells.lookup x=aA c->∀v,s.heap.IsCell c v->h'.IsCell c v:=λx c e v ⟨o,D,O⟩=>by
  have f:=λz=>(j c z).2.2.1 x c e rfl;by_cases T:c∈X.fs
  ·obtain⟨Q,q⟩:=A c o (I.cne x c e) T f D (I.freeC x c e);exact⟨_,q,O⟩
  ·exact⟨o,h c o (I.cne x c e) T f D (I.freeC x c e),O⟩
 refine⟨I.ok,I.os,hg,⟨λb o e n C a=>?_,λb o e n C a=>?_,λb o e n a=>?_,λb o e a=>?_,λb y e=>G b y (I.base.tups b y e),λb o y e=>M b o y (I.base.frzs b o y e),λb N e=>?_⟩,?_,λx c e=>?_,?_,λx c e=>?_,λp W=>?_,P,I.len⟩
 ·exact h b o (F b o e) C (t b o e a) (I.base.keep b o e n C a) (I.base.free b o e n a)
 ·obtain⟨Q,w⟩:=I.base.slot b o e n C a;obtain⟨R,E⟩:=A b _ (F b o e) C (t b o e a) w (I.base.free b o e n a);exact⟨R,E⟩
 ·obtain⟨L,w⟩:=I.base.there b o e a;exact free b L (t b o e a) w (I.base.free b o e n a)
 ·obtain⟨L,w⟩:=I.base.there b o e a;exact B b L (t b o e a) w
 ·obtain⟨m1,w⟩:=I.base.tbls b N e;obtain⟨m2,E⟩:=J b _ w;exact⟨m1++m2,by rw[E,Array.append_assoc]⟩
 ·obtain⟨m,hn,hl⟩:=I.loc;refine⟨m,Z m hn,λi x v w E Y=>?_⟩;obtain⟨u,r,l⟩:=hl i x v w E Y;refine⟨u,r,?_⟩;rcases l with l | ⟨k,c,e,z⟩
  ·exact .inl l
  ·exact .inr ⟨k,c,e,g x c e _ z⟩
 ·obtain⟨v,z⟩:=I.cell x c e;exact⟨v,g x c e v z⟩
 ·obtain⟨m,⟨o,_,_,D,_⟩,_⟩:=I.loc;exact free _ o (λz=>(j _ z).2.1 rfl) D I.free
 ·obtain⟨v,o,D,O⟩:=I.cell x c e;exact free c o (λz=>(j c z).2.2.1 x c e rfl) D (I.freeC x c e)
 ·obtain⟨e,n,ne,S,d⟩:=I.pin p W;have f:=λz=>(j p.1 z).2.2.2 p W rfl;exact⟨h p.1 p.2 ne S f e n,free p.1 p.2 f e n,ne,S,d⟩
theorem Inv.un{t':Nat}(I:Inv X jq σ H s)(u:Un X.fs [] H H' s.heap h')(d:HOk X.prog X.w H' h'):Inv X jq σ H' { s with heap:=h',toks:=t' }:=by
 obtain⟨m,⟨o,l,ep,h,r⟩,_⟩:=id I.loc;obtain⟨p,k⟩:=u.any h I.free (by simp)
 exact I.step (ch:=[]) (λ_ z=>nomatch z) (λb o _ g _ e n=>u.keep b o e n g (by simp)) (λb o _ g _ e n=>u.slot b o e n g (by simp)) (λb o _ e n=>u.free b o e n (by simp)) (λb o _ e=>u.there b o e (by simp)) u.tups u.frzs u.tbls (λt i=>by
  obtain⟨q,f,c,a,j⟩:=i;rw[h] at a;cases a;exact⟨_,f,c,k,j⟩) d I.bare
theorem Inv.call{l:Array GenState}{t':Nat}{t:Drawn}{ch:List aG}(I:Inv X jq σ H s)(u:Un (Ol X.stack) ch H H' s.heap h')(h:HOk X.prog X.w H' h')(y:gX l)
  (f:∀b∈ch,(b∈X.ex\/X.s₀.heap.objs.size<=b)/\b≠X.env.locals/\(∀x c,X.env.cells.lookup x=aA c->c≠b)/\∀p∈X.pn++jq,p.1≠b) :
  Inv X jq σ H' { s with heap:=h',gens:=l,drawn:=t,toks:=t' }:=by
 obtain⟨m,⟨o,A,ep,k,r⟩,_⟩:=id I.loc;obtain⟨B,i⟩:=u.any k I.free λz=>(f _ z).2.1 rfl
 exact I.step f (λb o i w a e n=>u.keep b o e n (λz=>(af.mp (I.stkSub b z)).elim i w) a) (λb o _ _ a e n=>u.any e n a) (λb o a e n=>u.free b o e n a) (λb o a e=>u.there b o e a) u.tups u.frzs u.tbls (λD q=>by
  obtain⟨C,j,g,d,v⟩:=q;rw[k] at d;cases d;exact⟨_,j,g,i,v⟩) h y
theorem Inv.turned{t':Nat}{a:aG}(I:Inv X jq σ H s)(k:∀b o,b≠a->s.heap.get? b=aA o->h'.get? b=aA o)(i:H a=none)(g:a≠X.env.locals)
  (w:a∈X.ex\/X.s₀.heap.objs.size<=a) (j:∀x c,X.env.cells.lookup x=aA c->c≠a) (y:∀p∈X.pn++jq,p.1≠a):Inv X jq σ H { s with heap:=h',toks:=t' }:=by
 have f:∀b u,H b=aA u->b≠a:=λb u e z=>by rw[z,i] at e;cases e
 refine I.step (ch:=[a]) (λb A=>?_) (λb o _ _ d e _=>k b o (λz=>d (by simp[z])) e) (λb o _ _ d e _=>⟨o.slots,k b o (λz=>d (by simp[z])) e⟩) (λ_ _ _ _ n=>n)
  (λb o d e=>⟨o,k b o (λz=>d (by simp[z])) e⟩) (λ_ _ e=>e) (λ_ _ _ e=>e) (λb B e=>⟨#[],by rw[e];simp⟩) (λm l=>?_) (λb u e=>?_) I.bare
 ·have e:b=a:=by simpa using A
  subst e;exact⟨w,g,j,y⟩
 ·obtain⟨o,h,ep,t,r⟩:=l;exact⟨o,h,ep,k _ o (ar g) t,r⟩
 ·refine(I.hok b u e).stay (λc v d q=>k c v ?_ q) (λ_ q=>q) (λ_ _ q=>q) λ_ _ q=>q;rcases d with z | z
  ·rw[z];exact f b u e
  ·exact f c _ z
theorem Inv.tok(I:Inv X jq σ H s)(t:Nat):Inv X jq σ H { s with toks:=t }:=I.un Un.refl I.hok
theorem Inv.kept{t':Nat}(I:Inv X jq σ H s)(k:∀b u,s.heap.get? b=aA u->h'.get? b=aA u):Inv X jq σ H { s with heap:=h',toks:=t' }:=I.un (Un.kept k) (I.hok.kept k)
theorem Inv.laid{a:aG}{o:HO}{t':Nat}(I:Inv X jq σ H s)(k:∀b u,s.heap.get? b=aA u->h'.get? b=aA u)(c:s.heap.objs.size<=a)(new:ObjOk X.prog X.w (upd H a o) h' a o) :
  Inv X jq σ (upd H a o) { s with heap:=h',toks:=t' }:=I.un (Un.laid k c (I.hok.fresh c)) (I.hok.laid k c new)
theorem Inv.write{x e:aG}{o:HO}{t':Nat}(I:Inv X jq σ H s)(d:W7 (H x))(c:e=x\/H e=aA (.own x))(k:∀b u,b≠e->s.heap.get? b=aA u->h'.get? b=aA u)(a:∃u,h'.get? e=aA u)
  (new:ObjOk X.prog X.w (upd H x o) h' x o):Inv X jq σ (upd H x o) { s with heap:=h',toks:=t' }:=I.un (Un.write d c k a) (I.hok.write d c k a new)
theorem Inv.weak{a:List (Option V)}(I:Inv X jq σ H s)(g:a.length=σ.length)(w:∀(i:Nat) v,a[i]?=aA (aA v)->σ[i]?=aA (aA v)):Inv X jq a H s:=
 ⟨I.ok,I.os,I.bare,I.base,let⟨m,f,b⟩:=I.loc;⟨m,f,λi x v e c d=>b i x v e (w i v c) d⟩,I.cell,I.free,I.freeC,I.pin,I.hok,g.trans I.len⟩
theorem Inv.pins_of{a:List (aG×cj)}(I:Inv X jq σ H s)(h:∀p∈a,s.heap.get? p.1=aA p.2/\H p.1=none/\p.1≠X.env.locals/\p.1∉X.fs/\∀v,p.2.data≠.cell v):Inv X a σ H s:=
 ⟨I.ok,I.os,I.bare,I.base,I.loc,I.cell,I.free,I.freeC,λp b=>(bj.mp b).elim (λz=>I.pin p (bO _ z)) (h p),I.hok,I.len⟩
theorem Q5{N:List ah}(e:N.Nodup){i j:Nat}{x:ah}(a:N[i]?=aA x)(b:N[j]?=aA x):i=j:=by obtain⟨f,d⟩:=aW.mp a;obtain⟨g,c⟩:=aW.mp b;exact(jI e).mp (d.trans c.symm)
theorem Ms{M:Model}{A:bc}{E:aF->aL->Prop}{i:Nat}{x:ah}{v:V}{u:aF}{Q:Unit->aL->Prop}(I:Inv X jq σ H s)(hN:X.N.Nodup)(S:X.N[i]?=aA x)(w:Jk X.env.scope x)(r:RelV v u)
  (h:∀s',Inv X jq (σ.set i (aA v)) H s'->(∃a,cB a s.heap s'.heap/\(a=X.env.locals\/X.env.cells.lookup x=aA a))->Q () s') (hf:X.fn x=aC\/X.env.scope.names.lookup x=aA .local:=by first | exact .inl rfl | exact .inr rfl | assumption):ay M A (storeName X.env x u) Q E s:=by
 obtain⟨m,hn,hl⟩:=id I.loc;have R:(X.env.scope.kind==.class || (X.env.scope.kind==.module&&X.env.locals != X.env.globals))=aB:=by rw[I.ok.kind];rfl
 have D:i<σ.length:=by rw[I.len];exact(aW.mp S).1
 have cne:=I.cne
 have g:∀{a:aG}{N:bR},(∃o,s.heap.get? a=aA o/\H a=none)->cB a s.heap N->HOk X.prog X.w H N:=λ{a N} ha f b ob e=>by
  obtain⟨_,_,B⟩:=ha;refine(I.hok b ob e).stay (λc W t q=>(f.2 c ?_).trans q) (λ_ q=>q) (λ_ _ q=>q) λ_ _ q=>q;rintro rfl;rcases t with rfl | t
  ·rw[B] at e;cases e
  ·rw[B] at t;cases t
 rcases w with F | F
 ·refine wpAny_storeName_local F hn (λN hn' f=>?_) R;obtain⟨oL,_,_,hoL,_⟩:=id hn;refine h _ ⟨I.ok,I.os,I.bare,⟨λb o e n L w=>?_,λb o e n L w=>?_,I.base.free,λb o e w=>?_,I.base.tups,I.base.frzs,I.base.tbls⟩,⟨_,hn',λj y v' l C e3=>?_⟩,λy c e=>?_,I.free,I.freeC,λp hp=>?_,g ⟨oL,hoL,I.free⟩ f,by simpa using I.len⟩ ⟨_,f,.inl rfl⟩
  ·exact(f.2 b (av (aZ (aP e) I.ok.above))).trans (I.base.keep b o e n L w)
  ·obtain⟨sl,l⟩:=I.base.slot b o e n L w;exact⟨sl,(f.2 b (av (aZ (aP e) I.ok.above))).trans l⟩
  ·obtain⟨o',l⟩:=I.base.there b o e w;exact⟨o',(f.2 b (av (aZ (aP e) I.ok.above))).trans l⟩
  ·by_cases G:j=i
   ·subst G;rw[S] at l;cases l;rw[gY D] at C;cases C;exact⟨u,r,.inl ⟨F,by simp⟩⟩
   ·rw[gw (ar G)] at C;obtain⟨Z,r',q⟩:=hl j y v' l C e3;refine⟨Z,r',?_⟩;rcases q with⟨k,e⟩ | ⟨k,c,e,z⟩
    ·refine .inl ⟨k,?_⟩;have:y≠x:=λe=>G (Q5 hN l (e▸S));simp[this,e]
    ·exact .inr ⟨k,c,e,z.sameBut f (cne y c e)⟩
  ·obtain⟨W,z⟩:=I.cell y c e;exact⟨W,z.sameBut f (cne y c e)⟩
  ·obtain⟨e,n,ne,nf,d⟩:=I.pin p hp;exact⟨(f.2 p.1 ne).trans e,n,ne,nf,d⟩
 ·have J:X.fn x=aC:=by
   rcases hf with z | z
   ·exact z
   ·rw[z] at F;cases F
  obtain⟨c,t⟩:=I.ok.has x (.inl F);obtain⟨W,z⟩:=I.cell x c t;refine wpAny_storeName_cell I.ok.kind F t z (λN T f=>?_);obtain⟨oc,U,O⟩:=id z;refine h { s with heap:=N } ⟨I.ok,I.os,I.bare,⟨λb o e n L w=>?_,λb o e n L w=>?_,I.base.free,λb o e w=>?_,I.base.tups,I.base.frzs,I.base.tbls⟩,⟨m,hn.sameBut f (ar (cne x c t)),λj y v' l C e3=>?_⟩,λy Y e=>?_,I.free,I.freeC,λp hp=>?_,g ⟨oc,U,I.freeC x c t⟩ f,by simpa using I.len⟩ ⟨c,f,.inr t⟩
  ·exact(f.2 b (av (aZ (aP e) (I.ok.cab x c J t)))).trans (I.base.keep b o e n L w)
  ·obtain⟨sl,l⟩:=I.base.slot b o e n L w;exact⟨sl,(f.2 b (av (aZ (aP e) (I.ok.cab x c J t)))).trans l⟩
  ·obtain⟨o',l⟩:=I.base.there b o e w;exact⟨o',(f.2 b (av (aZ (aP e) (I.ok.cab x c J t)))).trans l⟩
  ·by_cases G:j=i
   ·subst G;rw[S] at l;cases l;rw[gY D] at C;cases C;exact⟨u,r,.inr ⟨.inl F,c,t,T⟩⟩
   ·rw[gw (ar G)] at C;obtain⟨Z,r',q⟩:=hl j y v' l C e3;refine⟨Z,r',?_⟩;rcases q with q | ⟨k,Y,e,z'⟩
    ·exact .inl q
    ·refine .inr ⟨k,Y,e,z'.sameBut f ?_⟩;rintro rfl;exact G (Q5 hN l (I.ok.inj _ _ _ e t▸S))
  ·by_cases P:Y=c
   ·subst P;exact⟨_,T⟩
   ·obtain⟨w2,z2⟩:=I.cell y Y e;exact⟨w2,z2.sameBut f P⟩
  ·obtain⟨e,n,ne,nf,d⟩:=I.pin p hp;refine⟨(f.2 p.1 ?_).trans e,n,ne,nf,d⟩;intro q;rw[q,U] at e;have q':oc=p.2:=ak e;exact d W (by rw[<-q'];exact O)
theorem TF{M:Model}{A:bc}{E:aF->aL->Prop}{i:Nat}{x:ah}{v:V}{u:aF}{Q:Unit->aL->Prop}(I:Inv X jq σ H s)(f:X.N.Nodup)(c:X.N[i]?=aA x)(b:Jk X.env.scope x)(r:RelV v u)
  (h:∀a,Inv X jq (σ.set i (aA v)) H a->Q () a) (d:X.fn x=aC\/X.env.scope.names.lookup x=aA .local:=by first | exact .inl rfl | exact .inr rfl | assumption):ay M A (storeName X.env x u) Q E s:=
 Ms I f c b r (λa e _=>h a e) d
theorem Inv.call'{a:aL}{ch:List aG}(I:Inv X jq σ H s)(g:a.os=s.os)(u:Un (Ol X.stack) ch H H' s.heap a.heap)(d:HOk X.prog X.w H' a.heap)(h:gX a.gens)
  (f:∀b∈ch,(b∈X.ex\/X.s₀.heap.objs.size<=b)/\b≠X.env.locals/\(∀x c,X.env.cells.lookup x=aA c->c≠b)/\∀p∈X.pn++jq,p.1≠b):Inv X jq σ H' a:=by
 obtain⟨l,i,j,t',k⟩:=a;have e:=g;subst e;exact I.call u d h f
end
abbrev XK:=aF->Option aG->Hp->Prop
abbrev St:=List (Option V)
abbrev VK:=V->Hp->Prop
abbrev TE:=St->Hp->VK->Prop
abbrev TT:=St->Hp->(Bool->Hp->Prop)->Prop
abbrev TA:=St->Hp->(List V->Hp->Prop)->Prop
structure Yv where
 nx:St->Hp->Prop
 rt:VK
 bk:St->Hp->Prop:=λ_ _=>False
 ct:St->Hp->Prop:=λ_ _=>False
abbrev TS:=Yv->St->Hp->Prop
noncomputable def EP(X:Cx)(jq:List (aG×cj))(σ:St)(Q:VK)(u:aF)(s':aL):Prop:=∃v H',Inv X jq σ H' s'/\RelV v u/\Q v H'
noncomputable def TP(X:Cx)(jq:List (aG×cj))(σ:St)(Q:Bool->Hp->Prop)(b:Bool)(s':aL):Prop:=∃H',Inv X jq σ H' s'/\Q b H'
noncomputable def AP(X:Cx)(jq:List (aG×cj))(σ:St)(Q:List V->Hp->Prop)(us:List aF)(s':aL):Prop:=∃vs H',Inv X jq σ H' s'/\Vals vs us/\Q vs H'
noncomputable def SP(X:Cx)(jq:List (aG×cj))(D:Yv)(f:Flow)(s':aL):Prop:=
 match f with
 | .next=>∃σ' H',Inv X jq σ' H' s'/\D.nx σ' H'
 | .brk=>∃σ' H',Inv X jq σ' H' s'/\D.bk σ' H'
 | .cont=>∃σ' H',Inv X jq σ' H' s'/\D.ct σ' H'
 | .ret u=>∃v σ' H',Inv X jq σ' H' s'/\RelV v u/\D.rt v H'
noncomputable def PE(X:Cx)(e:ao)(t:TE):Prop:=
 ∀(jq:List (aG×cj))(s:aL)(σ:St)(H:Hp)(Q:VK),Inv X jq σ H s->t σ H Q->ay (model X.prog X.w) X.A (eval e X.env) (EP X jq σ Q) X.xe s
noncomputable def PT(X:Cx)(e:ao)(t:TT):Prop:=
 ∀(jq:List (aG×cj))(s:aL)(σ:St)(H:Hp)(Q:Bool->Hp->Prop),Inv X jq σ H s->t σ H Q->ay (model X.prog X.w) X.A (j3 e X.env (eval e X.env)) (TP X jq σ Q) X.xe s
noncomputable def PW(X:Cx)(e:ao)(t:TT):Prop:=
 ∀(whole:Sem aF)(jq:List (aG×cj))(s:aL)(σ:St)(H:Hp)(Q:Bool->Hp->Prop),Inv X jq σ H s->t σ H Q->ay (model X.prog X.w) X.A (j3 e X.env whole) (TP X jq σ Q) X.xe s
theorem PW.pt{X:Cx}{e:ao}{t:TT}(h:PW X e t):PT X e t:=h _
noncomputable def PA(X:Cx)(es:List ao)(t:TA):Prop:=
 ∀(pos:dj)(jq:List (aG×cj))(s:aL)(σ:St)(H:Hp)(Q:List V->Hp->Prop),Inv X jq σ H s->t σ H Q->ay (model X.prog X.w) X.A (spliced (dZ pos (aS es X.env))) (AP X jq σ Q) X.xe s
noncomputable def PS(X:Cx)(st:ba)(t:TS):Prop:=
 ∀(jq:List (aG×cj))(s:aL)(σ:St)(H:Hp)(D:Yv),Inv X jq σ H s->t D σ H->ay (model X.prog X.w) X.A (exec st X.env) (SP X jq D) X.xe s
noncomputable def PSs(X:Cx)(st:List ba)(t:TS):Prop:=
 ∀(jq:List (aG×cj))(s:aL)(σ:St)(H:Hp)(D:Yv),Inv X jq σ H s->t D σ H->ay (model X.prog X.w) X.A (execs st X.env) (SP X jq D) X.xe s
theorem Ym{b:Type}{t:Sem b}{Q c:b->aL->Prop}{M:Model}{A:bc}{E:aF->aL->Prop}{s:aL}(h:ay M A t Q E s)(d:∀a s,Q a s->c a s):ay M A t c E s:=cJ h d λ_ _ x=>x
section
variable {X:Cx}
theorem bin{a b:ao}{m k:TE}(r:PE X a m)(A:PE X b k){i:List (aG×cj)}{s:aL}{d:St}{H:Hp}{R:V->V->Hp->Prop}(I:Inv X i d H s)(h:m d H λx j=>k d j λy c=>R x y c)
  {l:Type} {Q:l->aL->Prop} {f:aF->aF->Sem l}
  (z:∀v u s2 x y c,Inv X i d c s2->RelV x v->RelV y u->R x y c->ay (model X.prog X.w) X.A (f v u) Q X.xe s2) :
  ay (model X.prog X.w) X.A (eval a X.env) (λv g=>ay (model X.prog X.w) X.A (eval b X.env) (λu e=>ay (model X.prog X.w) X.A (f v u) Q X.xe e) X.xe g) X.xe s:=by
 refine Ym (r i s d H _ I h) λv s1 ⟨x,j,n,t,p⟩=>?_;refine Ym (A i s1 d j _ n p) λu s2 ⟨y,c,q,o,w⟩=>?_;exact z v u s2 x y c q t o w
noncomputable def Q6(i:Nat):TE:=λσ H Q=>∃v,σ[i]?=aA (aA v)/\Q v H
noncomputable def tC(v:V):TE:=λ_ H Q=>Q v H
theorem HN{i:Nat}{x:ah}{f:dj}(t:X.N[i]?=aA x)(w:EL X.env.scope x)(g:(x==("__debug__" : ah))=aB:=by decide)(j:(x==("__classdict__" : ah))=aB:=by decide):PE X (.Name x f) (Q6 i):=by
 intro o s y H Q I h;obtain⟨v,e,h⟩:=h;obtain⟨m,n,q⟩:=I.loc;obtain⟨u,r,l⟩:=q i x v t e w;have b:EP X o y Q u s:=⟨v,H,I,r,h⟩;rcases l with⟨d,p⟩ | ⟨d,c,k,a⟩
 ·exact j4 (wpAny_loadName_local I.ok.kind d n p b) g
 ·rcases d with d | d
  ·exact j4 (wpAny_loadName_cell I.ok.kind d k a b) g
  ·exact j4 (wpAny_loadName_free I.ok.kind d k a b j) g
theorem HP{i j pos}:PE X (.Constant (.int i) j pos) (tC (.int i)):=λ_ _ _ H _ I h=>wpAny_Constant_int ⟨.int i,H,I.tok _,⟨_,rfl⟩,h⟩
theorem FK{b j pos}:PE X (.Constant (.bool b) j pos) (tC (.bl b)):=λ_ _ _ H _ I h=>Constant_bool ⟨.bl b,H,I,rfl,h⟩
theorem HQ{j pos}:PE X (.Constant .none j pos) (tC .non):=λ_ _ _ H _ I h=>Constant_none ⟨.non,H,I,rfl,h⟩
noncomputable def Gl(X:Cx)(x:ah):Prop:=X.env.kindOf x=aA .globalImplicit
theorem Jl{E:aF->aL->Prop}{c:List (aG×cj)}{s:aL}{b:St}{H:Hp}{x:ah}{u:aF}{a:dj}{Q:aF->aL->Prop}(I:Inv X c b H s)(e:Gl X x)(f:X.mg x=aA u)(h:Q u s)
  (d:(x==("__debug__" : ah))=aB:=by decide):ay (model X.prog X.w) X.A (eval (.Name x a) X.env) Q E s:=
 fV I.ok.kind e (Calls.loadGlobal_global (by rw[I.ok.glob];exact I.mod.glob.keeps I.bk) f h) d
theorem Vj{E:aF->aL->Prop}{d:List (aG×cj)}{s:aL}{j:St}{H:Hp}{x:ah}{u:aF}{a:dj}{Q:aF->aL->Prop}(I:Inv X d j H s)(k:Gl X x)(f:X.mg x=none)(i:cW x=aA u)(h:Q u s)
  (c:x≠"__name__":=by decide) (b:(x==("__debug__" : ah))=aB:=by decide):ay (model X.prog X.w) X.A (eval (.Name x a) X.env) Q E s:=by
 obtain⟨l,g,e⟩:=I.mod.blt;exact fV I.ok.kind k (Calls.loadGlobal_builtin (by rw[I.ok.glob];exact I.mod.glob.keeps I.bk) f (by rw[I.ok.blt];exact g.keeps I.bk) ((e x c).trans i) h) b
theorem Jm{x:ah}{v:V}{u:aF}{a:dj}(d:Gl X x)(e:X.mg x=none)(f:cW x=aA u)(r:RelV v u)(b:x≠"__name__":=by decide)(c:(x==("__debug__" : ah))=aB:=by decide):PE X (.Name x a) (tC v):=
 λ_ _ _ H _ I h=>Vj I d e f ⟨v,H,I,r,h⟩ b c
variable {a b:ao} {ta tb:TE} {pos:dj}
noncomputable def PC(X:Cx)(op:j5)(a b:ao)(t:TE):Prop:=
 ∀(jq:List (aG×cj))(s:aL)(σ:St)(H:Hp)(Q:VK),Inv X jq σ H s->t σ H Q->
  ay (model X.prog X.w) X.A (eval a X.env) (λv s₁=>ay (model X.prog X.w) X.A (eval b X.env) (λu s₂=>ay (model X.prog X.w) X.A (eI op v u) (EP X jq σ Q) X.xe s₂) X.xe s₁) X.xe s
theorem Lu(b:ao){op:j5}(h:op≠.In)(d:op≠.NotIn):cq op b=aB:=by
 have c:(op==j5.In)=aB:=by cases op<;>first | rfl | exact absurd rfl h
 have a:(op==j5.NotIn)=aB:=by cases op<;>first | rfl | exact absurd rfl d
 cases b<;>simp[cq,c,a]
noncomputable def Hf(ta:TE):TE:=λσ H Q=>ta σ H λx H1=>Q (.bl (!decide (x = .non))) H1
theorem RelV.none_iff{x:V}{v:aF}(r:RelV x v):(v==aF.none)=decide (x = .non):=by
 cases x with
 | non=>cases r;rfl
 | bl _=>cases r;rfl
 | int _=>obtain⟨t,rfl⟩:=r;rfl
 | str _=>obtain⟨t,rfl⟩:=r;rfl
 | byt _=>obtain⟨t,rfl⟩:=r;rfl
 | flt _=>obtain⟨t,rfl⟩:=r;rfl
 | ref _=>cases r;rfl
 | ty _=>cases r;rfl
theorem Jn{j pos'}(b:PE X a ta):PC X .IsNot a (.Constant .none j pos') (Hf ta):=by intro i s g H Q I h;refine Ym (b i s g H _ I h) λv s1 ⟨x,d,e,f,c⟩=>?_;exact Constant_none (isnot_none_gen ⟨.bl _,d,e,by rw[f.none_iff];rfl,c⟩)
noncomputable def tB(t:TE):TT:=λσ H Q=>t σ H λx H1=>∃c,x = .bl c/\Q c H1
theorem HR{op:j5}{t:TE}(h:PC X op a b t)(e:cq op b=aB:=by first | exact Lu _ (by decide) (by decide) | rfl):PT X (.Compare a [op] [b] pos) (tB t):=by intro k s n H Q I i;refine gu (Ym (h k s n H _ I i) λv s1 e=>Ym e λu s2 l=>Ym l λc o ⟨x,g,f,m,j⟩=>?_) e;obtain⟨d,rfl,q⟩:=j;cases m;exact cK ⟨g,f,q⟩
theorem HU{e:ao}{t:TE}(h:PE X e t)(c:∀whole,j3 e X.env whole=(do let v <-whole;standAt e.pos;holding [v] (truthy v)):=by intro _;rfl):PT X e (tB t):=by intro i s k H Q I f;refine isTrue_plain (Ym (h i s k H _ I f) λv s1 ⟨x,b,a,j,g⟩=>?_) (c _);obtain⟨d,rfl,q⟩:=g;cases j;exact cK ⟨b,a,q⟩
variable {tA tB':TT} {Z6:List ao}
noncomputable def FL(t u:TT):TT:=λσ H Q=>t σ H λc H1=>if c=aC then u σ H1 Q else Q aB H1
noncomputable def DO(t u:TT):TT:=λσ H Q=>t σ H λc H1=>if c=aC then Q aC H1 else u σ H1 Q
noncomputable def Dd(t:TT):TT:=λσ H Q=>t σ H λc H1=>Q (!c) H1
theorem Jo(b:PT X a tA):PW X (.BoolOp .And [a] pos) tA:=by
 intro g f s d H Q I h;refine isTrue_and (Ym (b f s d H Q I h) λc s1 e=>?_)
 cases c with
 | true=>exact isTrue_and_nil e
 | false=>exact e
theorem HW(b:PT X a tA):PW X (.BoolOp .Or [a] pos) tA:=by
 intro g f s d H Q I h;refine isTrue_or (Ym (b f s d H Q I h) λc s1 e=>?_)
 cases c with
 | false=>exact isTrue_or_nil e
 | true=>exact e
theorem HX(j:PT X a tA)(l:PW X (.BoolOp .And (b::Z6) pos) tB'):PW X (.BoolOp .And (a::b::Z6) pos) (FL tA tB'):=by
 intro k i s g H Q I h;refine isTrue_and (Ym (j i s g H _ I h) λc s1 ⟨d,e,f⟩=>?_)
 cases c with
 | true=>exact l k i s1 g d Q e f
 | false=>exact⟨d,e,f⟩
theorem FN(j:PT X a tA)(l:PW X (.BoolOp .Or (b::Z6) pos) tB'):PW X (.BoolOp .Or (a::b::Z6) pos) (DO tA tB'):=by
 intro k i s g H Q I h;refine isTrue_or (Ym (j i s g H _ I h) λc s1 ⟨d,e,f⟩=>?_)
 cases c with
 | true=>exact⟨d,e,f⟩
 | false=>exact l k i s1 g d Q e f
theorem HY(b:PT X a tA):PT X (.UnaryOp .Not a pos) (Dd tA):=by intro f s e H Q I h;exact isTrue_not (b f s e H (λc d=>Q (!c) d) I h)
noncomputable def FO(ta tb:TE):TE:=λσ H Q=>ta σ H λx H1=>∃c,x = .bl c/\if c=aC then tb σ H1 Q else Q (.bl aB) H1
noncomputable def FP(ta:TE):TE:=λσ H Q=>ta σ H λx H1=>∃c,x = .bl c/\Q (.bl (!c)) H1
theorem HZ{op}{t:TE}(h:PE X a t):PE X (.BoolOp op [a] pos) t:=λc s b H Q I d=>BoolOp_one (h c s b H Q I d)
theorem H9(j:PE X a ta)(l:PE X (.BoolOp .And (b::Z6) pos) tb):PE X (.BoolOp .And (a::b::Z6) pos) (FO ta tb):=by
 intro i s g H Q I h;refine BoolOp_and (Ym (j i s g H _ I h) λv s1 ⟨x,e,f,k,d⟩=>?_);obtain⟨c,rfl,d⟩:=d;cases k;refine cK ?_
 cases c with
 | true=>exact l i s1 g e Q f d
 | false=>exact⟨.bl aB,e,f,rfl,d⟩
theorem Ga(d:PE X a ta):PE X (.UnaryOp .Not a pos) (FP ta):=by intro j s i H Q I h;refine UnaryOp_ (Ym (d j s i H _ I h) λv s1 ⟨x,e,f,g,b⟩=>?_);obtain⟨c,rfl,b⟩:=b;cases g;exact not_of (cK ⟨.bl (!c),e,f,rfl,b⟩)
noncomputable def D5(t:TT)(ta tb:TE):TE:=λσ H Q=>t σ H λc H1=>if c=aC then ta σ H1 Q else tb σ H1 Q
theorem Lv{c:ao}(l:PT X c tA)(k:PE X a ta)(m:PE X b tb):PE X (.IfExp c a b pos) (D5 tA ta tb):=by
 intro f s e H Q I h;refine wpAny_IfExp (Ym (l f s e H _ I h) λd s1 ⟨g,i,j⟩=>?_)
 cases d with
 | true=>exact k f s1 e g Q i j
 | false=>exact m f s1 e g Q i j
end
noncomputable def SqL(K:aD)(H:Hp)(a:aG)(xs:List V):Prop:=
 Rd H a (.lst xs)\/
  ∃(o:cj) (jv:Array aF) (n:Nat),K.lookup a=aA o/\o.cls = .type "list"/\o.dict=none/\o.data = .seq jv n/\jv.size<=sizeLine/\Vals xs jv.toList
noncomputable def SqT(K:aD)(H:Hp)(a:aG)(xs:List V):Prop:=
 Rd H a (.tup xs)\/
  ∃(o:cj) (jv:Array aF) (n:Nat),K.lookup a=aA o/\o.cls = .type "tuple"/\o.data = .seq jv n/\jv.size<=sizeLine/\Vals xs jv.toList
noncomputable def De:aF->Option V
 | .none=>aA .non
 | .bool b=>aA (.bl b)
 | .int i _=>aA (.int i)
 | .str x _=>aA (.str x)
 | .bytes b _=>aA (.byt b)
 | .float b _=>aA (.flt b)
 | .ref a=>aA (.ref a)
 | .type n=>aA (.ty n)
 | _=>none
theorem RelV.abs{x:V}{u:aF}(r:RelV x u):De u=aA x:=by
 cases x with
 | non=>cases r;rfl
 | bl _=>cases r;rfl
 | int _=>obtain⟨t,rfl⟩:=r;rfl
 | str _=>obtain⟨t,rfl⟩:=r;rfl
 | byt _=>obtain⟨t,rfl⟩:=r;rfl
 | flt _=>obtain⟨t,rfl⟩:=r;rfl
 | ref _=>cases r;rfl
 | ty _=>cases r;rfl
theorem RelV.inj{x y:V}{u:aF}(r:RelV x u)(q:RelV y u):x=y:=ak (r.abs.symm.trans q.abs)
theorem Vals.inj:∀{xs ys:List V}{us:List aF},Vals xs us->Vals ys us->xs=ys
 | _,_,_,.nil,.nil=>rfl
 | _,_,_,.cons r t,.cons r' t'=>by rw[r.inj r',Vals.inj t t']
section
variable {X:Cx} {jq:List (aG×cj)} {σ:St} {H:Hp} {s:aL} {a:aG} {xs ys:List V}
theorem SqL.of{K:aD}(h:H a=aA (.lst xs)):SqL K H a xs:=.inl (.inl h)
theorem SqT.of{K:aD}(h:H a=aA (.tup xs)):SqT K H a xs:=.inl (.inl h)
theorem Inv.list(I:Inv X jq σ H s)(h:SqL X.K H a xs):∃b:List aF,Vals xs b/\PlainL s.heap a b.toArray/\xs.length<=sizeLine:=by
 rcases h with h | ⟨o,b,n,d,c,g,f,i,r⟩
 ·obtain⟨z,b,n,r,e⟩:=h.ok I.hok;exact⟨b,r,⟨_,n,e,rfl,rfl,rfl⟩,z⟩
 ·refine⟨b.toList,r,⟨o,n,I.kIn a o d,c,g,by simpa using f⟩,?_⟩;have e:=r.length;simp only[du] at e;omega
theorem Inv.tuple(I:Inv X jq σ H s)(h:SqT X.K H a xs):∃b:List aF,Vals xs b/\IsTup s.heap a b.toArray/\xs.length<=sizeLine:=by
 rcases h with h | ⟨o,b,n,d,c,f,g,r⟩
 ·obtain⟨z,b,r,p⟩:=h.ok I.hok;exact⟨b,r,p,z.1⟩
 ·refine⟨b.toList,r,⟨o,I.kIn a o d,c,n,by simpa using f⟩,?_⟩;have e:=r.length;simp only[du] at e;omega
theorem Inv.list_inj(I:Inv X jq σ H s)(h:SqL X.K H a xs)(j:SqL X.K H a ys):xs=ys:=by
 obtain⟨g,r,⟨o,n,e,_,_,d⟩,_⟩:=I.list h;obtain⟨b,i,⟨l,k,f,_,_,c⟩,_⟩:=I.list j;rw[e] at f;cases f;rw[d] at c;injection c with d1 _
 have:g=b:=by simpa using congrArg ji d1
 subst this;exact r.inj i
theorem Inv.tuple_inj(I:Inv X jq σ H s)(h:SqT X.K H a xs)(j:SqT X.K H a ys):xs=ys:=by
 obtain⟨g,r,⟨o,e,_,n,d⟩,_⟩:=I.tuple h;obtain⟨b,i,⟨l,f,_,k,c⟩,_⟩:=I.tuple j;rw[e] at f;cases f;rw[d] at c;injection c with d1 _
 have:g=b:=by simpa using congrArg ji d1
 subst this;exact r.inj i
end
abbrev Cx.wish(X:Cx)(E:aF->aL->Prop):Cx:={ X with xe:=E }
abbrev Cx.nox(X:Cx):Cx:=X.wish λ_ _=>False
theorem Cx.Ok.wish{X:Cx}(ok:X.Ok)(E:aF->aL->Prop):(X.wish E).Ok:=
 ⟨ok.mod,ok.kind,ok.glob,ok.blt,ok.above,ok.inj,ok.has,ok.cab,ok.hd,ok.frames,ok.stk,ok.exf,ok.bs,ok.bsz,ok.noex,ok.exfs,ok.funs,ok.frf,ok.tab,ok.cod⟩
theorem Cx.Ok.unwish{X:Cx}{E:aF->aL->Prop}(ok:(X.wish E).Ok):X.Ok:=
 ⟨ok.mod,ok.kind,ok.glob,ok.blt,ok.above,ok.inj,ok.has,ok.cab,ok.hd,ok.frames,ok.stk,ok.exf,ok.bs,ok.bsz,ok.noex,ok.exfs,ok.funs,ok.frf,ok.tab,ok.cod⟩
section
variable {X:Cx} {jq:List (aG×cj)} {σ:St} {H:Hp} {s:aL} {E:aF->aL->Prop}
theorem Inv.wish(I:Inv X jq σ H s)(E:aF->aL->Prop):Inv (X.wish E) jq σ H s:=⟨I.ok.wish E,I.os,I.bare,I.base,I.loc,I.cell,I.free,I.freeC,I.pin,I.hok,I.len⟩
theorem Inv.unwish(I:Inv (X.wish E) jq σ H s):Inv X jq σ H s:=⟨I.ok.unwish,I.os,I.bare,I.base,I.loc,I.cell,I.free,I.freeC,I.pin,I.hok,I.len⟩
theorem SP.unwish{D:Yv}{f:Flow}{c:aL}(h:SP (X.wish E) jq D f c):SP X jq D f c:=by
 cases f with
 | next=>obtain⟨a,b,I,q⟩:=h;exact⟨a,b,I.unwish,q⟩
 | brk=>obtain⟨a,b,I,q⟩:=h;exact⟨a,b,I.unwish,q⟩
 | cont=>obtain⟨a,b,I,q⟩:=h;exact⟨a,b,I.unwish,q⟩
 | ret u=>obtain⟨v,a,b,I,r,q⟩:=h;exact⟨v,a,b,I.unwish,r,q⟩
theorem PSs.nox{st:List ba}{t:TS}(h:PSs X.nox st t):PSs X st t:=λb s a H D I c=>
 cJ (h b s a H D (I.wish _) c) (λ_ _ q=>q.unwish) λ_ _ z=>dQ z
end
section
variable {X:Cx} {st:ba} {Z6:List ba} {t u:TS} {e:ao} {te:TE} {pos:dj}
noncomputable def Hg:TS:=λD σ H=>D.nx σ H
noncomputable def Dg(t u:TS):TS:=λD σ H=>t { D with nx:=u D } σ H
theorem Jp:PSs X [] Hg:=λ_ _ a H _ I h=>fL ⟨a,H,I,h⟩
theorem Q7(e:PS X st t)(g:PSs X Z6 u):PSs X (st::Z6) (Dg t u):=by
 intro b s c H D I h;refine wpAny_execs_cons (Ym (e b s c H { D with nx:=u D } I h) λf s1 q=>?_)
 cases f with
 | next=>
  obtain⟨a,i,d,q⟩:=q;exact g b s1 a i D d q
 | ret v=>exact q
 | brk=>exact q
 | cont=>exact q
theorem NI(b:PS X st t):PSs X [st] t:=by
 intro c s a H D I h;refine wpAny_execs_cons (Ym (b c s a H D I h) λf s1 q=>?_)
 cases f with
 | next=>exact fL q
 | ret v=>exact q
 | brk=>exact q
 | cont=>exact q
theorem Inv.quiet{b:List (aG×cj)}{a:St}{H:Hp}{s:aL}(I:Inv X b a H s):interactive X.env=aB:=by simp[interactive,I.ok.kind]
noncomputable def Lw(te:TE):TS:=λD σ H=>te σ H λ_ H1=>D.nx σ H1
theorem R7(g:PE X e te)(f:fT e none pos.line X.env=pure aB:=by rfl):PS X (.Expr e pos) (Lw te):=by intro i s a H D I h;exact wpAny_Expr_any (Ym (g i s a H _ I h) λv s1 ⟨x,d,c,j,b⟩=>⟨a,d,c,b⟩) I.quiet f
noncomputable def Dh(te:TE):TS:=λD σ H=>te σ H D.rt
theorem Lx(g:PE X e te):PS X (.Return (aA e) pos) (Dh te):=by intro i s a H D I h;exact wpAny_Return_some (Ym (g i s a H _ I h) λv s1 ⟨x,d,c,f,b⟩=>⟨x,a,d,c,f,b⟩)
noncomputable def Di(c:TT)(t u:TS):TS:=λD σ H=>c σ H λb H1=>if b=aC then t D σ H1 else u D σ H1
theorem FQ{c:ao}{a b:List ba}{j:TT}(l:PT X c j)(m:PSs X a t)(n:PSs X b u):PS X (.If c a b pos) (Di j t u):=by
 intro e s f H D I h;refine wpAny_If (Ym (l e s f H _ I h) λd s1 ⟨i,g,k⟩=>?_)
 cases d with
 | true=>exact m e s1 f i D g k
 | false=>exact n e s1 f i D g k
end
abbrev TG:=V->St->Hp->(St->Hp->Prop)->Prop
abbrev Hh:=List V->St->Hp->(St->Hp->Prop)->Prop
noncomputable def PG(X:Cx)(target:ao)(t:TG):Prop:=
 ∀(jq:List (aG×cj))(s:aL)(σ:St)(H:Hp)(v:V)(u:aF)(Q:St->Hp->Prop),Inv X jq σ H s->RelV v u->t v σ H Q->
  ay (model X.prog X.w) X.A (assign target X.env u) (λ_ s'=>∃σ' H',Inv X jq σ' H' s'/\Q σ' H') X.xe s
noncomputable def EM(X:Cx)(ts:List ao)(t:Hh):Prop:=
 ∀(jq:List (aG×cj))(s:aL)(σ:St)(H:Hp)(vs:List V)(us:List aF)(Q:St->Hp->Prop),Inv X jq σ H s->Vals vs us->t vs σ H Q->
  ay (model X.prog X.w) X.A (assignInOrder ((fW ts X.env).map (·.2)) us) (λ_ s'=>∃σ' H',Inv X jq σ' H' s'/\Q σ' H') X.xe s
abbrev Gb:=V->V->V->Hp->(Hp->Prop)->Prop
noncomputable def FR(X:Cx)(t:Gb):Prop:=
 ∀(jq:List (aG×cj))(s:aL)(σ:St)(H:Hp)(o i v:V)(ov iv u:aF)(Q:Hp->Prop),Inv X jq σ H s->RelV o ov->RelV i iv->RelV v u->t o i v H Q->
  ay (model X.prog X.w) X.A (setItem ov iv u) (λ_ s'=>∃H',Inv X jq σ H' s'/\Q H') X.xe s
section
variable {X:Cx} {pos:dj}
noncomputable def VB(i:Nat):TG:=λv σ H Q=>Q (σ.set i (aA v)) H
theorem Tp{i:Nat}{x:ah}(e:X.N.Nodup)(b:X.N[i]?=aA x)(a:Jk X.env.scope x)(c:X.fn x=aC\/X.env.scope.names.lookup x=aA .local:=by first | exact .inl rfl | exact .inr rfl | assumption):PG X (.Name x pos) (VB i):=by intro j s g H v u Q I r h;exact wpAny_assign_Name (TF I e b a r (λf d=>⟨_,H,d,h⟩) c)
noncomputable def FT:Hh:=λvs σ H Q=>vs=[]/\Q σ H
noncomputable def Hi(t:TG)(u:Hh):Hh:=λvs σ H Q=>∃v r,vs=v::r/\t v σ H λσ' H'=>u r σ' H' Q
theorem Xr:EM X [] FT:=by intro b s a H vs c Q I r h;obtain⟨e,h⟩:=h;subst e;cases r;exact assignInOrder_nil ⟨a,H,I,h⟩
theorem ZR{e:ao}{a:List ao}{t:TG}{u:Hh}(k:PG X e t)(j:EM X a u)
  (g:(fW (e::a) X.env).map (·.2)=assign e X.env::(fW a X.env).map (·.2):=by rfl):EM X (e::a) (Hi t u):=by
 intro c s m H vs n Q I r h;obtain⟨v,o,l,h⟩:=h;subst l
 cases r with
 | cons r rr=>
  rw[g];refine assignInOrder_cons (Ym (k c s m H _ _ _ I r h) λ_ s1 ⟨b,f,d,i⟩=>?_);exact j c s1 b f _ _ Q d rr i
noncomputable def FU(K:aD)(n:Nat)(t:Hh):TG:=λv σ H Q=>∃a xs,v = .ref a/\SqT K H a xs/\xs.length=n/\t xs σ H Q
theorem Wt{c:List ao}{k:Nat}{t:Hh}{n:Nat}(m:X.calm=aC)(h:EM X c t)
  (q:(fW c X.env).length=n:=by rfl) (f:(fW c X.env).findIdx? (·.1)=none:=by rfl):PG X (.Tuple c k pos) (FU X.K n t):=by
 intro w s A H v u Q I r d;obtain⟨a,l,z,y,x,d⟩:=d;subst z;cases r;obtain⟨B,g,j,C⟩:=I.tuple y;refine assign_Tuple_tuple (I.ok.hd m) j (by simp[q,<-x,g.length]) f λD p=>?_;have i:=I.kept (t':=s.toks) λb o e=>p b o (av (aP e)) e;exact h w _ A H l _ Q i (by simpa using g) d
noncomputable def Gd(to ti:TE)(t:Gb):TG:=λv σ H Q=>to σ H λo H1=>ti σ H1 λi H2=>t o i v H2 λH3=>Q σ H3
theorem Vk{o i:ao}{f e:TE}{t:Gb}(z:PE X o f)(B:PE X i e)(l:FR X t)
  (F:∀v,assign (.Subscript o i pos) X.env v=(do
   let a <-holding [v] (eval o X.env);let b <-holding [v,a] (eval i X.env)
   standAt pos
   holding [v,a,b] (setItem a b v)
   release [v,a,b] []):=by intro _;rfl):PG X (.Subscript o i pos) (Gd f e t):=by
 intro d s c H v u Q I r h;refine aI (gJ (Ym (z d s c H _ I h) λa s1 ⟨x,k,j,A,n⟩=>?_));refine aI (gJ (Ym (B d s1 c k _ j n) λb s2 ⟨y,q,p,m,C⟩=>?_));refine aI (iR (aI (gJ (Ym (l d s2 c q x y v a b u _ p A m r C) λ_ E ⟨g,D,w⟩=>?_))));exact wpAny_release ⟨c,g,D,w⟩
noncomputable def Oo(te:TE)(g:TG):TS:=λD σ H=>te σ H λx H1=>g x σ H1 D.nx
theorem Vl{a e:ao}{d:TE}{g:TG}(k:PE X e d)(p:PG X a g)(j:swapsWithSole [a] e pos.line X.env=pure aB:=by rfl)(l:swappedStores [a] e X.env=pure none:=by rfl)
  (o:(fW [a] X.env).map (·.2)=[assign a X.env]:=by rfl):PS X (.Assign [a] e pos) (Oo d g):=by
 intro b s c H D I h;refine wpAny_Assign_stores (Ym (k b s c H _ I h) λv s1 ⟨x,i,f,n,m⟩=>?_) j l;rw[o];exact Ym (p b s1 c i x v _ f n m) λ_ s2 q=>q
theorem Ge{i:Nat}{x:ah}{e:ao}{b:TE}{a:dj}(p:X.N.Nodup)(o:X.N[i]?=aA x)(j:Jk X.env.scope x)(g:PE X e b)(f:fT e (aA (.Name x a)) pos.line X.env=pure aB:=by rfl)(r:X.fn x=aC\/X.env.scope.names.lookup x=aA .local:=by first | exact .inl rfl | exact .inr rfl | assumption) :
  PS X (.Assign [.Name x a] e pos) (Oo b (VB i)):=by
 intro m s q H D I h;refine wpAny_Assign_Name (Ym (g m s q H _ I h) λv s1 ⟨y,d,c,n,k⟩=>?_) f;exact TF c p o j n (λs2 l=>⟨_,d,l,k⟩) r
end
section
variable {X:Cx} {pos:dj}
noncomputable def Gg(c:TT)(tb:TS):TS:=λD σ H=>∃W:Nat->St->Hp->Prop,(∃m,W m σ H)/\∀m σ H,W m σ H->
 c σ H λb H1=>if b=aC then ∃N:St->Hp->Prop,(∀σ' H',N σ' H'->∃m',m'<m/\W m' σ' H')/\tb { D with nx:=N,ct:=N,bk:=D.nx } σ H1 else D.nx σ H1
theorem Ly{c:ao}{e:List ba}{t:TT}{x:TS}(z:iK (model X.prog X.w) X.A X.env X.xe)(E:PT X c t)(L:PSs X e x):PS X (.While c e [] pos) (Gg t x):=by
 intro l s J H D I h;obtain⟨W,⟨G,F⟩,turn⟩:=h;refine wpAny_While (codeAny_whileLoop (λn A=>∃σ' H',Inv X l σ' H' A/\W n σ' H') ?_ G ⟨J,H,I,F⟩);rintro n s1 ⟨d,r,B,C⟩;refine dE z (Ym (E l s1 d r _ B (turn n d r C)) λb s2 ⟨w,u,j⟩=>?_)
 cases b with
 | true=>
  obtain⟨N,y,j⟩:=j;refine dE z (Ym (L l s2 d w _ u j) λf M i=>?_)
  cases f with
  | next=>
   obtain⟨a,g,q,p⟩:=i;obtain⟨o,m,k⟩:=y a g p;exact⟨o,m,a,g,q,k⟩
  | cont=>
   obtain⟨a,g,q,p⟩:=i;obtain⟨o,m,k⟩:=y a g p;exact⟨o,m,a,g,q,k⟩
  | brk=>exact i
  | ret v=>exact i
 | false=>
  exact fL ⟨d,w,u,j⟩
end
structure It where
 go:Nat->Hp->Prop
 yld:Nat->Hp->V->Hp->Prop
 stop:Nat->Hp->Prop
noncomputable def XY(X:Cx)(jq:List (aG×cj))(H:Hp)(b:aG):Prop:=
 H b=none/\b≠X.env.locals/\b∉X.fs/\(b∈X.ex\/X.s₀.heap.objs.size<=b)/\(∀x c,X.env.cells.lookup x=aA c->c≠b)/\∀p∈X.pn++jq,p.1≠b
theorem Inv.fpOk{X:Cx}{d:List (aG×cj)}{g:St}{H f:Hp}{s:aL}{b:aG}(I:Inv X d g H s)(a:s.heap.objs.size<=b)(i:f b=none):XY X d f b:=by
 refine⟨i,dk (aZ I.lt a),I.nofs a,.inr (aV I.sz a),λx c e z=>?_,λp h z=>?_⟩
 ·obtain⟨v,q⟩:=I.cell x c e;exact absurd (aZ q.lt (by rw[z];exact a)) (bh _)
 ·exact absurd (aZ (aP (I.pin p h).1) (by rw[z];exact a)) (bh _)
structure R8(P:bI)(w:br)(K:aD)(tg:ao)(J:It)(fp:List aG)(it:aG)(tn:Nat->bR->Prop):Prop where
 mem:it∈fp
 obj:∀i h,tn i h->∀b∈fp,∃o,h.get? b=aA o/\∀v,o.data≠.cell v
 keep:∀i h h',tn i h->(∀b∈fp,∀o,h.get? b=aA o->h'.get? b=aA o)->tn i h'
 item:∀(X:Cx),X.prog=P->X.w=w->X.K=K->X.calm=aC->∀(i:Nat)(jq:List (aG×cj))(s:aL)(σ:St)(H:Hp)(E:aF->aL->Prop),Inv X jq σ H s->(∀b∈fp,XY X jq H b)->tn i s.heap->J.go i H->
  ay (model P w) X.A (jj (.ref it)) (λr s1=>∃u,r=aA u/\
   ay (model P w) X.A (gk tg (.ref it) u) (λ_ s2=>∃x H',Inv X jq σ H' s2/\RelV x u/\J.yld i H x H'/\tn (i+1) s2.heap/\∀b∈fp,H' b=none) E s1) E s
 done:∀(X:Cx),X.prog=P->X.w=w->X.K=K->X.calm=aC->∀(i:Nat)(jq:List (aG×cj))(s:aL)(σ:St)(H:Hp)(E:aF->aL->Prop),Inv X jq σ H s->(∀b∈fp,XY X jq H b)->tn i s.heap->J.stop i H->
  ay (model P w) X.A (jj (.ref it)) (λr s1=>r=none/\Inv X jq σ H s1) E s
 self:∀(A:bc)(i:Nat)(s:aL)(Q:aF->aL->Prop)(E:aF->aL->Prop),tn i s.heap->Q (.ref it) s->ay (model P w) A (pyIter (.ref it)) Q E s
abbrev TI:=St->Hp->(It->Hp->Prop)->Prop
noncomputable def DP(X:Cx)(jq:List (aG×cj))(σ:St)(tg:ao)(R:It->Hp->Prop)(itv:aF)(s2:aL):Prop:=
 ∃(it:aG) (fp:List aG) (tn:Nat->bR->Prop) (J:It) (H':Hp),itv = .ref it/\Inv X jq σ H' s2/\R8 X.prog X.w X.K tg J fp it tn/\tn 0 s2.heap/\(∀b∈fp,XY X jq H' b)/\R J H'
noncomputable def PI(X:Cx)(tg iter:ao)(wi:TI):Prop:=
 ∀(jq:List (aG×cj))(s:aL)(σ:St)(H:Hp)(R:It->Hp->Prop),Inv X jq σ H s->wi σ H R->
  ay (model X.prog X.w) X.A (eval iter X.env) (λv s1=>ay (model X.prog X.w) X.A (pyIter v) (DP X jq σ tg R) X.xe s1) X.xe s
theorem Lz{M:Model}{A:bc}{E:aF->aL->Prop}{s:aL}{c:ao}{b:aG}{u:aF}{o:cj}{n:String}{vs:Array aF}{Q:Unit->aL->Prop}(d:s.heap.get? b=aA o)(e:o.cls = .type n)(g:o.data = .fields vs)
    (f:["enumerate","zip","dict_itemiterator","dict_reverseitemiterator","odict_iterator","itertools.zip_longest","itertools.pairwise"].contains n=aB) (a:Q () s):ay M A (gk c (.ref b) u) Q E s:=by
  cases c<;>first
    | exact ag a
    | (cases u<;>first
        | exact ag a
        | (refine aI (wpAny_load d ?_)
           rw[e,g];show ay M A (if(["enumerate","zip","dict_itemiterator","dict_reverseitemiterator","odict_iterator","itertools.zip_longest","itertools.pairwise"].contains n&&vs[0]?==aA (gx _))=aC then _ else _) Q E s;rw[jx (by intro h;rw[f] at h;cases h)];exact ag a))
noncomputable def Dj(K:aD)(a:aG):It:=
 ⟨λi H=>∃xs x,SqL K H a xs/\xs[i]?=aA x,λi H x H'=>H'=H/\∀xs,SqL K H a xs->xs[i]?=aA x,λi H=>∃xs,SqL K H a xs/\xs.length<=i⟩
noncomputable def DQ(K:aD)(a:aG):It:=
 ⟨λi H=>∃xs x,SqT K H a xs/\xs[i]?=aA x,λi H x H'=>H'=H/\∀xs,SqT K H a xs->xs[i]?=aA x,λi H=>∃xs,SqT K H a xs/\xs.length<=i⟩
noncomputable def FV(lo:Int)(n:Nat):It:=⟨λi _=>i<n,λi H x H'=>H'=H/\x = .int (lo+i),λi _=>n<=i⟩
theorem Mu{P:bI}{w:br}{K:aD}{M:ao}(a f:aG):R8 P w K M (Dj K a) [f] f (λi h=>h.IsListIter f a i) where
 mem:=by simp
 obj:=λi h st b g=>by
  have e:b=f:=by simpa using g
  subst e;obtain⟨o,e,c,d⟩:=st;exact⟨o,e,λv z=>by rw[d] at z;cases z⟩
 keep:=λi h J st k=>st.at λo e=>k f (by simp) o e
 item:=by intro X F q n G i R s Z H E I m st D;subst F q n;obtain⟨O,x,l,r⟩:=D;obtain⟨U,A,p,W⟩:=I.list l;obtain⟨u,Q,Y⟩:=A.get r;obtain⟨y,f1,f2,C,t,B⟩:=m f (by simp);refine wpAny_pyNext_list_item st p.isList (by simpa using Q) λJ j N=>?_;have L:=I.turned (t':=s.toks) (λb o g e=>(N.2 b g).trans e) y f1 C t B;obtain⟨o,e,c,d⟩:=id j;exact⟨u,rfl,Lz e c d rfl ⟨x,H,L,Y,⟨rfl,λys S=>by rw[I.list_inj S l];exact r⟩,j,λb g=>(m b g).1⟩⟩
 done:=by intro X F q n G i R s Z H E I m st D;subst F q n;obtain⟨O,l,r⟩:=D;obtain⟨U,A,p,W⟩:=I.list l;obtain⟨y,f1,f2,C,t,B⟩:=m f (by simp);have hl:=A.length;exact wpAny_pyNext_list_end (I.ok.hd G) st p.isList (by simp;omega) λJ T=>⟨rfl,I.turned (λb o g e=>T b o g e) y f1 C t B⟩
 self:=λ_ _ _ _ _ st h=>wpAny_pyIter_listiter st h
theorem Oq{P:bI}{w:br}{K:aD}{M:ao}(a f:aG):R8 P w K M (DQ K a) [f] f (λi h=>h.IsTupleIter f a i) where
 mem:=by simp
 obj:=λi h st b g=>by
  have e:b=f:=by simpa using g
  subst e;obtain⟨o,e,c,d⟩:=st;exact⟨o,e,λv z=>by rw[d] at z;cases z⟩
 keep:=λi h J st k=>st.at λo e=>k f (by simp) o e
 item:=by intro X F q n G i R s Z H E I m st D;subst F q n;obtain⟨O,x,l,r⟩:=D;obtain⟨U,A,p,W⟩:=I.tuple l;obtain⟨u,Q,Y⟩:=A.get r;obtain⟨y,f1,f2,C,t,B⟩:=m f (by simp);refine wpAny_pyNext_tuple_item st (p) (by simpa using Q) λJ j N=>?_;have L:=I.turned (t':=s.toks) (λb o g e=>(N.2 b g).trans e) y f1 C t B;obtain⟨o,e,c,d⟩:=id j;exact⟨u,rfl,Lz e c d rfl ⟨x,H,L,Y,⟨rfl,λys S=>by rw[I.tuple_inj S l];exact r⟩,j,λb g=>(m b g).1⟩⟩
 done:=by intro X F q n G i R s Z H E I m st D;subst F q n;obtain⟨O,l,r⟩:=D;obtain⟨U,A,p,W⟩:=I.tuple l;obtain⟨y,f1,f2,C,t,B⟩:=m f (by simp);have hl:=A.length;exact wpAny_pyNext_tuple_end (I.ok.hd G) st (p) (by simp;omega) λJ T=>⟨rfl,I.turned (λb o g e=>T b o g e) y f1 C t B⟩
 self:=λ_ _ _ _ _ st h=>wpAny_pyIter_tupleiter st h
theorem Ot{P:bI}{w:br}{K:aD}{D:ao}(a:aG)(lo:Int)(n:Nat):R8 P w K D (FV lo n) [a] a (λi h=>IsRangeIter h a (lo+(i:Nat)*1) ((n:Int)-(i:Nat)) 1) where
 mem:=by simp
 obj:=λi h st b c=>by
  have e:b=a:=by simpa using c
  subst e
  exact⟨_,st,λv z=>by
   have G:=z;cases G⟩
 keep:=λi h p st k=>k a (by simp) _ st
 item:=by intro X B x u g i y s A H E I f st r;subst B x u;obtain⟨l,f1,f2,q,j,m⟩:=f a (by simp);have W:=Walks.range (prog:=X.prog) (w:=X.w) (I.ok.hd g) a lo 1 n;refine W.item i s _ _ r st λv p tk J d kk=>?_;obtain⟨t,rfl⟩:=J;have C:Inv X y A H { s with heap:=p,toks:=tk }:=I.turned (λb o c e=>kk b o (by simpa using c) e) l f1 q j m;refine⟨_,rfl,Lz d rfl rfl rfl ⟨.int (lo+i),H,C,⟨t,?_⟩,⟨rfl,rfl⟩,d,λb c=>(f b c).1⟩⟩;rw[fE]
 done:=by intro X B x u g i y s A H E I f st r;obtain⟨l,f1,f2,q,j,m⟩:=f a (by simp);exact wpAny_pyNext_range_end (I.ok.hd g) st (by have:n<=i:=r;omega) λp F=>⟨rfl,I.turned (λb o c e=>F b o c e) l f1 q j m⟩
 self:=λ_ _ _ _ _ st h=>wpAny_pyIter_rangeiter st h
section
variable {X:Cx} {tg:ao}
noncomputable def FW(K:aD)(tl:TE):TI:=λσ H R=>tl σ H λx H1=>∃a,x = .ref a/\(∃xs,SqL K H1 a xs)/\R (Dj K a) H1
noncomputable def Dk(K:aD)(tl:TE):TI:=λσ H R=>tl σ H λx H1=>∃a,x = .ref a/\(∃xs,SqT K H1 a xs)/\R (DQ K a) H1
theorem Jq{l:ao}{d:TE}(k:PE X l d):PI X tg l (FW X.K d):=by
 intro i s n H R I h;refine Ym (k i s n H _ I h) λv s1 ⟨x,f,c,j,g⟩=>?_;obtain⟨a,e,⟨t,m⟩,q⟩:=g;subst e;cases j;obtain⟨w,u,p,y⟩:=c.list m;refine wpAny_pyIter_list p.isList ?_;refine⟨s1.heap.objs.size,[s1.heap.objs.size],_,_,f,rfl,c.kept λb o e=>aE _ e,Mu a _,⟨_,aX _ rfl,rfl,rfl⟩,λb r=>?_,q⟩;have e:b=s1.heap.objs.size:=by simpa using r
 subst e;exact c.fpOk (aH _) (c.hok.fresh (aH _))
theorem Gh{l:ao}{d:TE}(k:PE X l d):PI X tg l (Dk X.K d):=by
 intro i s n H R I h;refine Ym (k i s n H _ I h) λv s1 ⟨x,f,c,j,g⟩=>?_;obtain⟨a,e,⟨t,m⟩,q⟩:=g;subst e;cases j;obtain⟨w,u,p,y⟩:=c.tuple m;refine iW (p) ?_;refine⟨s1.heap.objs.size,[s1.heap.objs.size],_,_,f,rfl,c.kept λb o e=>aE _ e,Oq a _,⟨_,aX _ rfl,rfl,rfl⟩,λb r=>?_,q⟩;have e:b=s1.heap.objs.size:=by simpa using r
 subst e;exact c.fpOk (aH _) (c.hok.fresh (aH _))
theorem Q8{d:List (aG×cj)}{f:St}{H:Hp}{s:aL}{R:It->Hp->Prop}{E:aF->aL->Prop}{lo a:Int}{t u v:Tok}{tk:Nat}(I:Inv X d f H s)(j : -(2^62)<=lo)(i:lo<2^62)(k : -(2^62)<=a)(h:a<2^62)
  (q:R (FV lo (a-lo).toNat) H):ay (model X.prog X.w) X.A (pyIter (.ref s.heap.objs.size)) (DP X d f tg R) E { s with heap:=s.heap.push { cls:=.type "range",data:=.fields #[.int lo t,.int a u,.int 1 v] },toks:=tk }:=by
 refine wpAny_pyIter_range (IsRange.new ..) (small_one j i k h) ?_;have c:Inv X d f H { s with heap:=s.heap.push { cls:=.type "range",data:=.fields #[.int lo t,.int a u,.int 1 v] },toks:=tk }:=I.kept λb o e=>aE _ e
 refine⟨(s.heap.push { cls:=.type "range",data:=.fields #[.int lo t,.int a u,.int 1 v] }).objs.size,[(s.heap.push { cls:=.type "range",data:=.fields #[.int lo t,.int a u,.int 1 v] }).objs.size],_,_,H,rfl,
  c.kept λb o e=>aE _ e,Ot _ lo (a-lo).toNat,?_,λb m=>?_,q⟩
 ·have l:lo+((0:Nat):Int)*1=lo:=by simp
  have g:(((a-lo).toNat:Nat):Int)-((0:Nat):Int)=iN.Range.rangeSize lo a 1:=by rw[rangeSize_one];split<;>omega
  rw[l,g];exact aX _ rfl
 ·have e:b=(s.heap.push { cls:=.type "range",data:=.fields #[.int lo t,.int a u,.int 1 v] }).objs.size:=by simpa using m
  subst e;exact c.fpOk (aH _) (c.hok.fresh (aH _))
noncomputable def FX(ta:TA):TI:=λσ H R=>ta σ H λvs H1=>∃j:Int,vs=[.int j]/\-(2^62)<=j/\j<2^62/\R (FV 0 j.toNat) H1
noncomputable def FY(ta:TA):TI:=λσ H R=>ta σ H λvs H1=>∃i j:Int,vs=[.int i,.int j]/\(-(2^62)<=i/\i<2^62/\-(2^62)<=j/\j<2^62)/\R (FV i (j-i).toNat) H1
theorem Mv{a:ao}{d:TA}{p b:dj}(u:Gl X "range")(k:X.mg "range" = none)(l:PA X [a] d)(g:aS [a] X.env=[(aB,eval a X.env)]:=by rfl):PI X tg (.Call (.Name "range" p) [a] [] b) (FX d):=by
 intro i s o H R I h;refine Call_ (Vj I u k boot_range (cG (Ym (l b i s o H _ I h) λw s1 ⟨vs,v,f,m,c⟩=>?_) g rfl));obtain⟨j,e,c,n,q⟩:=c;subst e
 cases m with
 | cons r rr=>
  cases rr;obtain⟨t,rfl⟩:=r;exact call_range_1 (Q8 f (by omega) (by omega) c n (by simpa using q))
theorem Mw{a b:ao}{g:TA}{p c:dj}(z:Gl X "range")(n:X.mg "range" = none)(u:PA X [a,b] g)(l:aS [a,b] X.env=[(aB,eval a X.env),(aB,eval b X.env)]:=by rfl)(d:aS [b] X.env=[(aB,eval b X.env)]:=by rfl) :
  PI X tg (.Call (.Name "range" p) [a,b] [] c) (FY g):=by
 intro m s y H R I h;refine Call_ (Vj I z n boot_range (cG (Ym (u c m s y H _ I h) λB s1 ⟨vs,A,k,v,f⟩=>?_) (by rw[l,d]) (by rw[d];rfl)));obtain⟨i,j,e,⟨f,w,o,x⟩,q⟩:=f;subst e
 cases v with
 | cons r rr=>
  cases rr with
  | cons r' rr=>
   cases rr;obtain⟨t,rfl⟩:=r;obtain⟨t',rfl⟩:=r';exact call_range_2 (Q8 k f w o x q)
noncomputable def Dl(wi:TI)(g:TG)(tb:TS):TS:=λD σ H=>wi σ H λJ H1=>∃W:Nat->Nat->St->Hp->Prop,(∃m,W 0 m σ H1)/\∀i m σ H,W i m σ H->
 (J.stop i H/\D.nx σ H)\/(J.go i H/\∃N:St->Hp->Prop,(∀σ' H',N σ' H'->∃m',m'<m/\W (i+1) m' σ' H')/\∀x H',J.yld i H x H'->g x σ H' λσ2 H2=>tb { D with nx:=N,ct:=N,bk:=D.nx } σ2 H2)
noncomputable def Ui(fp:List aG)(h:bR):List (aG×cj):=fp.filterMap λb=>(h.get? b).map λo=>(b,o)
theorem XZ{a:List aG}{h:bR}{b:aG}{o:cj}(c:b∈a)(e:h.get? b=aA o):(b,o)∈Ui a h:=iX.mpr ⟨b,c,by rw[e];rfl⟩
theorem Mx{a:List aG}{h:bR}{p:aG×cj}(d:p∈Ui a h):p.1∈a/\h.get? p.1=aA p.2:=by
 obtain⟨b,f,e⟩:=iX.mp d
 cases q:h.get? b with
 | none=>rw[q] at e;cases e
 | some o=>
  rw[q] at e;have c:=ak e;subst c;exact⟨f,q⟩
theorem Inv.pinned{c:List (aG×cj)}{g:St}{H:Hp}{s:aL}{a:List aG}(I:Inv X c g H s)(j:∀b∈a,XY X c H b)(i:∀b∈a,∃o,s.heap.get? b=aA o/\∀v,o.data≠.cell v):Inv X (c++Ui a s.heap) g H s:=
 I.pins_of λp k=>(bj.mp k).elim (λz=>I.pin p (aa _ z)) λz=>by obtain⟨h,e⟩:=Mx z;obtain⟨l,f1,f2,_⟩:=j p.1 h;obtain⟨o,f,d⟩:=i p.1 h;rw[e] at f;cases f;exact⟨e,l,f1,f2,d⟩
theorem Inv.unpinned{b d:List (aG×cj)}{a:St}{H:Hp}{s:aL}(I:Inv X (b++d) a H s):Inv X b a H s:=I.pins_of λp c=>I.pin p (aa _ (bO _ c))
theorem Gi{l:ao}{w:List ba}{wi:TI}{g:TG}{tb:TS}{S:dj}(F:iK (model X.prog X.w) X.A X.env X.xe)(hc:X.calm=aC)(hi:PI X tg l wi)(hg:PG X tg g)(p:PSs X w tb)
  (hs:∀x,bQ l X.env x=pure x:=by intro _;rfl):PS X (.For tg l w [] S) (Dl wi g tb):=by
 intro y s σ H D I h;refine wpAny_For (Ym (hi y s σ H _ I h) λv s1 h1=>Ym h1 λitv s2 h2=>?_) hs;obtain⟨it,C,Z,J,H2,e,I2,T,O,f2,W,⟨m0,w0⟩,turn⟩:=h2;subst e
 -- what stays aC of the iterator's objects through the loop
 have q:∀{H':Hp},(∀b∈C,H' b=none)->∀b∈C,XY X y H' b:=λhn b p=>⟨hn b p,(f2 b p).2⟩;refine codeAny_forLoop_any (λn s'=>∃i σ' H',Inv X y σ' H' s'/\Z i s'.heap/\(∀b∈C,H' b=none)/\W i n σ' H') ?_ m0 ⟨0,σ,H2,I2,O,λb p=>(f2 b p).1,w0⟩;rintro n Y ⟨i,j,L,I3,A,G,w3⟩;rcases turn i n j L w3 with⟨B,qn⟩ | ⟨go,N,hN,step⟩
 ·refine dE F (Ym (T.done X rfl rfl rfl hc i y Y j L X.xe I3 (q G) A B) λr s4 ⟨M,I4⟩=>?_);subst M;exact fL ⟨j,L,I4,qn⟩
 ·refine dE F (Ym (T.item X rfl rfl rfl hc i y Y j L X.xe I3 (q G) A go) λr s4 ⟨u,M,h4⟩=>?_);subst M;refine dE F (Ym h4 λ_ s5 ⟨x,H5,I5,r5,y5,z,P⟩=>?_);have Q:=I5.pinned (q P) (T.obj _ _ z);refine dE F (Ym (hg _ s5 j H5 x u _ Q r5 (step x H5 y5)) λ_ s6 ⟨R,H6,I6,q6⟩=>?_);refine dE F (Ym (p _ s6 R H6 _ I6 q6) λf U t=>?_);have again:∀{a:St}{c:Hp},Inv X (y++Ui C s5.heap) a c U->N a c->∃m,m<n/\∃i σ' H',Inv X y σ' H' U/\Z i U.heap/\(∀b∈C,H' b=none)/\W i m σ' H':=λ{a c} k E=>by obtain⟨m',hm,w7⟩:=hN a c E;refine⟨m',hm,i+1,a,c,k.unpinned,T.keep _ _ _ z λb p o e=>(k.pin (b,o) (aa _ (aa _ (XZ p e)))).1,λb p=>?_,w7⟩;obtain⟨o,e,d⟩:=T.obj _ _ z b p;exact(k.pin (b,o) (aa _ (aa _ (XZ p e)))).2.1
  cases f with
  | next=>obtain⟨a,c,k,E⟩:=t;exact again k E
  | cont=>obtain⟨a,c,k,E⟩:=t;exact again k E
  | brk=>obtain⟨a,c,k,t⟩:=t;exact⟨a,c,k.unpinned,t⟩
  | ret v=>obtain⟨x7,a,c,k,r7,t⟩:=t;exact⟨x7,a,c,k.unpinned,r7,t⟩
end
abbrev R2:=V->V->Hp->VK->Prop
noncomputable def Uh(X:Cx)(f:aF->aF->Sem aF)(r:R2):Prop:=
 ∀(jq:List (aG×cj))(s:aL)(σ:St)(H:Hp)(x y:V)(v u:aF)(Q:VK),Inv X jq σ H s->RelV x v->RelV y u->r x y H Q->
  ay (model X.prog X.w) X.A (f v u) (EP X jq σ Q) X.xe s
noncomputable def Dm(X:Cx)(f:aF->Sem aF)(r:V->Hp->VK->Prop):Prop:=
 ∀(jq:List (aG×cj))(s:aL)(σ:St)(H:Hp)(x:V)(v:aF)(Q:VK),Inv X jq σ H s->RelV x v->r x H Q->
  ay (model X.prog X.w) X.A (f v) (EP X jq σ Q) X.xe s
noncomputable def Y3(X:Cx)(f:aF)(r:List V->Hp->VK->Prop):Prop:=
 ∀(jq:List (aG×cj))(s:aL)(σ:St)(H:Hp)(xs:List V)(us:List aF)(Q:VK),Inv X jq σ H s->Vals xs us->r xs H Q->
  ay (model X.prog X.w) X.A (call f us) (EP X jq σ Q) X.xe s
noncomputable def Dn(X:Cx)(r:V->Hp->(Bool->Hp->Prop)->Prop):Prop:=
 ∀(jq:List (aG×cj))(s:aL)(σ:St)(H:Hp)(x:V)(v:aF)(Q:Bool->Hp->Prop),Inv X jq σ H s->RelV x v->r x H Q->
  ay (model X.prog X.w) X.A (truthy v) (TP X jq σ Q) X.xe s
noncomputable def FA(r:R2)(ta tb:TE):TE:=λσ H Q=>ta σ H λx H1=>tb σ H1 λy H2=>r x y H2 Q
noncomputable def D6(r:V->Hp->VK->Prop)(ta:TE):TE:=λσ H Q=>ta σ H λx H1=>r x H1 Q
noncomputable def rI(C:Int->Int->Prop)(g:Int->Int->V):R2:=λx y H Q=>∃i j,x = .int i/\y = .int j/\C i j/\Q (g i j) H
noncomputable def Hj(g:Int->Int->V):R2:=λx y H Q=>∃i j,x = .int i/\y = .int j/\Q (g i j) H
noncomputable def rU(g:Int->V):V->Hp->VK->Prop:=λx H Q=>∃i,x = .int i/\Q (g i) H
section
variable {X:Cx} {a b c:ao} {ta tb tc:TE} {pos:dj}
theorem Gj(o:PE X a ta)(t:PE X b tb){i:List (aG×cj)}{s:aL}{d:St}{H:Hp}{R:V->V->Hp->Prop}(I:Inv X i d H s)
  (h:ta d H λx j=>tb d j λy c=>R x y c) {Q:aF->aL->Prop} {f:aF->aF->Sem aF}
  (r:∀v u s2 x y c,Inv X i d c s2->RelV x v->RelV y u->R x y c->ay (model X.prog X.w) X.A (f v u) Q X.xe s2) :
  ay (model X.prog X.w) X.A (eval a X.env) (λv g=>ay (model X.prog X.w) X.A (eval b X.env) (λu e=>ay (model X.prog X.w) X.A (f v u) Q X.xe e) X.xe g) X.xe s:=by
 refine Ym (o i s d H _ I h) λv s1 ⟨x,j,k,p,m⟩=>?_;refine Ym (t i s1 d j _ k m) λu s2 ⟨y,c,n,l,q⟩=>?_;exact r v u s2 x y c n p l q
theorem LA{op:Operator}{r:R2}(j:Uh X (cX op) r)(i:PE X a ta)(l:PE X b tb):PE X (.BinOp a op b pos) (FA r ta tb):=by intro e s k H Q I h;exact wpAny_BinOp (Gj i l I h λv u s2 x y f d c g q=>j e s2 k f x y v u Q d c g q)
theorem FZ{op:UnaryOp}{r:V->Hp->VK->Prop}(e:Dm X (unaryOp op) r)(d:PE X a ta):PE X (.UnaryOp op a pos) (D6 r ta):=by intro c s b H Q I h;exact UnaryOp_ (Ym (d c s b H _ I h) λv s1 ⟨x,f,g,i,j⟩=>e c s1 b f x v Q g i j)
theorem Gk{f:aF->aF->Sem aF}{C:Int->Int->Prop}{g:Int->Int->Int}
  (rule:∀(i j:Int)(t u:Tok)(s:aL)(Q:aF->aL->Prop)(E:aF->aL->Prop),C i j->Q (.int (g i j) s.toks) { s with toks:=s.toks+1 }->ay (model X.prog X.w) X.A (f (.int i t) (.int j u)) Q E s) :
  Uh X f (rI C λi j=>.int (g i j)):=by
 intro d s e H x y v u Q I a c h;obtain⟨i,j,rfl,rfl,b,q⟩:=h;obtain⟨t,rfl⟩:=a;obtain⟨t',rfl⟩:=c;exact rule i j t t' s _ _ b ⟨.int (g i j),H,I.tok _,⟨_,rfl⟩,q⟩
theorem F0{f:aF->aF->Sem aF}{g:Int->Int->Int}
  (rule:∀(i j:Int)(t u:Tok)(s:aL)(Q:aF->aL->Prop)(E:aF->aL->Prop),Q (.int (g i j) s.toks) { s with toks:=s.toks+1 }->ay (model X.prog X.w) X.A (f (.int i t) (.int j u)) Q E s) :
  Uh X f (Hj λi j=>.int (g i j)):=by
 intro c s d H x y v u Q I a b h;obtain⟨i,j,rfl,rfl,q⟩:=h;obtain⟨t,rfl⟩:=a;obtain⟨t',rfl⟩:=b;exact rule i j t t' s _ _ ⟨.int (g i j),H,I.tok _,⟨_,rfl⟩,q⟩
theorem F1{f:aF->aF->Sem aF}{g:Int->Int->Bool}
  (rule:∀(i j:Int)(t u:Tok)(s:aL)(Q:aF->aL->Prop)(E:aF->aL->Prop),Q (.bool (g i j)) s->ay (model X.prog X.w) X.A (f (.int i t) (.int j u)) Q E s) :
  Uh X f (Hj λi j=>.bl (g i j)):=by
 intro c s d H x y v u Q I a b h;obtain⟨i,j,rfl,rfl,q⟩:=h;obtain⟨t,rfl⟩:=a;obtain⟨t',rfl⟩:=b;exact rule i j t t' s _ _ ⟨.bl (g i j),H,I,rfl,q⟩
noncomputable def Ou(i j:Int):Prop:=0<j/\j<1073741824
noncomputable def Hk(i j:Int):Prop:=j≠0/\j.natAbs<1073741824
noncomputable def Ov(i j:Int):Prop:=0<=j/\j<=1000000/\i.natAbs<2^64
noncomputable def CMul(i j:Int):Prop:=(-(2^64)<i/\i<2^64)\/(-(2^64)<j/\j<2^64)
theorem CMul.ok{i j:Int}(h:CMul i j):IntMulOk i j:=by
 rcases h with⟨a,b⟩ | ⟨a,b⟩
 ·exact .of_left (intBits_le_64 a b)
 ·exact .of_right (intBits_le_64 a b)
theorem Gm:Uh X (cX .Add) (Hj λi j=>.int (i+j)):=F0 λ_ _ _ _ _ _ _ q=>add_int q
theorem Gn:Uh X (cX .Sub) (Hj λi j=>.int (i-j)):=F0 λ_ _ _ _ _ _ _ q=>sub_int q
theorem Gp:Uh X (cX .Mult) (rI CMul λi j=>.int (i*j)):=Gk λ_ _ _ _ _ _ _ a q=>mul_int q a.ok
theorem Jr:Uh X (cX .FloorDiv) (rI Ou λi j=>.int (i/j)):=Gk λi j _ _ _ _ _ a q=>by have b:=a.1;have c:=a.2;exact ik (by omega) (by rw[fX i (by omega)];exact q) (.inl (PyProof.noPylong_small (by omega)))
theorem Gq:Uh X (cX .Mod) (rI (λ_ j=>0<j) λi j=>.int (i%j)):=Gk λi j _ _ _ _ _ a q=>by exact mod_int' (by omega) (by rw[Int.fmod_eq_emod_of_nonneg i (by omega)];exact q)
theorem Js:Uh X (cX .Mod) (rI (λ_ j=>j≠0) λi j=>.int (i.fmod j)):=Gk λ_ _ _ _ _ _ _ a q=>mod_int' a q
theorem Gr:Uh X (cX .Pow) (rI Ov λi j=>.int (i^j.toNat)):=Gk λ_ _ _ _ _ _ _ a q=>pow_int_small a.1 a.2.1 a.2.2 q
theorem D7{f:aF->Sem aF}{g:Int->Int}
  (rule:∀(i:Int)(t:Tok)(s:aL)(Q:aF->aL->Prop)(E:aF->aL->Prop),Q (.int (g i) s.toks) { s with toks:=s.toks+1 }->ay (model X.prog X.w) X.A (f (.int i t)) Q E s) :
  Dm X f (rU λi=>.int (g i)):=by
 intro c s b H x v Q I a h;obtain⟨i,rfl,q⟩:=h;obtain⟨t,rfl⟩:=a;exact rule i t s _ _ ⟨.int (g i),H,I.tok _,⟨_,rfl⟩,q⟩
theorem Gs:Dm X (unaryOp .USub) (rU λi=>.int (-i)):=D7 λ_ _ _ _ _ q=>neg_int q
end
section
variable {X:Cx} {a b c:ao} {ta tb tc:TE} {pos:dj}
theorem F2:Uh X (eI .Lt) (Hj λi j=>.bl (decide (i<j))):=F1 λ_ _ _ _ _ _ _ q=>lt_int q
theorem F3:Uh X (eI .Gt) (Hj λi j=>.bl (decide (j<i))):=F1 λ_ _ _ _ _ _ _ q=>gt_int q
theorem Uj(b:ao){op:j5}(h:op≠.In:=by decide)(d:op≠.NotIn:=by decide):cq op b=aB:=by
 have c:(op==j5.In)=aB:=by cases op<;>first | rfl | exact absurd rfl h
 have a:(op==j5.NotIn)=aB:=by cases op<;>first | rfl | exact absurd rfl d
 cases b<;>simp[cq,c,a]
theorem Jt{op:j5}{r:R2}(k:Uh X (eI op) r)(j:PE X a ta)(m:PE X b tb)(f:cq op b=aB):PE X (.Compare a [op] [b] pos) (FA r ta tb):=by intro e s l H Q I h;exact wpAny_Compare1 (Gj j m I h λv u s2 x y g d c i q=>k e s2 l g x y v u Q d c i q) f
noncomputable def NJ(t:TE):TT:=λσ H Q=>t σ H λx H'=>∃k,x = .bl k/\Q k H'
theorem Ju{op:j5}{r:R2}(A:Uh X (eI op) r)(w:PE X a ta)(E:PE X b tb)(p:cq op b=aB):PT X (.Compare a [op] [b] pos) (NJ (FA r ta tb)):=by
 intro d s f H Q I h
 refine gu (Ym (w d s f H _ I h) λv s1 ⟨x,j,i,B,m⟩=>Ym (E d s1 f j _ i m) λu s2 ⟨y,q,n,l,C⟩=>
  Ym (A d s2 f q x y v u _ n B l C) λc F ⟨z,g,D,o,k,e,t⟩=>?_) p
 subst e;cases o;exact cK ⟨g,D,t⟩
noncomputable def Dp(K:aD)(x:V)(H:Hp)(k:Bool):Prop:=
 match x with
 | .non=>k=aB
 | .bl b=>k=b
 | .int i=>k=(i != 0)
 | .str y=>y.length<=sizeLine/\k=((y.length:Int) != 0)
 | .byt y=>y.size<=sizeLine/\k=((y.size:Int) != 0)
 | .ref p=>(∃xs,SqL K H p xs/\k = !xs.isEmpty)\/(∃xs,SqT K H p xs/\k = !xs.isEmpty)\/∃jr,H p=aA (.dK jr)/\k = !jr.isEmpty
 | _=>False
theorem Ox{a:Type}{b:List (a×V)}{vs:List (a×aF)}(r:KV b vs):(!vs.isEmpty) = !b.isEmpty:=by cases r<;>rfl
theorem TH{a:List V}{b:List aF}(r:Vals a b):(!b.toArray.isEmpty) = !a.isEmpty:=by cases r<;>simp
theorem R9:(sizeLine:Nat)<2^63:=by rw[gy];decide
theorem tru_ok:Dn X (λx H Q=>∃k,Dp X.K x H k/\Q k H):=by
 intro A s B H x v Q I d h;obtain⟨k,e,q⟩:=h;have w:=gy
 cases x with
 | non=>
  cases d;have a:=e;subst a;exact truthy_none ⟨H,I,q⟩
 | bl b=>
  cases d;have a:=e;subst a;exact cK ⟨H,I,q⟩
 | int i=>
  obtain⟨t,rfl⟩:=d;have a:=e;subst a;exact PySem.P.truthy_int ⟨H,I,q⟩
 | str y=>
  obtain⟨t,rfl⟩:=d;obtain⟨o,a⟩:=e;subst a;exact PySem.P.truthy_str (by omega) ⟨H,I.tok _,q⟩
 | byt y=>
  obtain⟨t,rfl⟩:=d;obtain⟨o,a⟩:=e;subst a;exact PySem.W.truthy_bytes (by omega) ⟨H,I.tok _,q⟩
 | ref p=>
  cases d;have a:=e;rcases a with⟨n,f,a⟩ | ⟨n,f,a⟩ | ⟨z,f,a⟩
  ·subst a;obtain⟨u,r,g,j⟩:=I.list f;have c:=r.length;exact wpAny_truthy_list g.isList (by simp only[aO];omega) ⟨H,I.tok _,by rw[TH r];exact q⟩
  ·subst a;obtain⟨u,r,g,j⟩:=I.tuple f;have c:=r.length;exact truthy_tuple g (by simp only[aO];omega) ⟨H,I.tok _,by rw[TH r];exact q⟩
  ·subst a;obtain⟨j,l,vs,r,m⟩:=I.hok p _ f;have c:=Paired.length r;exact wpAny_truthy_dict l m (by omega) ⟨H,I.tok _,by rw[Ox r];exact q⟩
 | _=>exact(e).elim
theorem U2{x:V}{a:List aF}(r:Vals [x] a):∃u,a=[u]/\RelV x u:=by
 cases r with
 | cons r1 r2=>cases r2;exact⟨_,rfl,r1⟩
theorem Hl{x y:V}{a:List aF}(r:Vals [x,y] a):∃u w',a=[u,w']/\RelV x u/\RelV y w':=by
 cases r with
 | cons r1 r2=>
  cases r2 with
  | cons r3 r4=>cases r4;exact⟨_,_,rfl,r1,r3⟩
theorem Q9:Y3 X (.builtin "abs") (λa H Q=>∃i,a=[.int i]/\Q (.int (if i<0 then -i else i)) H):=by intro c s b H a d Q I r h;obtain⟨i,rfl,q⟩:=h;obtain⟨u,rfl,t,rfl⟩:=U2 r;exact call_abs_int λu tk=>⟨.int (if i<0 then -i else i),H,I.tok _,⟨_,rfl⟩,q⟩
theorem My(c:X.calm=aC):Y3 X (.builtin "min") (λb H Q=>∃i j,b=[.int i,.int j]/\Q (.int (if j<i then j else i)) H):=by
 intro f s l H b e Q I r h;obtain⟨i,j,rfl,q⟩:=h;obtain⟨u,d,rfl,⟨t,rfl⟩,⟨t',rfl⟩⟩:=Hl r;refine min_two_ints (I.ok.hd c) λg tk k=>⟨_,H,I.kept k,?_,q⟩;by_cases a:j<i
 ·rw[jw a,jw a];exact⟨_,rfl⟩
 ·rw[jx a,jx a];exact⟨_,rfl⟩
noncomputable def F4(K:aD)(x:V)(H:Hp)(n:Nat):Prop:=
 match x with
 | .str y=>y.length<=sizeLine/\n=y.length
 | .byt y=>y.size<=sizeLine/\n=y.size
 | .ref p=>(∃xs,SqL K H p xs/\n=xs.length)\/∃xs,SqT K H p xs/\n=xs.length
 | _=>False
theorem LB:Y3 X (.builtin "len") (λc H Q=>∃x n,c=[x]/\F4 X.K x H n/\Q (.int n) H):=by
 intro v s w H c o Q I r h;obtain⟨x,n,rfl,e,q⟩:=h;obtain⟨u,rfl,d⟩:=U2 r;have m:=gy
 cases x with
 | str y=>
  obtain⟨t,rfl⟩:=d;obtain⟨j,b⟩:=e;subst b;exact len_str (by omega) ⟨.int _,H,I.tok _,⟨_,rfl⟩,q⟩
 | byt y=>
  obtain⟨t,rfl⟩:=d;obtain⟨j,b⟩:=e;subst b;exact PySem.W.len_bytes (by omega) ⟨.int _,H,I.tok _,⟨_,rfl⟩,q⟩
 | ref p=>
  cases d;have b:=e;rcases b with⟨c,f,b⟩ | ⟨c,f,b⟩
  ·subst b;obtain⟨k,i,g,l⟩:=I.list f;have a:=i.length;exact Calls.call_len_list g.isList (by simp only[aO];omega) ⟨.int c.length,H,I.tok _,⟨_,by simp only[aO];rw[a]⟩,q⟩
  ·subst b;obtain⟨k,i,g,l⟩:=I.tuple f;have a:=i.length;exact len_tuple g (by simp only[aO];omega) ⟨.int c.length,H,I.tok _,⟨_,by simp only[aO];rw[a]⟩,q⟩
 | _=>exact(e).elim
end
structure ObjM(h:bR)(x dx C:aG)(mA:ah->Option aF):Prop where
 obj:h.get? x=aA (gj C dx)
 ns:h.Ns1 dx mA
 ne:dx≠x
theorem Mz{h:bR}{d:aG}{g:ah->Option aF}(n:h.Ns1 d g):∃od,h.get? d=aA od/\∀b,gz b od=aA (g b):=by
 obtain⟨o,f,ep,p,j,k,_,m⟩:=n;refine⟨o,p,λb=>?_⟩;have e:=m b;unfold nsFind findBy at e;rw[<-Array.find?_toList] at e;unfold gz;rw[j]
 dsimp only
 split
 ·rename_i y q;rw[q] at e;exact congrArg aA e
 ·rename_i q;rw[q] at e;have a:f.toList.any (·.refKey)=aB:=by rw[eN];intro y l;obtain⟨z,t,c⟩:=k y (Array.mem_toList_iff.mp l);simp[DictEntry.refKey,c]
  have i:¬f.toList.any (·.refKey)=aC:=by rw[a];exact bK
  rw[jx i];exact congrArg aA e
theorem ObjM.look{h:bR}{x b C:aG}{c:ah->Option aF}(I:ObjM h x b C c):∃a,PySem.W.InstAt h x (gj C b) C (aA a)/\∀name,gz name a=aA (c name):=
 let⟨a,d,e⟩:=Mz I.ns
 ⟨a,⟨I.obj,rfl,rfl,d⟩,e⟩
section
variable {P:bI} {w:br} {H H':Hp} {h h':bR} {a C dx:aG} {fs fs':List (ah×V)}
theorem Jw(c:HOk P w H h)(e:H a=aA (.ins C dx fs)):∃b,ObjM h a dx C b/\(∀f,HM (fs.lookup f) (b f))/\jh b (fs.map (·.1))/\fs.length<=1000/\H dx=aA (.own a):=by obtain⟨d,z,ne,g,b,n,r,q⟩:=(c a _ e);exact⟨b,⟨g,n,ne⟩,r,q,z,d⟩
end
structure Cls(K:aD)(C:aG):Prop where
 pg:jJ K C ah.empty=aC
 hd:PySem.W.hasDictIn K C=aC
 po:PySem.W.plainOver K C=aC
 sa:j6 K (.ref C) "__setattr__" = aA (aA (.builtin "object.__setattr__"))
theorem Cls.get{K:aD}{C:aG}(c:Cls K C)(f:ah):jJ K C f=aC:=c.pg
section
variable {X:Cx} {jq:List (aG×cj)} {σ:St} {H:Hp} {s:aL} {A:bc} {E:aF->aL->Prop} {Q:aF->aL->Prop} {c:aF} {b:Bool}
inductive TyOf(K:aD)(H:Hp):V->aF->Prop where
 | non:TyOf K H .non (.type "NoneType")
 | bl (x:Bool):TyOf K H (.bl x) (.type "bool")
 | int (i:Int):TyOf K H (.int i) (.type "int")
 | str (x:ah):TyOf K H (.str x) (.type "str")
 | flt (x:UInt64):TyOf K H (.flt x) (.type "float")
 | lst {a:aG} {xs:List V} (e:H a=aA (.lst xs)):TyOf K H (.ref a) (.type "list")
 | frz {a:aG} {o:cj} {xs:List V} (e:H a=aA (.frz o (.lst xs))):TyOf K H (.ref a) (.type "list")
 | tup {a:aG} {xs:List V} (e:H a=aA (.tup xs)):TyOf K H (.ref a) (.type "tuple")
 | dK {a:aG} {jr:List (S3×V)} (e:H a=aA (.dK jr)):TyOf K H (.ref a) (.type "dict")
 | dT {a:aG} {jr:List (List S3×V)} (e:H a=aA (.dT jr)):TyOf K H (.ref a) (.type "dict")
 | ins {a C dx:aG} {fs:List (ah×V)} (e:H a=aA (.ins C dx fs)) (cl:Cls K C) (ha:j6 K (.ref C) "__class__" = aA (aA (.builtin "object.__class__")))
   (hn:PySem.W.specialIn K (.builtin "object.__class__") "__get__" = aA (aA (.builtin "getset_descriptor.__get__"))) (htk:PySem.W.takesIn K (.builtin "object.__class__")=aA aC)
   (hm:PySem.W.mroIn K C (.type "object")=aA aC):TyOf K H (.ref a) (.ref C)
theorem MA{x:V}{u t:aF}(I:Inv X jq σ H s)(d:RelV x u)(ty:TyOf X.K H x t)(e:cL X.K t c=aA b)(h:∀tk,Q (.bool b) { s with toks:=tk }) :
  ay (model X.prog X.w) A (call (.builtin "isinstance") [u,c]) Q E s:=by
 cases ty with
 | non=>cases (d);exact bp PySem.W.kitx_none I.kIn cT e (λz=>nomatch z) h
 | bl y=>cases (d);exact bp PySem.W.kitx_bool I.kIn cT e (λz=>nomatch z) h
 | int i=>obtain⟨t,q⟩:=(d);cases q;exact bp PySem.W.kitx_int I.kIn cT e (λz=>nomatch z) h
 | str y=>obtain⟨t,q⟩:=(d);cases q;exact bp PySem.W.kitx_str I.kIn cT e (λz=>nomatch z) h
 | flt y=>obtain⟨t,q⟩:=(d);cases q;exact bp PySem.W.kitx_float I.kIn cT e (λz=>nomatch z) h
 | @lst a j ea=>
  cases (d);obtain⟨_,_,n,_,f⟩:=(I.hok a _ ea);exact bp il I.kIn ⟨_,f,rfl⟩ e (λz=>nomatch z) h
 | @frz a ob j ea=>
  cases (d);obtain⟨_,_,_,n,_,f⟩:=(I.hok a _ ea);exact bp il I.kIn ⟨_,f,rfl⟩ e (λz=>nomatch z) h
 | @tup a j ea=>
  cases (d);obtain⟨_,_,_,p⟩:=(I.hok a _ ea);obtain⟨o,f,g,_⟩:=p;exact bp PySem.W.kitx_tuple I.kIn ⟨o,f,g⟩ e (λz=>nomatch z) h
 | @dK a jr ea=>
  cases (d);obtain⟨_,_,vs,_,p⟩:=(I.hok a _ ea);obtain⟨o,k,ep,f,g,_⟩:=p;exact bp ip I.kIn ⟨o,f,g.1⟩ e (λz=>nomatch z) h
 | @dT a jr ea=>
  cases (d);obtain⟨_,_,j,_,o,k,ep,f,g,_⟩:=(I.hok a _ ea);exact bp ip I.kIn ⟨o,f,g.1⟩ e (λz=>nomatch z) h
 | @ins a C dx fs ea cl ha hn htk hm=>
  cases (d);obtain⟨m,O,_⟩:=Jw I.hok ea;obtain⟨l,J,_⟩:=O.look;exact bp (PySem.W.kitx_own (cl.get _) cl.hd ha hn htk hm) I.kIn J e (λz=>nomatch z) h
end
structure Room(k:Nat)(A:bc):Prop where
 hd:A.handled=none
 dp:A.depth+3*k+5<hU
 un:A.units+16*k+200<iS
 gd:A.guards=aA []
theorem Room.mono{j k:Nat}{A:bc}(r:Room k A)(h:j<=k):Room j A:=⟨r.hd,by have:=r.dp;omega,by have:=r.un;omega,r.gd⟩
theorem Room.deeper{k:Nat}{A:bc}(r:Room (k+1) A)(env:jH):Room k (A.deeper env):=
 ⟨r.hd,by have:=r.dp;show A.depth+1+3*k+5<_;omega,by have:=r.un;show A.units+3+16*k+200<_;omega,r.gd⟩
theorem Room.depth{k:Nat}{A:bc}(r:Room k A):A.depth<hU:=by have:=r.dp;omega
theorem Room.units{k:Nat}{A:bc}(r:Room k A):A.units+64<iS:=by have:=r.un;omega
noncomputable def F5:TA:=λ_ H Q=>Q [] H
noncomputable def NK(ta:TE)(tr:TA):TA:=λσ H Q=>ta σ H λx H1=>tr σ H1 λxs H2=>Q (x::xs) H2
section
variable {X:Cx} {e:ao} {es:List ao} {te:TE} {t:TA} {pos:dj}
theorem Oy:PA X [] F5:=λ_ _ _ _ H Q I h=>Calls.spliced_nil ⟨[],H,I,.nil,h⟩
theorem VC(o:PE X e te)(l:PA X es t)(g:aS (e::es) X.env=(aB,eval e X.env)::aS es X.env:=by rfl):PA X (e::es) (NK te t):=by intro a b s c H Q I h;rw[g];refine Calls.spliced_cons (Ym (o b s c H _ I h) λu s1 ⟨x,f,d,p,j⟩=>?_);exact Ym (l a b s1 c f _ d j) λr s2 ⟨k,n,m,i,q⟩=>⟨x::k,n,m,.cons p i,q⟩
noncomputable def Dq(t:TA):TE:=λσ H Q=>t σ H λxs H1=>xs.length<=sizeLine/\∀p,H1 p=none->Q (.ref p) (upd H1 p (.tup xs))
noncomputable def Dr(t:TA):TE:=λσ H Q=>t σ H λxs H1=>xs.length<=sizeLine/\∀p,H1 p=none->Q (.ref p) (upd H1 p (.lst xs))
theorem Gu{x1}(h:PA X es t):PE X (.Tuple es x1 pos) (Dq t):=by intro g s j H Q I i;refine wpAny_Tuple_spliced (Ym (h pos g s j H _ I i) λd s1 ⟨f,c,a,r,z,q⟩=>⟨by rw[<-r.length];exact z,?_⟩);have k:=a.hok.fresh (aH _);refine⟨.ref s1.heap.objs.size,upd c s1.heap.objs.size (.tup f),a.laid (λb u e=>aE _ e) (aH _) ?_,rfl,q _ k⟩;exact⟨⟨z,λo e=>TC e⟩,d,r,⟨_,aX _ rfl,rfl,_,rfl⟩⟩
theorem LC(h:PA X es t):PE X (.List es pos) (Dr t):=by intro g s j H Q I i;refine wpAny_List_spliced (Ym (h pos g s j H _ I i) λd s1 ⟨f,c,a,r,z,q⟩=>⟨by rw[<-r.length];exact z,?_⟩);have k:=a.hok.fresh (aH _);refine⟨.ref s1.heap.objs.size,upd c s1.heap.objs.size (.lst f),a.laid (λb u e=>aE _ e) (aH _) ?_,rfl,q _ k⟩;exact⟨z,d,0,r,aX _ rfl⟩
end
abbrev Sp:=List V->Hp->VK->XK->Prop
abbrev Jx:=List jH->Hp->aL->XK->aF->aL->Prop
structure Jy(P:bI)(w:br)(K:aD)(mg:ah->Option aF)(base:bR)(A:bc)(outer:List jH)(s:aL)(H:Hp):Prop where
 frames:A.frames=aA outer
 mod:Mod K mg base
 bs:∀b o,base.get? b=aA o->s.heap.get? b=aA o/\H b=none
 bsz:base.objs.size<=s.heap.objs.size
 funs:s.heap.FunFrames base outer
 frf:∀b∈Ol outer,H b=none
 tab:TabsH K mg base H
 hok:HOk P w H s.heap
 bare:gX s.gens
noncomputable def CE(outer:List jH)(P:bI)(w:br)(H:Hp)(s:aL)(Q:VK)(u:aF)(s':aL):Prop:=
 ∃v H',s'.os=s.os/\gX s'.gens/\Un (Ol outer) [] H H' s.heap s'.heap/\HOk P w H' s'.heap/\RelV v u/\Q v H'
noncomputable def CR(CX:Jx)(outer:List jH)(P:bI)(w:br)(H:Hp)(s:aL)(Q:VK)(E:XK)(r:jl)(s':aL):Prop:=
 match r with
 | .ok (.ret u)=>CE outer P w H s Q u s'
 | .ok _=>False
 | .error e=>CX outer H s E e s'
structure Tb(P:bI)(w:br)(K:aD)(mg:ah->Option aF)(base:bR)(CX:Jx)(k:Nat)(f:aG)(fd:dN)(ps:List ah)(sp:Sp):Prop where
 len:∀vs H Q E,sp vs H Q E->vs.length=ps.length
 run:∀(A:bc)(outer:List jH)(s:aL)(H:Hp)(args:Args)(us:List aF)(vs:List V)(Q:VK)(E:XK),Room k A->Jy P w K mg base A outer s H->ir s fd args (ps.zip us)->Vals vs us->sp vs H Q E->
  gZ (model P w) A (.call (.ref f) args) (CR CX outer P w H s Q E) s
section
variable {X:Cx} {jq:List (aG×cj)} {σ:St} {H:Hp} {s s':aL}
theorem Inv.env0(I:Inv X jq σ H s):Jy X.prog X.w X.K X.mg X.base X.A X.stack s H:=
 ⟨I.ok.frames,I.ok.mod,I.bs,aV I.ok.bsz I.sz,I.stack,I.stkFree,I.ok.tab.un I.base,I.hok,I.bare⟩
theorem Inv.after{Q:VK}{u:aF}(I:Inv X jq σ H s)(h:CE X.stack X.prog X.w H s Q u s'):EP X jq σ Q u s':=by obtain⟨v,f,os,a,un,c,r,q⟩:=h;obtain⟨i,g,d,t,e⟩:=s';obtain rfl:=os;exact⟨v,f,I.call un c a (λb z=>absurd z (by simp)),r,q⟩
end
noncomputable def LD(sp:Sp)(dvs:List V)(E:XK)(t:TA):TE:=λσ H Q=>t σ H λvs H1=>sp (vs++dvs) H1 Q E
noncomputable def Binds(K:aD)(fd:dN)(ps:List ah)(ds:List aF):Prop:=
 ∀(s:aL)(us:List aF),K.In s.heap->(us++ds).length=ps.length->ir s fd ⟨us,[]⟩ (ps.zip (us++ds))
theorem Binds.all{K:aD}{c:dN}{b:List ah}(h:∀a:List aF,a.length=b.length->gQ c ⟨a,[]⟩=pure (b.zip a)):Binds K c b []:=λs a _ d=>by rw[cg] at d ⊢;exact .of_eq (h a d)
noncomputable def Oz(CX:Jx)(X:Cx)(E:XK):Prop:=∀(jq:List (aG×cj))(σ:St)(H:Hp)(s:aL)(e:aF)(s':aL),Inv X jq σ H s->CX X.stack H s E e s'->X.xe e s'
section
variable {X:Cx} {CX:Jx} {k:Nat} {f C:aG} {fd:dN} {ps:List ah} {sp:Sp} {dvs:List V} {ds:List aF} {E:XK} {x m:ah} {p pos apos:dj} {e o:ao} {es:List ao} {ta:TE} {t:TA}
theorem Gv{c:List (aG×cj)}{d:St}{H:Hp}{s:aL}{Q:VK}{a:List aF}{vs:List V}(F:Tb X.prog X.w X.K X.mg X.base CX k f fd ps sp)(m:Room k X.A)(o:Binds X.K fd ps ds)(j:Vals dvs ds)(l:Oz CX X E)
  (I:Inv X c d H s) (r:Vals vs a) (h:sp (vs++dvs) H Q E):ay (model X.prog X.w) X.A (call (.ref f) a) (EP X c d Q) X.xe s:=by
 have g:=r.append j;have n:(a++ds).length=ps.length:=by rw[<-g.length];exact F.len _ _ _ _ h
 refine wpAny_call (iu (F.run X.A X.stack s H ⟨a,[]⟩ (a++ds) (vs++dvs) Q E m I.env0 (o s a I.kIn n) g h) λr i b=>?_)
 cases r with
 | error e=>exact l c d H s e i I b
 | ok fl=>
  cases fl with
  | ret u=>exact I.after b
  | next=>exact dQ b
  | brk=>exact dQ b
  | cont=>exact dQ b
theorem Jz(F:Tb X.prog X.w X.K X.mg X.base CX k f fd ps sp)(j:Room k X.A)(w:Gl X x)(n:X.mg x=aA (.ref f))(l:eO X.K (.ref f)=aC)(v:Binds X.K fd ps ds)(g:Vals dvs ds)(i:Oz CX X E)
  (o:PA X (e::es) t) (b:(x==("__debug__" : ah))=aB:=by decide) (d:aS (e::es) X.env=(aB,eval e X.env)::aS es X.env:=by rfl) (a:(dZ pos (aS es X.env)).any (·.1)=aB:=by rfl) :
  PE X (.Call (.Name x p) (e::es) [] pos) (LD sp dvs E t):=by
 intro m s u H Q I h;refine fY (Jl I w n ?_ b);refine PySem.W.callWith_K I.ok.mod.kin l (Ym (o pos m s u H _ I h) λz s1 ⟨vs,y,c,r,q⟩=>⟨c.kIn,?_⟩) d a;exact Gv F j v g i c r q
end
structure Zl(N P:List ah)(sc:cx):Prop where
 kind:sc.kind = .function
 co:sc.isCoroutine=aB
 gen:sc.isGenerator=aB
 nd:N.Nodup
 pre:N.take P.length=P
 par:∀x∈P,sc.names.lookup x=aA .local\/sc.names.lookup x=aA .cell
 nofree:∀y∈sc.names,y.2≠.free
theorem Rt{kindOf:ah->Option cy}{x:ah}:∀{binds:List (ah×aF)}{m:ah->Option aF},(∀v,(x,v)∉binds)->j7 kindOf binds m x=m x
 | [],_,_=>rfl
 | (n,v)::r,m,h=>by
  unfold j7;rw[Rt λw a=>h w (aU _ a)];split
  ·have:x≠n:=by rintro rfl;exact h v a9
   simp[this]
  ·rfl
theorem Ru{kindOf:ah->Option cy}{x:ah}:∀{binds:List (ah×aF)}{m:ah->Option aF},(∀v,(x,v)∉binds)->j8 kindOf binds m x=m x
 | [],_,_=>rfl
 | (n,v)::r,m,h=>by
  unfold j8;rw[Ru λw a=>h w (aU _ a)];split
  ·rfl
  ·have:x≠n:=by rintro rfl;exact h v a9
   simp[this]
theorem Rv{kindOf:ah->Option cy}{x:ah}{v:aF}:∀{P:List ah}{vs:List aF}{i:Nat}{m:ah->Option aF},P.Nodup->P[i]?=aA x->vs[i]?=aA v->kindOf x=aA .local->
  j7 kindOf (P.zip vs) m x=aA v
 | [],_,_,_,_,h,_,_=>by simp at h
 | _::_,[],_,_,_,_,h,_=>by simp at h
 | p::P,w::vs,0,m,nd,h1,h2,hk=>by simp at h1 h2;subst h1;subst h2;show j7 kindOf ((p,w)::P.zip vs) m p=_;unfold j7;rw[Rt λv a=>(bM.mp nd).1 (gm a).1,jw hk];simp
 | p::P,w::vs,i+1,m,nd,h1,h2,hk=>by show j7 kindOf ((p,w)::P.zip vs) m x=_;unfold j7;exact Rv (i:=i) (bM.mp nd).2 (by simpa using h1) (by simpa using h2) hk
theorem Rw{kindOf:ah->Option cy}{x:ah}{v:aF}:∀{P:List ah}{vs:List aF}{i:Nat}{m:ah->Option aF},P.Nodup->P[i]?=aA x->vs[i]?=aA v->kindOf x≠aA .local->
  j8 kindOf (P.zip vs) m x=aA v
 | [],_,_,_,_,h,_,_=>by simp at h
 | _::_,[],_,_,_,_,h,_=>by simp at h
 | p::P,w::vs,0,m,nd,h1,h2,hk=>by simp at h1 h2;subst h1;subst h2;show j8 kindOf ((p,w)::P.zip vs) m p=_;unfold j8;rw[Ru λv a=>(bM.mp nd).1 (gm a).1,jx hk];simp
 | p::P,w::vs,i+1,m,nd,h1,h2,hk=>by show j8 kindOf ((p,w)::P.zip vs) m x=_;unfold j8;exact Rw (i:=i) (bM.mp nd).2 (by simpa using h1) (by simpa using h2) hk
noncomputable def start(N:List ah)(vs:List V):St:=vs.map aA++aT (N.length-vs.length) none
noncomputable def TJ(CX:Jx)(P:bI)(w:br)(K:aD)(mg:ah->Option aF)(base:bR)(N:List ah)(qual:ah)(scope:cx)(f:aG)(cd:aF)(A:bc)(outer:List jH)(s:aL)(H:Hp)(E:XK):Cx where
 prog:=P
 w:=w
 K:=K
 mg:=mg
 base:=base
 A:=A.deeper (fA qual scope s.heap.objs.size f cd)
 N:=N
 s₀:=s
 H₀:=H
 env:=fA qual scope s.heap.objs.size f cd
 outer:=outer
 stack:=fA qual scope s.heap.objs.size f cd::outer
 ex:=[]
 calm:=aC
 fn:=λ_=>aC
 pn:=[]
 xe:=λe s'=>ay (model P w) (A.deeper (fA qual scope s.heap.objs.size f cd)) (leaving (fA qual scope s.heap.objs.size f cd) e) (λ_ s''=>CX outer H s E e s'') (λe' s''=>CX outer H s E e' s'') s'
theorem Pa{a:cx}{n:Nat}{x:ah}(h:a.names.lookup x=aA .cell):∃c,(fU n a.names []).lookup x=aA c:=by have q:=g6 a.names n [] (.inl h);exact bY.mp q
theorem JA{a b c:ah}(h:a++c=b++c):a=b:=by
 obtain⟨a⟩:=a;obtain⟨b⟩:=b;have e:a++c.cps=b++c.cps:=congrArg ah.cps h;have f:a.toList++c.cps.toList=b.toList++c.cps.toList:=by rw[<-iO,<-iO,e]
 have d:=Array.toList_inj.mp (List.append_cancel_right f);rw[d]
theorem MB{O:Jx}{P:bI}{w:br}{K:aD}{J:ah->Option aF}{base:bR}{N n:List ah}{g:ah}{d:cx}{f:aG}{C:aF}{A:bc}{j:List jH}{s s1:aL}{H:Hp}{E:XK}{I:List aF}{vs:List V}
  (L:cH K C g=aC) (S:Zl N n d) (R:A.handled=none) (m:Jy P w K J base A j s H) (Y:vs.length=n.length) (r:Vals vs I)
  (x:InCallC s s.heap.objs.size (j7 (fA g d s.heap.objs.size f C).kindOf (n.zip I) λ_=>none) (fU (s.heap.objs.size+1) d.names []) (j8 (fA g d s.heap.objs.size f C).kindOf (n.zip I) λ_=>none) s1) :
  Inv (TJ O P w K J base N g d f C A j s H E) [] (start N vs) H s1:=by
 have T:n.length<=N.length:=by have:=congrArg fF S.pre;rw[fB] at this;omega
 obtain⟨G,tk,rfl,M⟩:=x.done;have t:∀b:aG,b∉(TJ O P w K J base N g d f C A j s H E).ex:=λb z=>absurd (show b∈([]:List aG) from z) (by simp)
 refine⟨⟨m.mod,S.kind,rfl,rfl,aH _,λy z c G l=>?_,λy o=>?_,λy c _ h=>?_,λ_=>R,bc.frames_deeper m.frames,.inr ⟨rfl,rfl⟩,λb z=>absurd z (t b),m.bs,m.bsz,λb _ _=>t b,λb z=>absurd z (t b),m.funs,m.frf,m.tab,λq _ X _=>by rw[<-JA X];exact L⟩,
  rfl,m.bare,Un.kept M,⟨_,x.toInCall.ns,λi y v G l Z=>?_⟩,λy c h=>⟨_,x.cell y c h⟩,m.hok.fresh (aH _),λy c h=>?_,λp D=>absurd (show p∈([]:List (aG×cj)) from D) (by simp),m.hok.kept M,?_⟩
 ·exact name_of_addr x.apart (cP G) (cP l)
 ·have o:=o;rcases o with o | o
  ·exact Pa o
  ·exact absurd rfl (S.nofree _ (cP o))
 ·exact cI (x.above y c (cP h))
 ·have F:i<vs.length:=by
   unfold start at l;by_cases F:i<vs.length
   ·exact F
   ·rw[bS (by simpa using F)] at l;rw[b6] at l;split at l<;>cases l
  have W:vs[i]?=aA v:=by
   unfold start at l;rw[aw (by simpa using F),aR] at l
   cases e:vs[i]? with
   | none=>rw[e] at l;cases l
   | some a=>rw[e] at l;cases l;rfl
  obtain⟨u,Q,U⟩:=r.get W;have D:n[i]?=aA y:=by rw[<-S.pre,List.getElem?_take_of_lt (by omega)];exact G
  have B:n.Nodup:=by rw[<-S.pre];exact S.nd.sublist (List.take_sublist _ _)
  refine⟨u,U,?_⟩;rcases S.par y (dc D) with k | k
  ·exact .inl ⟨k,Rv B D Q k⟩
  ·obtain⟨c,e⟩:=Pa k;refine .inr ⟨.inl k,c,e,?_⟩;have q:=x.cell y c e;rw[Rw B D Q (by show d.names.lookup y≠_;rw[k];decide)] at q;exact q
 ·exact m.hok.fresh (cI (x.above y c (cP h)))
 ·unfold start;show _=N.length;rw[bZ,aQ,cS];omega
theorem Yy{O:Jx}{P:bI}{w:br}{K:aD}{R:ah->Option aF}{base:bR}{k:Nat}{f:aG}{l d:ah}{h:Arguments}{i:List ba}{a:cx}{Z kV D pm g ct oc:aF}{an od:Option aG}
  {U:Array (Option aF)} {N M:List ah} {sp:Sp} (lk:K.lookup f=aA ⟨oc,od,.func (cM l d h i a Z kV D pm an g ct),U⟩) (F:cH K g d=aC) (S:Zl N M a)
  (len:∀vs H Q E,sp vs H Q E->vs.length=M.length)
  (p:∀(A:bc)(c:List jH)(s:aL)(H:Hp)(vs:List V)(Q:VK)(E:XK),Room k (A.deeper (fA d a s.heap.objs.size f g))->sp vs H Q E->
   ∃t,PSs (TJ O P w K R base N d a f g A c s H E) i t/\t { nx:=λ_ m=>Q .non m,rt:=Q } (start N vs) H) :
  Tb P w K R base O (k+1) f (cM l d h i a Z kV D pm an g ct) M sp:=by
 refine⟨len,λA c s H args us vs Q E W L hb r G=>?_⟩;have hl:=len _ _ _ _ G;have KX:=L.mod.kin.keeps λb o e=>(L.bs b o e).1;have Y:=L.mod.nolimit.keeps λb o e=>(L.bs b o e).1
 have z:∀y∈M.zip us,a.names.lookup y.1=aA .local\/(a.names.lookup y.1=aA .cell/\((fU (s.heap.objs.size+1) a.names []).lookup y.1).isSome=aC):=λ⟨n,v⟩ hy=>by
  rcases S.par n (gm hy).1 with q | q
  ·exact .inl q
  ·exact .inr ⟨q,g6 _ _ _ (.inl q)⟩
 refine codeAny_call_function W.depth (KX _ _ lk) rfl S.co S.gen rfl (PySem.W.codeRec_of KX F) (hb _ _ _ _ ?_);refine wpAny_newFunctionEnv_cells S.kind z λenv he s1 x=>?_;subst he;refine⟨Y.keeps x.toInCall.keep,codeAny_func ?_⟩;obtain⟨t,ht,hq⟩:=p A c s H vs Q E (W.deeper _) G;have I:Inv (TJ O P w K R base N d a f g A c s H E) [] (start N vs) H s1:=MB F S W.hd L hl r x;refine cJ (ht [] s1 (start N vs) H _ I hq) (λfl T B=>?_) λe T B=>B
 have C:∀{j:St}{m:Hp}{v:V}{u:aF},Inv (TJ O P w K R base N d a f g A c s H E) [] j m T->RelV v u->Q v m->CE c P w H s Q u T:=
  λ{j m v u} J X q=>⟨v,m,J.os,J.bare,J.base,J.hok,X,q⟩
 cases fl with
 | ret u=>
  obtain⟨v,j,m,J,X,q⟩:=B;exact C J X q
 | next=>
  obtain⟨j,m,J,q⟩:=B;exact C (v:=V.non) J rfl q
 | brk=>
  obtain⟨_,_,_,q⟩:=B;exact dQ q
 | cont=>
  obtain⟨_,_,_,q⟩:=B;exact dQ q
section
variable {X:Cx} {x:ah} {p pos:dj} {e:ao} {es:List ao} {t:TA} {id T:String} {r:List V->Hp->VK->Prop}
noncomputable def EN(r:List V->Hp->VK->Prop)(t:TA):TE:=λσ H Q=>t σ H λvs H1=>r vs H1 Q
theorem LF(l:Y3 X (.builtin id) r)(v:Gl X x)(n:X.mg x=none)(u:cW x=aA (.builtin id))(o:PA X (e::es) t)(m:x≠"__name__":=by decide)(b:(x==("__debug__" : ah))=aB:=by decide)
  (i:aS (e::es) X.env=(aB,eval e X.env)::aS es X.env:=by rfl) (a:(dZ pos (aS es X.env)).any (·.1)=aB:=by rfl):PE X (.Call (.Name x p) (e::es) [] pos) (EN r t):=by
 intro c s d H Q I h;refine fY (Vj I v n u ?_ m b);exact PyProof.Rows.callWith_builtin1 (Ym (o pos c s d H _ I h) λj s1 ⟨vs,g,f,q,k⟩=>l c s1 d g vs j Q f q k) i a
theorem Rx(l:Y3 X (.type T) r)(v:Gl X x)(n:X.mg x=none)(u:cW x=aA (.type T))(o:PA X (e::es) t)(m:x≠"__name__":=by decide)(b:(x==("__debug__" : ah))=aB:=by decide)
  (i:aS (e::es) X.env=(aB,eval e X.env)::aS es X.env:=by rfl) (a:(dZ pos (aS es X.env)).any (·.1)=aB:=by rfl):PE X (.Call (.Name x p) (e::es) [] pos) (EN r t):=by
 intro c s d H Q I h;refine fY (Vj I v n u ?_ m b);exact cG (Ym (o pos c s d H _ I h) λj s1 ⟨vs,g,f,q,k⟩=>l c s1 d g vs j Q f q k) i a
end
end L2
namespace HT
open PySem PyProof.Rows
section
variable {prog:bI} {w:br} {A:bc} {E:aF->aL->Prop} {s:aL}
theorem cat_tup{t b:aG}{vs a:List aF}{Q:aF->aL->Prop}(v:IsTup s.heap t vs.toArray)(C:IsTup s.heap b a.toArray)(r:vs≠[])
  (B:a=[]->Q (.ref t) s) (z:a≠[]->Q (.ref s.heap.objs.size) { s with heap:=s.heap.push { cls:=.type "tuple",data:=.seq (vs++a).toArray } })
  (m:vs.length+a.length<=sizeLine):ay (model prog w) A (cX .Add (.ref t) (.ref b)) Q E s:=by
 obtain⟨⟨l,p,d,q⟩,i,y,n,x⟩:=id v;obtain⟨⟨o,g,data2,f⟩,c,j,u,k⟩:=id C;subst y x j k;have e:vs.toArray++a.toArray=(vs++a).toArray:=by simp
 by_cases h:a=[]
 ·exact iz ⟨_,i,rfl⟩ ⟨_,c,rfl⟩ gR iT eQ eJ (dy _ _)
   (tuple_addW1 t b vs.toArray a.toArray n u p g q f (by simpa using r) (by simp[h])) ⟨i,c,B h⟩
 ·refine iz ⟨_,i,rfl⟩ ⟨_,c,rfl⟩ gR iT eQ eJ (dy _ _)
   (tuple_addW2 t b vs.toArray a.toArray n u p g q f (by simpa using r) (by simpa using h) (by rw[aO];exact m)) ⟨i,c,?_⟩
  rw[e];exact z h
noncomputable def sIx(n d:Nat):Option Int->Nat
 | none=>d
 | some v=>if v<0 then(v+(n:Int)).toNat else min v.toNat n
theorem sIx_none(n d:Nat):sIx n d none=d:=rfl
theorem sIx_nat(n d k:Nat):sIx n d (aA (k:Int))=min k n:=rfl
theorem NL(v:Int)(n d:Nat):(if v<0 then max (v+(n:Int)) 0 else min v (n:Int))=((sIx n d (aA v):Nat):Int):=by
 show(if v<0 then max (v+(n:Int)) 0 else min v (n:Int))=(((if v<0 then(v+(n:Int)).toNat else min v.toNat n):Nat):Int);by_cases a:v<0
 ·simp only[jw a];omega
 ·simp only[jx a];omega
theorem OA(lo a:Option Int)(n:Nat):gA lo a 1 (n:Int)=(((sIx n 0 lo:Nat):Int),((sIx n n a:Nat):Int)):=by
 refine Prod.ext ?_ ?_
 ·cases lo with
  | none=>rfl
  | some v=>exact NL v n 0
 ·cases a with
  | none=>rfl
  | some v=>exact NL v n n
theorem OB(i j:Nat):dD (i:Int) (j:Int) 1=j-i:=by
 unfold dD;split<;>omega
theorem TL{v:aF}{o:Option Int}{Q:Option Int->aL->Prop}(p:iY v o)(h:Q o s):ay (model prog w) A (iN.Slice.slicePartIndex v) Q E s:=by
 cases p with
 | none=>exact slicePart_none h
 | int i t=>exact slicePart_int h
theorem Uk{e:aG}{f d:aF}{lo c:Option Int}{n:Nat}{Q:Int×Int×Nat->aL->Prop}(i:s.heap.IsSliceOf e f d .none)(k:iY f lo)(j:iY d c)
  (h:Q (((sIx n 0 lo:Nat):Int),1,sIx n n c-sIx n 0 lo) s):ay (model prog w) A (iN.Slice.sliceApplied (.ref e) (pure (n:Int))) Q E s:=by
 obtain⟨os,b,g,a⟩:=id i;refine aI (aI (bu b a rfl (aI (bu b a rfl (aI (bu b a rfl (ag ?_)))))));refine aI (slicePart_none ?_);refine aI (TL k (aI (TL j (aI (ag ?_)))));show ay _ _ (match gA lo c 1 (n:Int) with | (lo,c)=>pure (lo,(1:Int),dD lo c 1)) _ _ s;rw[OA lo c n];show ay _ _ (pure (((sIx n 0 lo:Nat):Int),(1:Int),dD ((sIx n 0 lo:Nat):Int) ((sIx n n c:Nat):Int) 1)) _ _ s;rw[OB];exact ag h
theorem LG(a:Array aF)(i k:Nat):((aJ k).filterMap λ(m:Nat)=>a[((i:Int)+(m:Int)*1).toNat]?).toArray=((a.toList.drop i).take k).toArray:=by
 have e:(λ(m:Nat)=>a[((i:Int)+(m:Int)*1).toNat]?)=λm=>a[i+m]?:=by
  funext m;have:((i:Int)+(m:Int)*1).toNat=i+m:=by omega
  rw[this]
 rw[e];have:=pick_run a i k;rw[List.filterMap_map] at this;have b:((λx=>a[x]?) ∘ λx=>i+x)=λm=>a[i+m]?:=rfl;rw[b] at this;rw[this]
theorem getItem_tuple_cut{t g:aG}{a:Array aF}{m l:aF}{lo c:Option Int}{Q:aF->aL->Prop}(d:IsTup s.heap t a)(k:s.heap.IsSliceOf g m l .none)(o:iY m lo)(p:iY l c)
  (n:¬(sIx a.size 0 lo=0/\sIx a.size a.size c=a.size))
  (h:Q (.ref s.heap.objs.size) { s with heap:=s.heap.push { cls:=.type "tuple",data:=.seq ((a.toList.drop (sIx a.size 0 lo)).take (sIx a.size a.size c-sIx a.size 0 lo)).toArray } })
  (u:a.size<=sizeLine):ay (model prog w) A (j1 (.ref t) (.ref g)) Q E s:=by
 have b:sizeOk (.seq ((a.toList.drop (sIx a.size 0 lo)).take (sIx a.size a.size c-sIx a.size 0 lo)).toArray):=by show((a.toList.drop (sIx a.size 0 lo)).take (sIx a.size a.size c-sIx a.size 0 lo)).toArray.size<=sizeLine;rw[aO,fB,cv,du];omega
 obtain⟨os,j,e,r⟩:=id k;have i:s.TypeIs (.ref g) "slice":=⟨os,j,e⟩;unfold j1
 try with_reducible refine gJ ?_
 first | refine aI (ag ?_) | skip
 refine aI (wpAny_sequenceKey d.typeIs rfl ?_)
 refine aI (c9 d.typeIs dM
  (dm dM d.typeIs entry_tuple_getitem ?_ (args_tuple_getitem _ _)))
 show ay _ _ (iN.Tuple.tupleItemsOf (.ref t) >>= _) _ _ s;refine aI (tupleItemsOf_ d ?_);refine aI (wpAny_typeOf i ?_);refine aI (Uk k o p ?_);have f:¬((((sIx a.size 0 lo:Nat):Int)==0&&(1:Int)==1&&(sIx a.size a.size c-sIx a.size 0 lo)==a.size)=aC):=by intro q;rw[bV,bV] at q;have v:=eq_of_beq q.1.1;have x:=eq_of_beq q.2;exact n ⟨by omega,by omega⟩
 show ay _ _ (if(((sIx a.size 0 lo:Nat):Int)==0&&(1:Int)==1&&(sIx a.size a.size c-sIx a.size 0 lo)==a.size)=aC then _ else _) _ _ s;rw[jx f,LG]
 first
  | exact aI (cb (ag ⟨_,rfl,ag h⟩) b)
  | exact aI (cb (aI (ag (ag ⟨_,rfl,ag h⟩))) b)
  | exact aI (aI (cb (ag (ag ⟨_,rfl,ag h⟩)) b))
  | exact aI (aI (cb (ag ⟨_,rfl,ag h⟩) b))
end
end HT
namespace L2
open PySem PySem.Spec PyProof.Rows
abbrev TO:=St->Hp->(Option Int->Hp->Prop)->Prop
noncomputable def PO(X:Cx)(e:Option ao)(t:TO):Prop:=
 ∀(jq:List (aG×cj))(s:aL)(σ:St)(H:Hp)(Q:Option Int->Hp->Prop),Inv X jq σ H s->t σ H Q->
  ay (model X.prog X.w) X.A (evalPart e X.env) (λu s'=>∃o H',Inv X jq σ H' s'/\iY u o/\Q o H') X.xe s
noncomputable def JB:TO:=λ_ H Q=>Q none H
noncomputable def F6(t:TE):TO:=λσ H Q=>t σ H λx H1=>∃i,x = .int i/\Q (aA i) H1
section
variable {X:Cx} {e:ao} {te:TE} {lo hi:Option ao} {tl th:TO} {pos p2:dj}
theorem JC:PO X none JB:=by intro b s a H Q I h;exact ag ⟨none,H,I,.none,h⟩
theorem JD(h:PE X e te):PO X (aA e) (F6 te):=by intro g s f H Q I j;refine Ym (h g s f H _ I j) λu s1 ⟨x,b,c,d,a⟩=>?_;obtain⟨i,rfl,q⟩:=a;obtain⟨t,rfl⟩:=d;exact⟨aA i,b,c,.int i t,q⟩
noncomputable def Ds(X:Cx)(r:V->Option Int->Option Int->Hp->VK->Prop):Prop:=
 ∀(jq:List (aG×cj))(s:aL)(σ:St)(H:Hp)(x:V)(v vl vu:aF)(lo hi:Option Int)(sl:aG)(Q:VK),Inv X jq σ H s->RelV x v->s.heap.IsSliceOf sl vl vu .none->iY vl lo->iY vu hi->r x lo hi H Q->
  ∃T id,typeLookup (.type T) "__getitem__" = pure (aA (.builtin id))/\s.TypeIs v T/\ay (model X.prog X.w) X.A (j1 v (.ref sl)) (EP X jq σ Q) X.xe s
noncomputable def D8(r:V->Option Int->Option Int->Hp->VK->Prop)(te:TE)(tl th:TO):TE:=λσ H Q=>te σ H λx H1=>tl σ H1 λl H2=>th σ H2 λu H3=>r x l u H3 Q
theorem Pb{r:V->Option Int->Option Int->Hp->VK->Prop}(t:Ds X r)(o:PE X e te)(E:PO X lo tl)(y:PO X hi th):PE X (.Subscript e (.Slice lo hi none p2) pos) (D8 r te tl th):=by intro c s d H Q I h;refine Subscript_ (Ym (o c s d H _ I h) λv s1 ⟨x,m,k,D,p⟩=>?_);refine wpAny_Slice (Ym (E c s1 d m _ k p) λg s2 ⟨l,A,w,z,F⟩=>Ym (y c s2 d A _ w F) λf a ⟨u,i,J,B,C⟩=>?_);refine ag ?_;have G:Inv X c d i { a with heap:=a.heap.push { cls:=.type "slice",data:=.fields #[g,f,.none] } }:=J.kept λb M q=>aE _ q;obtain⟨T,id,j,n,L⟩:=t c { a with heap:=a.heap.push { cls:=.type "slice",data:=.fields #[g,f,.none] } } d i x v g f l u a.heap.objs.size Q G D (bR.IsSliceOf.new ..) z B C;exact tail_any n j L rfl
noncomputable def MC(xs:List V)(lo hi:Option Int):List V:=(xs.drop (HT.sIx xs.length 0 lo)).take (HT.sIx xs.length xs.length hi-HT.sIx xs.length 0 lo)
theorem U3(a:List V)(lo b:Option Int):(MC a lo b).length<=a.length:=by unfold MC;rw[fB,cv];omega
noncomputable def Dt(K:aD):V->Option Int->Option Int->Hp->VK->Prop:=λx lo hi H Q=>∃a xs,x = .ref a/\SqT K H a xs/\
 ¬(HT.sIx xs.length 0 lo=0/\HT.sIx xs.length xs.length hi=xs.length)/\∀p,H p=none->Q (.ref p) (upd H p (.tup (MC xs lo hi)))
theorem Gw:Ds X (Dt X.K):=by
 intro u s B H x v A y lo g w Q I k j n p h;obtain⟨a,d,rfl,m,l,q⟩:=h;cases k;obtain⟨t,r,f,i⟩:=I.tuple m;have c:t.toArray.size=d.length:=by rw[aO];exact r.length.symm
 refine⟨"tuple",_,dM.lookup,f.typeIs,?_⟩;refine HT.getItem_tuple_cut f j n p (by rw[c];exact l) ?_ (by rw[c];exact i);rw[c];refine⟨.ref s.heap.objs.size,_,I.laid (λb z q=>aE _ q) (aH _) ?_,rfl,q _ (I.hok.fresh (aH _))⟩;exact⟨⟨aV (U3 d lo g) i,λo e=>TC e⟩,_,(r.drop (HT.sIx d.length 0 lo)).take (HT.sIx d.length d.length g-HT.sIx d.length 0 lo),jK _ _⟩
noncomputable def F7(K:aD):R2:=λx y H Q=>∃a b xs ys,x = .ref a/\y = .ref b/\SqT K H a xs/\SqT K H b ys/\xs≠[]/\xs.length+ys.length<=sizeLine/\
 (ys=[]->Q (.ref a) H)/\(ys≠[]->∀p,H p=none->Q (.ref p) (upd H p (.tup (xs++ys))))
theorem Vals.nil_iff{a:List V}{b:List aF}(r:Vals a b):b=[]↔a=[]:=by
 cases r with
 | nil=>simp
 | cons _ _=>simp
theorem JE:Uh X (cX .Add) (F7 X.K):=by intro A s D H x y v u Q I i m h;obtain⟨a,b,t,E,rfl,rfl,n,r,j,g,k,p⟩:=h;cases i;cases m;obtain⟨B,d,l,_⟩:=I.tuple n;obtain⟨f,c,p2,_⟩:=I.tuple r;refine HT.cat_tup l p2 (λz=>j (d.nil_iff.mp z)) (λz=>⟨.ref a,H,I,rfl,k (c.nil_iff.mp z)⟩) (λz=>?_) (by rw[<-d.length,<-c.length];exact g);refine⟨.ref s.heap.objs.size,_,I.laid (λb C q=>aE _ q) (aH _) ?_,rfl,p (λw=>z (c.nil_iff.mpr w)) _ (I.hok.fresh (aH _))⟩;exact⟨⟨by rw[bZ];exact g,λo e=>TC e⟩,_,d.append c,jK _ _⟩
end
noncomputable def Om(n:Nat)(i:Int):Option Nat:=if 0<=i then(if i<n then aA i.toNat else none) else if -(n:Int)<=i then aA (i+n).toNat else none
noncomputable def Tq{α:Type}(xs:List α)(i:Int):Option α:=(Om xs.length i).bind λj=>xs[j]?
theorem NM{n:Nat}{i:Int}{j:Nat}(h:Om n i=aA j):seqIndex? i n=aA j/\j<n/\-(n:Int)<=i/\i<n:=by
 unfold Om at h;by_cases b:0<=i
 ·rw[jw b] at h;by_cases a:i<n
  ·rw[jw a] at h;have e:=ak h;exact⟨by rw[jQ b a,e],by omega,by omega,a⟩
  ·rw[jx a] at h;cases h
 ·rw[jx b] at h;by_cases a : -(n:Int)<=i
  ·rw[jw a] at h;have e:=ak h;exact⟨by rw[jA (by omega) a,e],by omega,a,by omega⟩
  ·rw[jx a] at h;cases h
theorem Qa{b:Type}{a:List b}{i:Int}{v:b}(h:Tq a i=aA v):∃j,seqIndex? i a.length=aA j/\a[j]?=aA v/\j<a.length/\-(a.length:Int)<=i/\i<a.length:=by
 unfold Tq at h
 cases e:Om a.length i with
 | none=>rw[e] at h;cases h
 | some j=>
  rw[e] at h;obtain⟨d,f,g,c⟩:=NM e;exact⟨j,d,h,f,g,c⟩
theorem X0{b:Type}{a:List b}{j:Nat}{v:b}(h:a[j]?=aA v):Tq a (j:Int)=aA v:=by
 have c:=(aW.mp h).1;have e:Om a.length (j:Int)=aA j:=by unfold Om;rw[jw (by omega),jw (by omega)];simp
 unfold Tq;rw[e];exact h
noncomputable def Qb(b:ao):Prop:=∀o i,subscripted b aB o i=operate [o,i] (j1 o i)
noncomputable def IxR(X:Cx)(r:R2):Prop:=
 ∀(value slice:ao)(jq:List (aG×cj))(s:aL)(σ:St)(H:Hp)(x y:V)(v u:aF)(Q:VK),Inv X jq σ H s->RelV x v->RelV y u->r x y H Q->
  subscripted slice aB v u=operate [v,u] (j1 v u)->ay (model X.prog X.w) X.A (subscriptTail value slice v u) (EP X jq σ Q) X.xe s
noncomputable def D9(X:Cx)(id:String)(r:V->List V->Hp->VK->Prop):Prop:=
 ∀(jq:List (aG×cj))(s:aL)(σ:St)(H:Hp)(x:V)(xs:List V)(v:aF)(us:List aF)(Q:VK),Inv X jq σ H s->RelV x v->Vals xs us->r x xs H Q->
  ay (model X.prog X.w) X.A (call (.builtin id) (v::us)) (EP X jq σ Q) X.xe s
section
variable {X:Cx} {a b:ao} {ta tb:TE} {pos:dj}
theorem IxR.or{r g:R2}(h:IxR X r)(j:IxR X g):IxR X (λx y H Q=>r x y H Q\/g x y H Q):=by
 intro b a e s i H x y v u Q I d f q c;rcases q with q | q
 ·exact h b a e s i H x y v u Q I d f q c
 ·exact j b a e s i H x y v u Q I d f q c
theorem LH{r:R2}(e:IxR X r)(k:PE X a ta)(m:PE X b tb)(c:Qb b):PE X (.Subscript a b pos) (FA r ta tb):=by intro g s l H Q I h;exact Subscript_ (Gj k m I h λv u s2 x y i f d j q=>e a b g s2 l i x y v u Q f d j q (c _ _))
noncomputable def Gx(K:aD):R2:=λx y H Q=>∃p xs i v,x = .ref p/\y = .int i/\SqL K H p xs/\Tq xs i=aA v/\Q v H
noncomputable def F8(K:aD):R2:=λx y H Q=>∃p xs i v,x = .ref p/\y = .int i/\SqT K H p xs/\Tq xs i=aA v/\Q v H
noncomputable def F9:R2:=λx y H Q=>∃z i c,x = .str z/\y = .int i/\z.length<=sizeLine/\Tq z.cps.toList i=aA c/\Q (.str ⟨#[c]⟩) H
theorem ix_list:IxR X (Gx X.K):=by
 intro d c A s J H x y v u Q I o C h g;obtain⟨p,L,i,z,rfl,rfl,F,n,q⟩:=h;cases o;obtain⟨t,rfl⟩:=C;obtain⟨D,r,f,N⟩:=I.list F;obtain⟨j,b,B,O,m,G⟩:=Qa n;obtain⟨w,k,ZQ⟩:=r.get B;have E:=r.length;have M:=R9;have a:EP X A J Q w s:=⟨z,H,I,ZQ,q⟩;by_cases l:0<=i
 ·have e:i.toNat=j:=by rw[jQ l G] at b;exact ak b
  exact item_listR f.isList l (by omega) (by rw[e];simpa using k) a g
 ·have e:(i+(D.toArray.size:Int)).toNat=j:=by rw[jA (by omega) m] at b;rw[aO,<-E];exact ak b
  exact g7 f.isList.typeIs slot_list_getitem.lookup
   (wpAny_getItem_list_neg f.isList (by omega) (by rw[aO]<;>omega) (by omega) (by rw[e];simpa using k) ⟨rfl,a⟩) g
theorem ix_tup:IxR X (F8 X.K):=by
 intro c a l s C H x y v u Q I k n h e;obtain⟨p,E,i,z,rfl,rfl,B,f,q⟩:=h;cases k;obtain⟨t,rfl⟩:=n;obtain⟨G,r,d,J⟩:=I.tuple B;obtain⟨j,o,m,L,D,M⟩:=Qa f;obtain⟨w,g,ZQ⟩:=r.get m;have A:=r.length;have F:=R9;have b:EP X l C Q w s:=⟨z,H,I,ZQ,q⟩
 exact g7 d.typeIs slot_tuple_getitem.lookup
  (getItem_tuple d (by omega) (by omega) (by rw[aO,<-A];exact o) (by simpa using g) ⟨rfl,b⟩) e
theorem Gy:IxR X F9:=by
 intro b a A s D H x y v u Q I l n h g;obtain⟨z,i,c,rfl,rfl,B,k,q⟩:=h;obtain⟨t,rfl⟩:=l;obtain⟨t',rfl⟩:=n;obtain⟨j,d,m,C,f,r⟩:=Qa k;have o:z.cps.toList.length=z.length:=by simp[ah.length]
 rw[o] at d f r;have w:=R9
 exact tail_any (typeIs_str s z t) slot_str_getitem.lookup (getItem_str (by
  have p:decide (i < -(2^63:Int))=aB:=decide_eq_false (by omega);have e:decide (i ≥ 2^63)=aB:=decide_eq_false (by omega);rw[p,e,Bool.or_false]) (by rw[d];simpa using m) ⟨.str ⟨#[c]⟩,H,I.tok _,⟨_,rfl⟩,q⟩) g
noncomputable def DR(K:aD):R2:=λx y H Q=>Gx K x y H Q\/F8 K x y H Q\/F9 x y H Q
theorem Gz:IxR X (DR X.K):=ix_list.or (ix_tup.or Gy)
theorem OC(a:List aF)(n j:Nat)(u:aF):iZ (·.setIfInBounds j u) { cls:=.type "list",data:=.seq a.toArray n }={ cls:=.type "list",data:=.seq (a.set j u).toArray n }:=by simp[iZ]
theorem Inv.lst{d:List (aG×cj)}{c:St}{H:Hp}{s:aL}{p:aG}{b:List V}(I:Inv X d c H s)(h:H p=aA (.lst b)) :
  ∃(a:List aF) (n:Nat),Vals b a/\s.heap.get? p=aA { cls:=.type "list",data:=.seq a.toArray n }/\b.length<=sizeLine:=by
 obtain⟨z,a,n,r,e⟩:=I.hok p _ h;exact⟨a,n,r,e,z⟩
theorem Inv.lstUpd{g:List (aG×cj)}{j:St}{H:Hp}{s:aL}{p:aG}{l d:List V}{i a:List aF}{n c:Nat}{f:cj->cj}(I:Inv X g j H s)(h:H p=aA (.lst l))
  (m:s.heap.get? p=aA { cls:=.type "list",data:=.seq i.toArray n }) (k:f { cls:=.type "list",data:=.seq i.toArray n }={ cls:=.type "list",data:=.seq a.toArray c }) (r:Vals d a) (o:d.length<=sizeLine) (t:Nat) :
  Inv X g j (upd H p (.lst d)) { s with heap:=s.heap.update p f,toks:=t }:=by
 have e:(s.heap.update p f).get? p=aA { cls:=.type "list",data:=.seq a.toArray c }:=by rw[gv f m (by rw[k]<;>rfl),k]
 refine I.write (by rw[h];trivial) (.inl rfl) (λb u v q=>(g8 _ _ (ar v)).trans q) ⟨_,e⟩ ?_;exact⟨o,a,c,r,e⟩
noncomputable def LI:V->V->V->Hp->(Hp->Prop)->Prop:=λo i v H Q=>∃p xs k j,o = .ref p/\i = .int k/\H p=aA (.lst xs)/\Om xs.length k=aA j/\Q (upd H p (.lst (xs.set j v)))
theorem Xi:FR X LI:=by
 intro E s L H o i v J D u Q I B x y h;obtain⟨p,C,k,j,rfl,rfl,w,z,q⟩:=h;cases B;obtain⟨t,rfl⟩:=x;obtain⟨l,n,r,c,A⟩:=I.lst w;obtain⟨a,G,m,e⟩:=NM z;have d:=r.length;have F:=R9
 have g:=
  I.lstUpd w c (OC l n j u) (r.set y j) (by rw[cQ];exact A) s.toks
 by_cases f:0<=k
 ·have b:k.toNat=j:=by rw[jQ f e] at a;exact ak a
  exact PySem.W.ki_setAt c f (by omega) (by rw[aO,<-d];exact e) (by rw[b];exact⟨_,g,q⟩)
 ·have b:(k+(l.toArray.size:Int)).toNat=j:=by rw[jA (by omega) m] at a;rw[aO,<-d];exact ak a
  exact PySem.W.ki_setBack c (by omega) (by rw[aO,<-d];exact m) (by omega) (by rw[b];exact⟨_,g,q⟩)
theorem Qc(lo a:Option Int)(n:Nat):(eK lo a none n).1=((HT.sIx n 0 lo:Nat):Int)/\(eK lo a none n).2.1=((HT.sIx n n a:Nat):Int)/\(eK lo a none n).2.2=1:=by
 refine⟨?_,?_,rfl⟩
 ·cases lo with
  | none=>simp[eK,HT.sIx]
  | some i=>
   simp only[eK,HT.sIx,jL];by_cases h:i<0
   ·simp only[h,if_true]<;>omega
   ·simp only[h,if_false]<;>omega
 ·cases a with
  | none=>simp[eK,HT.sIx]
  | some i=>
   simp only[eK,HT.sIx,jL];by_cases h:i<0
   ·simp only[h,if_true]<;>omega
   ·simp only[h,if_false]<;>omega
theorem S4(a:List aF)(lo b:Option Int):slicePick a.toArray lo b none=((a.drop (HT.sIx a.length 0 lo)).take (HT.sIx a.length a.length b-HT.sIx a.length 0 lo)).toArray:=by
 obtain⟨c,d,e⟩:=Qc lo b a.toArray.size;unfold slicePick;rw[c,d,e];simp only[sliceRange_one,pick_run]<;>rfl
noncomputable def Du(K:aD):V->Option Int->Option Int->Hp->VK->Prop:=λx lo hi H Q=>∃a xs,x = .ref a/\SqL K H a xs/\∀p,H p=none->Q (.ref p) (upd H p (.lst (MC xs lo hi)))
theorem JF:Ds X (Du X.K):=by intro n s y H x v w t lo f o Q I i g k l h;obtain⟨a,c,rfl,j,q⟩:=h;cases i;obtain⟨p,r,e,m⟩:=I.list j;have d:=r.length;refine⟨"list",_,slot_list_getitem.lookup,e.isList.typeIs,?_⟩;refine wpAny_getItem_list_slice e.isList g k l .none (by simp) ?_ (by rw[aO]<;>omega);rw[S4,<-d];refine⟨.ref s.heap.objs.size,_,I.laid (λb u q=>aE _ q) (aH _) ?_,rfl,q _ (I.hok.fresh (aH _))⟩;exact⟨aV (U3 c lo f) m,_,0,(r.drop (HT.sIx c.length 0 lo)).take (HT.sIx c.length c.length f-HT.sIx c.length 0 lo),aX _ rfl⟩
theorem VD:Y3 X (.type "list") (λz H Q=>∃p g,z=[.ref p]/\(SqL X.K H p g\/SqT X.K H p g)/\∀l,H l=none->Q (.ref l) (upd H l (.lst g))):=by
 intro B s C H z D Q I r h;obtain⟨p,g,rfl,t,q⟩:=h;obtain⟨u,rfl,A⟩:=U2 r;cases A
 have i:∀(c:List aF),Vals g c->g.length<=sizeLine->∀(a:bR)(d:Nat),(∀b o',s.heap.get? b=aA o'->a.get? b=aA o')->
   a.get? s.heap.objs.size=aA { cls:=.type "list",dict:=none,data:=.seq c.toArray d,slots:=#[] }->EP X B C Q (.ref s.heap.objs.size) { s with heap:=a }:=λc f m a d j e=>
  ⟨.ref s.heap.objs.size,_,I.laid j (aH _) (show ObjOk X.prog X.w _ a _ (.lst g) from⟨m,c,d,f,e⟩),rfl,q _ (I.hok.fresh (aH _))⟩
 rcases t with t | t
 ·obtain⟨c,f,x,m⟩:=I.list t;have k:=f.length;obtain⟨o,y,w,n,v⟩:=x.isList;exact call_list_seq p (.inl rfl) y w v (λa d j e=>i c f m a d j e) (by simp only[aO]<;>omega)
 ·obtain⟨c,f,x,m⟩:=I.tuple t;have k:=f.length;obtain⟨o,y,w,n,v⟩:=x;exact call_list_seq p (.inr rfl) y w v (λa d j e=>i c f m a d j e) (by simp only[aO]<;>omega)
theorem Zp:Y3 X (.type "tuple") (λi H Q=>∃p a,i=[.ref p]/\((SqL X.K H p a/\∀l,H l=none->Q (.ref l) (upd H l (.tup a)))\/(SqT X.K H p a/\Q (.ref p) H))):=by
 intro y s z H i x Q I r h;obtain⟨p,a,rfl,h⟩:=h;obtain⟨u,rfl,t⟩:=U2 r;cases t;rcases h with⟨d,q⟩ | ⟨d,q⟩
 ·obtain⟨k,f,c,m⟩:=I.list d;have j:=f.length;refine call_tuple_list c.isList (λw n=>?_) (by simp only[aO]<;>omega);have g:=I.kept (t':=s.toks) n
  have v:=
   g.laid (t':=s.toks) (λb o e=>aE _ e) (aH _) (show ObjOk X.prog X.w _ _ _ (.tup a) from⟨⟨m,λo e=>TC e⟩,k,f,jK _ _⟩)
  exact⟨.ref w.objs.size,_,v,rfl,q _ (g.hok.fresh (aH _))⟩
 ·obtain⟨k,f,c,m⟩:=I.tuple d;exact call_tuple_same c ⟨.ref p,H,I,rfl,q⟩
noncomputable def Dv(K:aD)(T:String)(x:V)(H:Hp):Prop:=match x with
 | .str _=>T = "str"
 | .int _=>T = "int"
 | .ref p=>(T = "list"/\∃xs,SqL K H p xs)\/(T = "tuple"/\∃o,K.lookup p=aA o/\o.cls = .type "tuple"/\o.dict=none)\/
   (T = "dict"/\((∃jr,H p=aA (.dK jr))\/∃jr,H p=aA (.dT jr)))\/(T = "set"/\∃S n,H p=aA (.set S n))\/(T = "tuple"/\∃xs,H p=aA (.tup xs))
 | _=>False
theorem GA{q:List (aG×cj)}{y:St}{H:Hp}{s:aL}{T:String}{x:V}{v:aF}(I:Inv X q y H s)(r:RelV x v)(ty:Dv X.K T x H) :
  s.TypeIs v T/\∀a,v = .ref a->∃ob,s.heap.get? a=aA ob/\ob.dict=none:=by
 cases x with
 | str z=>
  obtain⟨t,rfl⟩:=r;cases (ty);exact⟨typeIs_str s z t,λ_ e=>nomatch e⟩
 | int i=>
  obtain⟨t,rfl⟩:=r;cases (ty);exact⟨g9 s i t,λ_ e=>nomatch e⟩
 | ref p=>
  cases r;rcases ty with⟨rfl,l,w⟩ | ⟨rfl,o,b,m,g⟩ | ⟨rfl,b⟩ | ⟨rfl,S,n,b⟩ | ⟨rfl,l,b⟩;rotate_left 4
  ·obtain⟨z,u,_,o,h,f,_⟩:=(I.hok p _ b);refine⟨⟨o,h,f⟩,λa e=>?_⟩;cases e;exact⟨o,h,z.2 o h⟩
  ·obtain⟨u,_,j,_⟩:=I.list w;refine⟨j.isList.typeIs,λa e=>?_⟩;cases e;obtain⟨o,n,e,c,g,_⟩:=j;exact⟨o,e,g⟩
  ·refine⟨⟨o,I.kIn p o b,m⟩,λa e=>?_⟩;cases e;exact⟨o,I.kIn _ o b,g⟩
  ·have z:∃o,s.heap.get? p=aA o/\o.ExactDict:=by
    rcases b with⟨k,b⟩ | ⟨k,b⟩
    ·obtain⟨_,_,_,_,o,_,_,e,d,_⟩:=I.hok p _ b;exact⟨o,e,d⟩
    ·obtain⟨_,_,_,_,o,_,_,e,d,_⟩:=I.hok p _ b;exact⟨o,e,d⟩
   obtain⟨o,e,d⟩:=z;refine⟨⟨o,e,d.1⟩,λa f=>?_⟩;cases f;exact⟨o,e,d.2.1⟩
  ·obtain⟨o,_,_,_,e,d,_⟩:=I.hok p _ b;refine⟨⟨o,e,d.1⟩,λa f=>?_⟩;cases f;exact⟨o,e,d.2.1⟩
 | _=>exact dQ ty
noncomputable def DS(K:aD)(T:String)(r:V->List V->Hp->VK->Prop)(to:TE)(t:TA):TE:=λσ H Q=>to σ H λx H1=>Dv K T x H1/\t σ H1 λxs H2=>r x xs H2 Q
variable {o e:ao} {es:List ao} {to:TE} {t:TA} {name:ah} {apos cpos:dj} {T id:String} {r:V->List V->Hp->VK->Prop}
theorem Ea(u:PlainAttrs T)(f:Slot T name id)(j:typeOf (.builtin id)=pure (.type "method_descriptor"))(B:D9 X id r)(E:PE X o to)(D:PA X (e::es) t)
  (b:attributeBase o name X.env (eval o X.env)=eval o X.env:=by rfl)
  (d:((dZ cpos (aS (e::es) X.env)).all (λx=>!x.1)&&(backToKw cpos (keywordEach [] X.env)).all (λx=>x.1.isSome)
   &&decide ((e::es).length+([]:List Keyword).length+(if([]:List Keyword).isEmpty then 0 else 1)<30))=aC:=by rfl)
  (c:(apos.endLine==cpos.line)=aC:=by rfl) (p:aS (e::es) X.env=(aB,eval e X.env)::aS es X.env:=by rfl) (a:(dZ cpos (aS es X.env)).any (·.1)=aB:=by rfl) :
  PE X (.Call (.Attribute o name apos) (e::es) [] cpos) (DS X.K T r to t):=by
 intro g s i H Q I h;refine wpAny_Call_method_late b d c rfl (Ym (E g s i H _ I h) λv s1 ⟨x,n,k,m,ty,y⟩=>?_);obtain⟨F,A⟩:=GA k m ty;refine⟨T,id,u,f,j,F,A,?_⟩;have l:=D cpos g s1 i n _ k y;rw[p] at l ⊢;refine Calls.callWith_builtin (by show(aB || (dZ cpos (aS es X.env)).any (·.1))=aB;rw[a]<;>rfl) (Calls.evalArgs_plain ?_);exact Ym l λq s2 ⟨vs,C,z,w,G⟩=>B g s2 i C x vs v q Q z m w G
end
noncomputable def DT(X:Cx)(id:String)(r:V->List V->Hp->VK->Prop):Prop:=
 ∀(jq:List (aG×cj))(s:aL)(σ:St)(H:Hp)(x:V)(xs:List V)(v:aF)(us:List aF)(Q:VK),Inv X jq σ H s->RelV x v->Vals xs us->r x xs H Q->
  ay (model X.prog X.w) X.A (call (.builtin id) (v::us)) (EP X jq σ Q) X.xe s
theorem Vals.one:∀{x:V}{us:List aF},Vals [x] us->∃u,us=[u]/\RelV x u
 | _,_,.cons r .nil=>⟨_,rfl,r⟩
theorem Vals.two:∀{x y:V}{us:List aF},Vals [x,y] us->∃u v,us=[u,v]/\RelV x u/\RelV y v
 | _,_,_,.cons r (.cons q .nil)=>⟨_,_,rfl,r,q⟩
theorem Vals.dropLast{a:List V}{b:List aF}(h:Vals a b):Vals a.dropLast b.dropLast:=by
 induction h with
 | nil=>exact .nil
 | cons r t ih=>
  cases t with
  | nil=>exact .nil
  | cons q t'=>exact .cons r ih
theorem Vals.rep{a:List V}{b:List aF}(h:Vals a b):∀k:Nat,Vals (aT k a).flatten (aT k b).flatten
 | 0=>.nil
 | k+1=>by rw[ck,ck,dX,dX];exact Vals.append h (Vals.rep h k)
theorem Ul(a:List aF):∀(k:Nat)(acc:List aF),
  i5 (λb d=>b++d) acc.toArray (aT k a.toArray)=(acc++(aT k a).flatten).toArray
 | 0,acc=>by simp
 | k+1,acc=>by
  have e:acc.toArray++a.toArray=(acc++a).toArray:=by simp
  have c:(acc++a)++(aT k a).flatten=acc++(aT (k+1) a).flatten:=by rw[ck,dX,eT]
  rw[<-c,<-Ul a k (acc++a),<-e,ck,List.foldl_cons]
section
variable {X:Cx} {jq:List (aG×cj)} {σ:St} {H:Hp} {s:aL} {l b:aG} {xs ys zs:List V}
theorem Inv.lset{b a:List aF}{n:Nat}{f:Array aF->Array aF}{t':Nat}(I:Inv X jq σ H s)(h:H l=aA (.lst xs))
  (e:s.heap.get? l=aA { cls:=.type "list",data:=.seq b.toArray n }) (c:f b.toArray=a.toArray) (j:Vals ys a) (g:ys.length<=sizeLine) :
  Inv X jq σ (upd H l (.lst ys)) { s with heap:=s.heap.update l (iZ f),toks:=t' }:=by
 have q:=PySem.IsL.update e f;rw[c] at q;refine I.write (by rw[h];exact trivial) (.inl rfl) (λk u i d=>(g8 s.heap (iZ f) (ar i)).trans d) ⟨_,q⟩ ?_;exact⟨g,a,_,j,q⟩
theorem Inv.lnew{a:List aF}{t':Nat}(I:Inv X jq σ H s)(c:Vals ys a)(b:ys.length<=sizeLine) :
  Inv X jq σ (upd H s.heap.objs.size (.lst ys)) { s with heap:=s.heap.push { cls:=.type "list",data:=.seq a.toArray },toks:=t' }:=
 I.laid (λ_ _ q=>aE _ q) (aH _) ⟨b,a,0,c,aX _ rfl⟩
theorem Inv.fresh(I:Inv X jq σ H s):H s.heap.objs.size=none:=I.hok.fresh (aH _)
theorem Inv.lstM(I:Inv X jq σ H s)(b:H l=aA (.lst xs)):xs.length<=sizeLine/\∃(a:List aF) (n:Nat),Vals xs a/\xs.length=a.length/\s.heap.get? l=aA { cls:=.type "list",data:=.seq a.toArray n }:=by obtain⟨z,a,n,r,e⟩:=I.hok l _ b;exact⟨z,a,n,r,r.length,e⟩
theorem Pc{n:Nat}(h:n<=sizeLine):dz n=aB:=by exact decide_eq_false (by omega)
end
section
variable {X:Cx}
noncomputable def JG:V->List V->Hp->VK->Prop:=λx vs H Q=>∃l b xs zs,x = .ref l/\vs=[.ref b]/\H l=aA (.lst xs)/\H b=aA (.lst zs)/\xs.length+zs.length<=sizeLine/\Q .non (upd H l (.lst (xs++zs)))
theorem mt_extend:DT X "list.extend" JG:=by
 intro B s G H x vs v y Q I j m h;obtain⟨l,b,A,D,rfl,rfl,g,w,E,q⟩:=h;cases j;obtain⟨u,rfl,p⟩:=m.one;cases p;obtain⟨z,d,n,r,C,e⟩:=I.lstM g;obtain⟨J,a,t,k,o,i⟩:=I.lstM w;have f:d.toArray.size+a.toArray.size<=sizeLine:=by rw[aO,aO];omega
 have c:¬(!d.toArray.isEmpty&&dz (d.toArray.size+a.toArray.size))=aC:=by rw[Pc f,Bool.and_false];exact bK
 refine fC F.slot_list_extend ⟨_,e,rfl⟩ F.entry_list_extend (F.args_list_extend_2 _ _)
  (AutoSeq1.list_extend_list_list_0 l d.toArray n b a.toArray t c (by omega) (by omega)) ⟨e,i,?_⟩
 refine⟨.non,_,I.lset g e (by simp) (r.append k) ?_,rfl,q⟩;rw[bZ];omega
noncomputable def Dw:R2:=λx y H Q=>∃l b xs zs,x = .ref l/\y = .ref b/\H l=aA (.lst xs)/\H b=aA (.lst zs)/\xs.length+zs.length<=sizeLine/\∀p,H p=none->Q (.ref p) (upd H p (.lst (xs++zs)))
theorem GB:Uh X (cX .Add) Dw:=by
 intro p s C H x y v u Q I f i h;obtain⟨l,b,o,w,rfl,rfl,k,m,A,q⟩:=h;cases f;cases i;obtain⟨z,c,n,r,t,e⟩:=I.lstM k;obtain⟨D,a,B,g,j,d⟩:=I.lstM m;refine PySem.P.add_list e d ?_ (by rw[aO,aO];omega);have ea:c.toArray++a.toArray=(c++a).toArray:=by simp
 rw[ea];exact⟨.ref _,_,I.lnew (r.append g) (by rw[bZ];omega),rfl,q _ I.fresh⟩
noncomputable def Dx:R2:=λx y H Q=>∃l k xs,x = .ref l/\y = .int k/\H l=aA (.lst xs)/\-(2^63)<=k/\k<2^63/\xs.length*k.toNat<=sizeLine/\
 ∀p,H p=none->Q (.ref p) (upd H p (.lst (aT k.toNat xs).flatten))
theorem Qd{b:Type}(a:List b)(k:Nat):(aT k a).flatten.length=k*a.length:=by simp
theorem GC:Uh X (cX .Mult) Dx:=by
 intro M s N H x y v u Q I p A h;obtain⟨l,k,L,rfl,rfl,E,C,w,j,q⟩:=h;cases p;obtain⟨t,rfl⟩:=A;obtain⟨z,b,n,r,D,e⟩:=I.lstM E;have g:b.toArray.size*k.toNat<=sizeLine:=by rw[aO,<-D];exact j
 have i:¬b.toArray.size*k.toNat>(2^63-1)/8:=by
  have:(sizeLine:Nat)<=(2^63-1)/8:=by decide
  omega
 have f:¬(!Builtin.List.listFitsIndex k)=aC:=by rw[fitsIndex_both C w];exact bK
 have c:¬dz (b.toArray.size*k.toNat)=aC:=by rw[Pc g];exact bK
 have d:i5 (λB J=>B++J) #[] (aT (if b.toArray.isEmpty=aC then 0 else k.toNat) b.toArray)=(aT k.toNat b).flatten.toArray:=by
  have G:=λm=>by have:=Ul b m [];rw[List.nil_append] at this;exact this
  rw[G]
  cases b with
  | nil=>simp
  | cons a r'=>rw[jx (by simp)]
 refine gC rfl ⟨_,e,rfl⟩ (λo=>g9 o k t) noFill_list_mul F.fills_int_mul F.slot_int_rmul repeat_list F.slot_int_index.lookup
  (fC F.slot_int_rmul (g9 s k t) F.entry_int_rmul (F.args_int_rmul_2 _ _) (int___rmul___int_list k t l b.toArray n)
   ⟨e,rfl,⟨_,e,rfl⟩,fC F.slot_list_mul ⟨_,e,rfl⟩ F.entry_list_mul (F.args_list_mul_2 _ _) (AutoListH.list___mul___list_int_3 l b.toArray n k t f i c) ⟨e,?_⟩⟩)
 rw[d];exact⟨.ref _,_,I.lnew (r.rep k.toNat) (by rw[Qd,cN];exact j),rfl,q _ I.fresh⟩
end
end L2
namespace Att
open PySem PySem.W PySem.Calls PyProof.Rows
theorem Tc{P:Params}{h:bR}:∀(c:List Int)(vs:List aF),WellAll P h vs (c.map jM)->IntsAre vs c:=by
 intro c
 induction c with
 | nil=>
  intro vs w;cases w;exact .nil
 | cons n c ih=>
  intro vs w
  cases w with
  | cons a b=>
   cases a;exact .cons _ _ (ih _ b)
theorem script_of{l:OpenLaw}{n:Nat}(p:l.most=aA n){P:Params}{h:bR}{b:List WData}{e:List aF}
  (f:l.row.toRowW.claim.pre b=aC) (k:WellAll P h e b) :
  ∃a vs c,e=[jG a]/\b=[WData.list (c.map jM)]/\h.get? a=aA { cls:=.type "list",data:=.seq vs.toArray }/\IntsAre vs c/\c.length<=n:=by
 have j:=(pre_splitW f).1;have o:=(pre_splitW f).2;obtain⟨d,r,rfl,s,q⟩:=hasAllW_cons j;obtain rfl:=hasAllW_nil q;obtain⟨u,rfl,t⟩:=hasW_list s;obtain⟨c,rfl⟩:=items_int t
 have g:c.length<=n:=by
  have i:(WTm.not (.lt (.lit (.int (n:Int))) (.len (.arg 0)))).holds [] { args:=[.list (c.map .int)] }=aC:=by have i:=(holds_andW o).1;rw[p] at i;exact i
  have m:=condW_of i (w_not (w_lt w_lit (w_len_list (w_arg rfl))))
  first
   | (rw[decide_eq_true q'] at m;exact absurd m rfl)
   | (simp at m;omega)
 cases k with
 | cons w1 w2=>
  cases w2
  cases w1 with
  | list ho hall=>exact⟨_,_,c,rfl,rfl,ho,Tc c _ hall,g⟩
theorem post_true(l:OpenLaw)(a:List WData):l.row.toRowW.claim.post a (.bool aC) a=aC:=
 postW_of
  (show WShape.has [] (.bool aC) .bool=aC by first | rfl | decide | simp[WShape.arms])
  (w_eq_bool (w_res rfl) w_lit) rfl
end Att
namespace L2
open PySem PySem.Spec PyProof.Rows
structure M2(X:Cx)(o:ao)(m:ah)(apos:dj)(e f:ao)(cpos:dj):Prop where
 base:attributeBase o m X.env (eval o X.env)=eval o X.env
 few:((dZ cpos (aS [e,f] X.env)).all (λx=>!x.1)&&(backToKw cpos (keywordEach [] X.env)).all (λx=>x.1.isSome)
  &&decide (([e,f]:List ao).length+([]:List Keyword).length+(if([]:List Keyword).isEmpty then 0 else 1)<30))=aC
 line:(apos.endLine==cpos.line)=aC
 trees:dZ cpos (aS [e,f] X.env)=[(aB,eval e X.env),(aB,eval f X.env)]
theorem Ry:∀{vs:List aF}{ns:List Int},IntsAre vs ns->Vals (ns.map V.int) vs
 | _,_,.nil=>.nil
 | _,_,.cons n t h=>.cons ⟨t,rfl⟩ (Ry h)
noncomputable def GD(H:Hp):Prop:=∀b,H b=none\/∃o xs,H b=aA (.frz o (.lst xs))
theorem law_call{P:bI}{w:br}{K:aD}{Q W:ah->Option aF}{CX:Jx}{k:Nat}{fa a:aG}{fd:dN}{x:ah}{sp:Sp}{f:aL}{vs:List aF}{D:List Int}
  (N:∀(q:ah)(c:aG),Mq q=aC->cH K (.ref c) q=aC->False) (KX:K.In f.heap) (I:f.heap.Ns cD Q) (j:f.heap.Ns iV W) (C:∀x:ah,x≠"__name__"->W x=cW x) (L:f.heap.NoLimit) (p:f.heap.NoSeer) (hg:f.gens = #[])
  (J:f.heap.get? a=aA { cls:=.type "list",data:=.seq vs.toArray }) (hi:IntsAre vs D) (hl:D.length<=sizeLine) (hr:Room k jB)
  (F:∀base:bR,K.In base->base.Ns cD Q->Tb P w K Q base CX k fa fd [x] sp) (B:∀(s:aL)(u:aF),ir s fd ⟨[u],[]⟩ [(x,u)])
  (hsp:∀H:Hp,GD H->SqL K H a (D.map V.int)->sp [.ref a] H (λv _=>v = .bl aC) λ_ _ _=>False)
  (Z:∀H e l,CX [] H f (λ_ _ _=>False) e l->False) :
  gZ (model P w) jB (.call (.ref fa) ⟨[.ref a],[]⟩) (λr l=>r = .ok (.ret (.bool aC))/\OldK f.heap l.heap/\l.os=f.os/\gX l.gens) f:=by
 have rv:=Ry hi;have G:=hi.length
 -- from an abstract heap in which nothing but the script may be tracked
 have A:∀H:Hp,GD H->SqL K H a (D.map V.int)->HOk P w H f.heap->(∀b,H b≠none->b=a)->(H a≠none->K.lookup a=none)->
   gZ (model P w) jB (.call (.ref fa) ⟨[.ref a],[]⟩) (λr l=>r = .ok (.ret (.bool aC))/\OldK f.heap l.heap/\l.os=f.os/\gX l.gens) f:=by
  intro H hO hS E hA hK;have g:∀{b:aG}{o:cj},f.heap.get? b=aA o->H b=none->(R6 f.heap H).get? b=aA o:=λe n=>Ls e n
  have noA:∀{b:aG}{o:cj}{R:Array DictEntry}{ep:Nat},f.heap.get? b=aA o->o.data = .dict R ep->H b=none:=λ{b o R ep} e d=>by
   cases q:H b with
   | none=>rfl
   | some u=>
    have T:b=a:=hA b (by rw[q];simp);subst T;rw[J] at e;cases e;have d':Data.seq vs.toArray _=Data.dict R ep:=d;cases d'
  have i:∀{b:aG}{m:ah->Option aF},f.heap.Ns b m->(R6 f.heap H).Ns b m:=λ{b m} ⟨o,R,ep,e,d,r⟩=>⟨o,R,ep,g e (noA e d),d,r⟩
  have O:K.In (R6 f.heap H):=λb o e=>g (KX b o e) (by
   cases q:H b with
   | none=>rfl
   | some u=>
    have T:b=a:=hA b (by rw[q];simp);subst T;rw[hK (by rw[q];simp)] at e;cases e)
  have hbm:∀{b:aG}{o:cj},f.heap.get? b=aA o->o.cls = .type "module"->H b=none:=λ{b o} e d=>by
   cases q:H b with
   | none=>rfl
   | some u=>
    have T:b=a:=hA b (by rw[q];simp);subst T;rw[J] at e;cases e;injection d with d
    exact absurd d (by decide)
  have hM:Mod K Q (R6 f.heap H):=⟨O,i I,⟨W,i j,C⟩,let⟨X,t,y⟩:=L;⟨X,i t,y⟩,⟨let⟨X,t,y⟩:=p.statics;⟨X,i t,y⟩,let⟨mm,t,y⟩:=p.mods;⟨mm,i t,y⟩,⟨W,i j,C⟩,let⟨mg',bm,Y,t,y,h3,h4,h5⟩:=p.main;⟨mg',bm,Y,i t,y,g h3 (hbm h3 h4),h4,h5⟩⟩⟩;have e0:Jy P w K Q (R6 f.heap H) jB [] f H:=⟨rfl,hM,λb o e=>Ji e,Nat.le_of_eq (Mr _ _),trivial,λb j=>absurd (show b∈([]:List aG) from j) (by simp),λq c t y=>(N q c t y).elim,E,.of_eq hg⟩;refine iu ((F _ O (i I)).run jB [] f H ⟨[.ref a],[]⟩ [.ref a] [.ref a] _ _ hr e0 (B f (.ref a)) (.cons rfl .nil) (hsp H hO hS)) λr l h=>?_
  cases r with
  | error e=>exact(Z H e l h).elim
  | ok fl=>
   cases fl with
   | next=>exact dQ h
   | brk=>exact dQ h
   | cont=>exact dQ h
   | ret u=>
    obtain⟨v,H',os,M,un,S,r',q⟩:=h;have q':v = .bl aC:=q;subst q';obtain rfl:u=aF.bool aC:=r';refine⟨rfl,OldK.of_keep λb o e=>?_,os,M⟩
    cases q:H b with
    | none=>exact un.keep b o e q (by intro z;exact absurd (show b∈([]:List aG) from z) (by simp)) (by simp)
    | some u=>
     rcases hO b with z | ⟨Y,xs,z⟩
     ·rw[q] at z;cases z
     ·have z2:=un.frzs b Y _ z;obtain⟨e1,_⟩:=E b _ z;obtain⟨e2,_⟩:=S b _ z2;rw[e] at e1;cases e1;exact e2
 cases hk:K.lookup a with
 | some o=>
  -- the script is one of the module's own objects
  have e:=KX a o hk;rw[J] at e;cases e;refine A (λ_=>none) (λ_=>.inl rfl) (.inr ⟨_,vs.toArray,_,hk,rfl,rfl,rfl,by rw[aO,G];exact hl,by simpa using rv⟩) (λb u z=>by have U:(none:Option HO)=aA u:=z;cases U) (λb z=>absurd rfl z) λz=>absurd rfl z
 | none=>
  refine A (λb=>if b=a then aA (.frz { cls:=.type "list",data:=.seq vs.toArray } (.lst (D.map V.int))) else none) (λb=>?_) (.inl (.inr ⟨{ cls:=.type "list",data:=.seq vs.toArray },jw rfl⟩)) (λb u z=>?_) (λb z=>?_) λ_=>hk
  ·by_cases j:b=a
   ·exact .inr ⟨_,_,jw j⟩
   ·exact .inl (jx j)
  ·by_cases j:b=a
   ·have U:=(jw j).symm.trans z;cases U;subst j;exact⟨J,by rw[aQ];exact hl,vs,_,rv,J⟩
   ·have U:=(jx j).symm.trans z;cases U
  ·by_cases j:b=a
   ·exact j
   ·exact absurd (jx j) z
noncomputable def YM(s:ba):Arguments:=match s with
 | .FunctionDef _ a _ _ _ _ _ _ _ _=>a
 | _=>{ posonlyargs:=[],args:=[],vararg:=none,kwonlyargs:=[],kw_defaults:=[],kwarg:=none,defaults:=[] }
noncomputable def Z7(s:ba):List ba:=match s with
 | .FunctionDef _ _ b _ _ _ _ _ _ _=>b
 | _=>[]
noncomputable def Ze(s:ba):cx:=match s with
 | .FunctionDef _ _ _ _ _ _ sc _ _ _=>sc
 | _=>{ kind:=.function,names:=[],isGenerator:=aB,isCoroutine:=aB }
abbrev OD:Jx:=λ_ _ _ _ _ _=>False
abbrev E0:XK:=λ_ _ _=>False
theorem Eb{X:Cx}:Oz OD X E0:=λ_ _ _ _ _ _ _ h=>h.elim
structure Fun(K:aD)(x qual:ah)(st:ba)(f:aG)(fd:dN):Prop where
 ex:∃(oc:aF) (od:Option aG) (kV doc pm:aF) (an:Option aG) (cdv ct:aF) (osl:Array (Option aF)),
  fd=cM x qual (YM st) (Z7 st) (Ze st) .none kV doc pm an cdv ct/\K.lookup f=aA ⟨oc,od,.func fd,osl⟩/\cH K cdv qual=aC
 kp:eO K (.ref f)=aC
section
variable {P:bI} {w:br} {K:aD} {mg:ah->Option aF} {base:bR}
theorem Fun.ok{x b:ah}{st:ba}{f:aG}{j:dN}{N e:List ah}{k:Nat}{sp:Sp}(F:Fun K x b st f j)(S:Zl N e (Ze st))(len:∀vs H Q E,sp vs H Q E->vs.length=e.length)
  (d:∀(c:aF)(A:bc)(a:List jH)(s:aL)(H:Hp)(vs:List V)(Q:VK)(E:XK),Room k (A.deeper (fA b (Ze st) s.heap.objs.size f c))->sp vs H Q E->
   ∃t,PSs (TJ OD P w K mg base N b (Ze st) f c A a s H E).nox (Z7 st) t/\t { nx:=λ_ p=>Q .non p,rt:=Q } (start N vs) H):Tb P w K mg base OD (k+1) f j e sp:=by
 obtain⟨r,u,kV,l,v,y,c,ct,m,rfl,n,g⟩:=F.ex;refine Yy n g S len λA a s H vs Q E o i=>?_;obtain⟨t,h,q⟩:=d c A a s H vs Q E o i;exact⟨t,h.nox,q⟩
theorem Fun.binds{x a:ah}{st:ba}{f:aG}{i:dN}{d:List ah}(F:Fun K x a st f i)
  (h:∀(kV b e:aF)(g:Option aG)(c ct:aF)(us:List aF),us.length=d.length->gQ (cM x a (YM st) (Z7 st) (Ze st) .none kV b e g c ct) ⟨us,[]⟩=pure (d.zip us)):Binds K i d []:=by
 obtain⟨l,n,kV,b,e,g,c,ct,j,rfl,m,k⟩:=F.ex;exact .all (h kV b e g c ct)
theorem GF{x a:ah}{st:ba}{f:aG}{j:aF}{i h:Option aG}{e:Array (Option aF)}{kV d g b ct:aF}(l:K.lookup f=aA ⟨j,i,.func (cM x a (YM st) (Z7 st) (Ze st) .none kV d g h b ct),e⟩)
  (c:cH K b a=aC) (k:eO K (.ref f)=aC):Fun K x a st f (cM x a (YM st) (Z7 st) (Ze st) .none kV d g h b ct):=⟨⟨j,i,kV,d,g,h,b,ct,e,rfl,l,c⟩,k⟩
end
section
variable {X:Cx}
theorem pv(i:Nat){x:ah}{b:dj}(d:X.N[i]?=aA x:=by rfl)(e:EL X.env.scope x:=by first | exact i6 rfl | exact hV (i6 rfl) | exact hV (hV rfl))(c:(x==("__debug__" : ah))=aB:=by decide)
  (a:(x==("__classdict__" : ah))=aB:=by decide):PE X (.Name x b) (Q6 i):=HN d e c a
end
theorem Ec{A B:Prop}(h:B):if aB=aC then A else B:=by rw[jx bK];exact h
theorem Ed{A B:Prop}(h:A):if aC=aC then A else B:=by rw[jw rfl];exact h
noncomputable def Same(H H':Hp):Prop:=∀b o,H b=aA o->H' b=aA o
theorem Same.refl(H:Hp):Same H H:=λ_ _ h=>h
theorem Same.trans{H d e:Hp}(a:Same H d)(b:Same d e):Same H e:=λc o h=>b c o (a c o h)
theorem Same.free{H a:Hp}(e:Same H a){l:aG}(h:a l=jm):H l=jm:=by
 cases q:H l with
 | none=>rfl
 | some o=>
  rw[e l o q] at h;cases h
end L2
set_option maxHeartbeats 4000000
namespace L2
open PySem PySem.Spec PyProof.Rows
noncomputable def YQ(cells:List (ah×aG)):List (ah×cy)->List (ah×aG)->List (ah×aG)
 | [],acc=>acc
 | (n,k)::r,acc=>YQ cells r (if(k==bC)=aC then(n,(cells.lookup n).getD 0)::acc else acc)
theorem Vc{env:jH}:∀(names:List (ah×cy))(acc:List (ah×aG)),(∀y∈names,y.2 = .free->(env.cells.lookup y.1).isSome=aC)->
  (forIn (m:=Sem) names acc λ(x:ah×cy) (d:List (ah×aG))=>
   match x with
   | (name,kind)=>if(kind==bC)=aC then do
     let c <-cellOf env name
     pure (dS ((name,c)::d))
    else pure (dS d))=pure (YQ env.cells names acc)
 | [],acc,_=>rfl
 | (n,k)::r,acc,h=>by
  rw[List.forIn_cons];have e:=λa=>Vc r a λy i=>h y (aU _ i)
  cases hk:(k==bC) with
  | true=>
   have g:=h (n,k) a9 (by simpa using hk);obtain⟨c,b⟩:=bY.mp g;have b:env.cells.lookup n=aA c:=b;have f:cellOf env n=pure c:=by unfold cellOf;rw[b]
   dsimp only
   rw[hk,jw rfl,f];refine dH (e ((n,c)::acc)) ?_;show _=pure (YQ env.cells r (if(k==bC)=aC then(n,(env.cells.lookup n).getD 0)::acc else acc));rw[jw hk,b];rfl
  | false=>
   dsimp only
   rw[hk,jx bK];refine dH (e acc) ?_;show _=pure (YQ env.cells r (if(k==bC)=aC then(n,(env.cells.lookup n).getD 0)::acc else acc));rw[jx (by rw[hk];exact bK)]
theorem Xw{a:cx}{env:jH}(h:∀y∈a.names,y.2 = .free->(env.cells.lookup y.1).isSome=aC):closureFor a env=pure (YQ env.cells a.names []):=by
 have e:=Vc a.names [] h;unfold closureFor
 dsimp only
 rw[e];rfl
theorem XN{cells:List (ah×aG)}{x:ah}{c:aG}:∀(names:List (ah×cy))(acc:List (ah×aG)),(∀y∈names,y.2 = .free->(cells.lookup y.1).isSome=aC)->(acc.lookup x=aA c->cells.lookup x=aA c)->
  (YQ cells names acc).lookup x=aA c->cells.lookup x=aA c
 | [],_,_,h,e=>h e
 | (n,k)::r,acc,hf,h,e=>by
  refine XN r _ (λy g=>hf y (aU _ g)) ?_ e;intro q;by_cases b:(k==bC)=aC
  ·rw[jw b,bG] at q
   cases hx:x==n with
   | true=>
    rw[hx] at q;have f:x=n:=by simpa using hx
    obtain⟨d,a⟩:=bY.mp (hf (n,k) a9 (by simpa using b));have a:cells.lookup n=aA d:=a;rw[a] at q;rw[f,a];exact q
   | false=>rw[hx] at q;exact h q
  ·rw[jx b] at q;exact h q
theorem TM{cells:List (ah×aG)}{x:ah}:∀(names:List (ah×cy))(acc:List (ah×aG)),(acc.lookup x).isSome=aC->((YQ cells names acc).lookup x).isSome=aC
 | [],_,h=>h
 | (n,k)::r,acc,h=>by
  refine TM r _ ?_;split
  ·rw[bG];split<;>simp_all
  ·exact h
theorem XQ{cells:List (ah×aG)}{x:ah}:∀(names:List (ah×cy))(acc:List (ah×aG)),(x,bC)∈names->((YQ cells names acc).lookup x).isSome=aC
 | (n,k)::r,acc,h=>by
  rcases af.mp h with e | h
  ·cases e;refine TM r _ ?_;rw[jw (by decide),bG];simp
  ·exact XQ r _ h
structure CompScope(N:List ah)(around scope:cx)(own fr:List ah)(ix:List Nat):Prop where
 kind:scope.kind = .function
 nocell:∀y∈scope.names,y.2≠.cell
 names:∀y∈scope.names,y.2 = .local->scope.names.lookup y.1=aA .local
 frees:∀y∈scope.names,y.2 = .free->(around.names.lookup y.1=aA .cell\/around.names.lookup y.1=aA .free)
 slots:fr.map aA=ix.map (λi=>N[i]?)
 outs:∀x∈fr,(x,bC)∈scope.names
 apart:∀x∈fr,scope.names.lookup x≠aA .local
noncomputable def Zt(X:Cx)(N':List ah)(scope:cx)(cl:List (ah×aG))(C:aG)(s:aL)(H:Hp)(ex:List aG):Cx:=
 { X with N:=N',s₀:=s,H₀:=H,env:=hW scope cl C X.env,outer:=X.stack,ex:=ex,fn:=λ_=>aB,pn:=[],xe:=λ_ _=>False }
noncomputable def ZF(n:Nat)(ix:List Nat)(σ:St):St:=aT n none++ix.map (λi=>(σ[i]?).join)
theorem Yi{env:jH}{x:ah}:∀{names:List (ah×cy)}{k:cy},names.lookup x=aA k->
  (names.map λ(n,k)=>if(k==bC&&env.scope.kind==.function&&env.kindOf n==aA .cell) then(n,b0) else(n,k)).lookup x =
   aA (if(k==bC&&env.scope.kind==.function&&env.kindOf x==aA .cell)=aC then b0 else k)
 | [],_,h=>by simp at h
 | (n,k')::r,k,h=>by
  show List.lookup x ((if(k'==bC&&env.scope.kind==.function&&env.kindOf n==aA .cell)=aC then(n,b0) else(n,k'))::_)=_
  cases hx:x==n with
  | true=>
   simp only[bG,hx] at h;cases h;have e:x=n:=by simpa using hx
   subst e;split
   ·simp[bG]
   ·simp[bG]
  | false=>
   simp only[bG,hx] at h;split
   ·simp only[bG,hx];exact Yi h
   ·simp only[bG,hx];exact Yi h
theorem Y5{env:jH}{x:ah}:∀{names:List (ah×cy)}{k':cy},
  (names.map λ(n,k)=>if(k==bC&&env.scope.kind==.function&&env.kindOf n==aA .cell) then(n,b0) else(n,k)).lookup x=aA k'->∃k,names.lookup x=aA k
 | [],_,h=>by simp at h
 | (n,k0)::r,k',h=>by
  have h:List.lookup x ((if(k0==bC&&env.scope.kind==.function&&env.kindOf n==aA .cell)=aC then(n,b0) else(n,k0))::_)=aA k':=h
  cases hx:x==n with
  | true=>exact⟨k0,by simp[bG,hx]⟩
  | false=>
   have:∃k,r.lookup x=aA k:=by
    apply Y5 (env:=env) (k':=k');split at h<;>simpa [bG,hx] using h
   obtain⟨k,e⟩:=this;exact⟨k,by simp[bG,hx,e]⟩
section
variable {X:Cx} {jq:List (aG×cj)} {σ:St} {H:Hp} {s:aL} {own fr:List ah} {ix:List Nat} {scope:cx}
theorem CompScope.clos(S:CompScope X.N X.env.scope scope own fr ix)(I:Inv X jq σ H s):∀y∈scope.names,y.2 = .free->(X.env.cells.lookup y.1).isSome=aC:=λy b a=>by obtain⟨c,e⟩:=I.ok.has y.1 (S.frees y b a);rw[e];rfl
end
theorem Qe{prog:bI}{w:br}{A:bc}{R:jl->aL->Prop}{s:aL}{E a t:ao}{F:List ao}{q:cx}{C:dj}{D y:aF}{env:jH}(I:Nat->aL->Prop)
  (turn:∀n s,I n s->ay (model prog w) A (jj D) (λr d=>match r with
   | none=>R (.ok .next) d
   | some v=>ay (model prog w) A (gk a D v) (λ_ i=>ay (model prog w) A (assign a env v) (λ_ k=>
     ay (model prog w) A (forIn F aC λc r=>if r=aC then do let ok <-j3 c env (eval c env);pure (dS ok) else pure (dS r)) (λok g=>
      if ok=aC then ay (model prog w) A (eval E env) (λx j=>
       ay (model prog w) A (call (.builtin "list.append") [y,x]) (λ_ o=>∃m,m<n/\I m o) (iM (model prog w) A env λe b=>R (.error e) b) j) (iM (model prog w) A env λe b=>R (.error e) b) g
      else ∃m,m<n/\I m g) (iM (model prog w) A env λe b=>R (.error e) b) k) (iM (model prog w) A env λe b=>R (.error e) b) i) (iM (model prog w) A env λe b=>R (.error e) b) d) (iM (model prog w) A env λe b=>R (.error e) b) s)
  (n:Nat) (h:I n s) :
  gZ (model prog w) A (.compLoop (.ListComp E [⟨a,t,F,0⟩] q C) 0 D y env) R s:=by
 refine codeAny_loop rfl I (λn s G=>?_) n h;refine wpAny_noted ?_;refine aI (iR (aI (cJ (turn n s G) (λr d h₁=>?_) λ_ _ f=>f)))
 cases r with
 | none=>exact ag h₁
 | some v=>
  refine aI (cJ h₁ (λ_ i p=>?_) λ_ _ f=>f);refine aI (cJ p (λ_ k B=>aI (cJ B (λok g l=>?_) λ_ _ f=>f)) λ_ _ f=>f)
  cases ok with
  | false=>exact ag ⟨rfl,l⟩
  | true=>
   exact aI (aI (cJ l (λx j u=>aI (cJ u (λ_ o z=>ag (ag ⟨rfl,z⟩)) λ_ _ f=>f)) λ_ _ f=>f))
noncomputable def OE(X:Cx)(jt:List ao)(t:TT):Prop:=
 ∀(jq:List (aG×cj))(s:aL)(σ:St)(H:Hp)(Q:Bool->Hp->Prop),Inv X jq σ H s->t σ H Q->
  ay (model X.prog X.w) X.A (forIn jt aC λc r=>if r=aC then do let ok <-j3 c X.env (eval c X.env);pure (dS ok) else pure (dS r)) (TP X jq σ Q) X.xe s
noncomputable def Ee:TT:=λ_ H Q=>Q aC H
theorem JH{X:Cx}:OE X [] Ee:=λ_ _ _ H _ I h=>wpAny_tests_nil ⟨H,I,h⟩
theorem JI{X:Cx}{c:ao}{t:TT}(h:PT X c t):OE X [c] t:=λb s a H Q I d=>wpAny_tests_one (h b s a H Q I d)
noncomputable def Ef(n:Nat)(ix:List Nat)(g:TG)(tt:TT)(te:TE)(σ:St)(Q:VK)(J:It)(H1:Hp):Prop:=
 ∃W:Nat->Nat->List V->Hp->Prop,(∃m,W 0 m [] H1)/\∀i m ys H,W i m ys H->ys.length<=sizeLine/\
  ((J.stop i H/\∀p,H p=none->Q (.ref p) (upd H p (.lst ys)))\/
   (J.go i H/\∃N:List V->Hp->Prop,(∀ys' H',N ys' H'->∃m',m'<m/\W (i+1) m' ys' H')/\
    ∀x H',J.yld i H x H'->g x (ZF n ix σ) H' λσ2 H2=>σ2.drop n=(ZF n ix σ).drop n/\tt σ2 H2 λb H3=>if b=aC then te σ2 H3 λy H4=>N (ys++[y]) H4 else N ys H3))
noncomputable def TN(n:Nat)(ix:List Nat)(wi:TI)(g:TG)(tt:TT)(te:TE):TE:=λσ H Q=>wi σ H λJ H1=>Ef n ix g tt te σ Q J H1
theorem MD{n:Nat}{ix:List Nat}{b a:St}(d:a.drop n=(ZF n ix b).drop n):∀(i:Nat) v,(ZF n ix b)[i]?=aA (aA v)->a[i]?=aA (aA v):=λi v e=>by
 by_cases c:i<n
 ·unfold ZF at e;rw[aw (by simpa using c),b6] at e;rw[jw c] at e;cases e
 ·have q:=congrArg (λl=>l[i-n]?) d;simp only[dR] at q;rw[show n+(i-n)=i by omega] at q;rw[q];exact e
section
variable {X:Cx} {tg ju iter:ao} {jt:List ao} {scope:cx} {pos:dj} {own fr:List ah} {ix:List Nat} {wi:TI} {g:TG} {tt:TT} {te:TE}
theorem LJ{Y:List (aG×cj)}{B:St}{E:Hp}{s2:aL}{D:List aG}{h₁:bR}{tk:Nat}{C:aG}(S:CompScope X.N X.env.scope scope own fr ix)(d:Inv X Y B E s2)(f2:∀b∈D,XY X Y E b)(Q:∀b∈D,b<s2.heap.objs.size)
  (O:s2.heap.objs.size<=C) (L:h₁.Ns C λ_=>none) (s:∀b o,s2.heap.get? b=aA o->h₁.get? b=aA o) :
  Inv (Zt X (own++fr) scope (YQ X.env.cells scope.names []) C s2 E D) [] (ZF own.length ix B) E { s2 with heap:=h₁,toks:=tk }:=by
 have cs:=S.clos d;have sub:∀x c,(YQ X.env.cells scope.names []).lookup x=aA c->X.env.cells.lookup x=aA c:=λx c e=>XN scope.names [] cs (λh=>by simp at h) e;have U:=d.stkSub
 have T:(Zt X (own++fr) scope (YQ X.env.cells scope.names []) C s2 E D).Ok:=by
  refine⟨d.ok.mod,S.kind,d.ok.glob,d.ok.blt,O,λx y c t f=>d.ok.inj x y c (sub x c t) (sub y c f),λx hx=>?_,λx c h _=>?_,d.ok.hd,d.ok.frames,.inl rfl,λb A=>⟨?_,λx c e=>?_⟩,d.bs,?_,λb o e A=>?_,λb A z=>?_,d.stack,d.stkFree,d.ok.tab.un d.base,λ_ z=>absurd rfl z⟩
  ·-- the cells of the block's free names
   have I:(x,bC)∈scope.names:=by
    have:∃k',(relabel scope X.env).names.lookup x=aA k'/\(k' = .cell\/k' = .free):=by
     rcases hx with h | h
     ·exact⟨_,h,.inl rfl⟩
     ·exact⟨_,h,.inr rfl⟩
    obtain⟨k',e,M⟩:=this;obtain⟨k,F⟩:=Y5 e;have R:=Yi (env:=X.env) F;have e:(scope.names.map λ(n,k)=>if(k==bC&&X.env.scope.kind==.function&&X.env.kindOf n==aA .cell) then(n,b0) else(n,k)).lookup x=aA k':=e;rw[R] at e;have m:=cP F
    cases k with
    | free=>exact m
    | cell=>exact absurd rfl (S.nocell _ m)
    | _=>simp at e;subst e;rcases M with z | z<;>cases z
   exact bY.mp (XQ _ _ I)
  ·cases h
  ·-- D differs from the frame
   exact av (aZ (Q b A) O)
  ·exact(f2 b A).2.2.2.2.1 x c (sub x c e)
  ·exact aV d.ok.bsz d.sz
  ·rcases(f2 b A).2.2.2.1 with z | z
   ·exact d.ok.noex b o e z
   ·exact absurd (aZ (aP (d.ok.bs b o e).1) z) (bh _)
  ·rcases af.mp (U b z) with e | e
   ·exact(f2 b A).2.1 e
   ·exact(f2 b A).2.2.1 e
 have sl:fr.length=ix.length:=by simpa using congrArg fF S.slots
 refine⟨T,rfl,d.bare,Un.kept s,⟨_,L,λi x v t f g=>?_⟩,λx c e=>?_,d.hok.fresh O,λx c e=>d.freeC x c (sub x c e),λp hp=>absurd (show p∈([]:List (aG×cj)) from hp) (by simp),d.hok.kept s,?_⟩
 ·-- a name of the def around
  have t:(own++fr)[i]?=aA x:=t;have H:¬i<own.length:=λH=>by unfold ZF at f;rw[aw (by simpa using H),b6,jw H] at f;cases f
  rw[bS (by omega)] at t;unfold ZF at f;rw[bS (by simpa using H),cS,aR] at f
  cases ej:ix[i-own.length]? with
  | none=>rw[ej] at f;cases f
  | some j=>
   rw[ej] at f;have f:(B[j]?).join=aA v:=by simpa using f
   have f:B[j]?=aA (aA v):=by
    cases q:B[j]? with
    | none=>rw[q] at f;cases f
    | some z=>rw[q] at f;exact congrArg aA f
   have hN:X.N[j]?=aA x:=by have q:=congrArg (λl=>l[i-own.length]?) S.slots;simp only[aR,t,ej] at q;exact(ak q).symm
   have Z:=S.outs x (dc t);have W:=S.frees _ Z rfl;obtain⟨m,hn,hl⟩:=d.loc;obtain⟨u,r,l⟩:=hl j x v hN f (by rcases W with k | k;exact .inr (.inl k);exact .inr (.inr k));refine⟨u,r,?_⟩;rcases l with⟨k,_⟩ | ⟨_,c,hc,w⟩
   ·have k:X.env.scope.names.lookup x=aA .local:=k;rcases W with q | q<;>rw[k] at q<;>cases q
   ·obtain⟨c',G⟩:=bY.mp (XQ _ [] Z);have ec:=sub x c' G;rw[hc] at ec;cases ec;refine .inr ⟨?_,c,G,?_⟩
    ·have g:=g;rcases g with g | g
     ·obtain⟨k0,F⟩:=Y5 g;have R:=Yi (env:=X.env) F;have g:(scope.names.map λ(n,k)=>if(k==bC&&X.env.scope.kind==.function&&X.env.kindOf n==aA .cell) then(n,b0) else(n,k)).lookup x=aA .local:=g;rw[R] at g
      have N:k0 = .local:=by
       cases k0<;>simp at g ⊢
       split at g<;>cases g
      subst N;exact absurd F (S.apart x (dc t))
     ·exact g
    ·obtain⟨o,P,J⟩:=w;exact⟨o,s _ _ P,J⟩
 ·obtain⟨v,o,P,J⟩:=d.cell x c (sub x c e);exact⟨v,o,s _ _ P,J⟩
 ·show(ZF own.length ix B).length=(own++fr).length;unfold ZF;rw[bZ,cS,aQ,bZ,sl]
noncomputable def Q4(fv:ah->Bool)(X:Cx)(N':List ah)(scope:cx)(cl:List (ah×aG))(C:aG)(s:aL)(H:Hp)(ex:List aG):Cx:=
 { X with N:=N',s₀:=s,H₀:=H,env:=hW scope cl C X.env,outer:=X.stack,ex:=ex,fn:=fv,pn:=[],xe:=λ_ _=>False }
theorem Rz{fv:ah->Bool}{N:List ah}{cl:List (ah×aG)}{kk:Nat}{C D:aG}{h₁:bR}{tk:Nat}{jq:List (aG×cj)}{σ:St}{w:Hp}{s2:aL}{k:List aG}{it:aG}{tn:Nat->bR->Prop}{J:It}{Fin:List V->Hp->Prop}{RR:aF->aG->jl->aL->Prop}
  (F:X.calm=aC) (hg:PG (Q4 fv X N scope cl C s2 w k) tg g) (ht:OE (Q4 fv X N scope cl C s2 w k) jt tt) (he:PE (Q4 fv X N scope cl C s2 w k) ju te)
  (I2:Inv X jq σ w s2) (T:R8 X.prog X.w X.K tg J k it tn) (st2:tn 0 s2.heap) (f2:∀b∈k,XY X jq w b)
  {W:Nat->Nat->List V->Hp->Prop} {m0:Nat} (w0:W 0 m0 [] w)
  (turn:∀i m f H,W i m f H->f.length<=sizeLine/\
   ((J.stop i H/\Fin f H)\/
    (J.go i H/\∃N:List V->Hp->Prop,(∀ys' h,N ys' h->∃m',m'<m/\W (i+1) m' ys' h)/\
     ∀x h,J.yld i H x h->g x (ZF kk ix σ) h λσ2 w=>σ2.drop kk=(ZF kk ix σ).drop kk/\tt σ2 w λb t=>if b=aC then te σ2 t λy H4=>N (f++[y]) H4 else N f t)))
  (hRR:∀(D C:aG)(oC:cj)(m:ah->Option aF)(M:aL)(h:Hp)(f:List V),Inv X (jq++[(C,oC)]) σ (upd h D (.lst f)) M->M.heap.get? C=aA oC->M.heap.Ns C m->XY X jq (upd h D (.lst f)) C->h D=none->Fin f h->RR (.ref D) C (.ok .next) M)
  (hfp:∀b∈k,b<s2.heap.objs.size) (hC:@Eq Nat C (D+1)) (hDD:@Eq Nat s2.heap.objs.size D) (old:∀b o,s2.heap.get? b=aA o->h₁.get? b=aA o) (hacc:h₁.get? D=aA { cls:=.type "list",data:=.seq ([]:List aF).toArray 0 })
  (I0:∀tk,Inv (Q4 fv X N scope cl C s2 w k) [] (ZF kk ix σ) w { s2 with heap:=h₁,toks:=tk }) (hcl:∀x c,cl.lookup x=aA c->c≠D) :
  gZ (model X.prog X.w) X.A (.compStart (.ListComp ju [⟨tg,iter,jt,0⟩] scope pos) 0 (.ref it) (.ref D) (hW scope cl C X.env)) (RR (.ref D) C) { s2 with heap:=h₁,toks:=tk }:=by
 have hDC:@Ne Nat D C:=by omega
 have j:∀b,b<s2.heap.objs.size->b≠C/\b≠D:=λb a=>by rw[hDD] at a;exact⟨av (by omega),av a⟩
 have Z:gZ (model X.prog X.w) X.A (.compLoop (.ListComp ju [⟨tg,iter,jt,0⟩] scope pos) 0 (.ref it) (.ref D) (hW scope cl C X.env)) (RR (.ref D) C) { s2 with heap:=h₁,toks:=tk }:=by
  generalize s:Q4 fv X N scope cl C s2 w k=Y at I0 hg ht he
  have G:∀{h:Hp}{pn:List (aG×cj)},(∀b∈k,h b=none)->(∀p∈pn,∀b∈k,p.1≠b)->∀b∈k,XY Y pn h b:=λ{h pn} hn B b a=>by
   subst s;refine⟨hn b a,(j b (hfp b a)).1,λz=>?_,.inl a,λx c e=>?_,λp hp'=>B p hp' b a⟩
   ·exact(I0 0).ok.exfs b a z
   ·exact((I0 0).ok.exf b a).2 x c e
  have dfp:=λb a=>ar (j b (hfp b a)).2;have S:∀x c,Y.env.cells.lookup x=aA c->c≠D:=by subst s;exact hcl
  have hfsD:D∉Y.fs:=λz=>by subst s;obtain⟨_,o,ho,_⟩:=(I0 0).ok.funs.mem z;have:=aP ho;have:D<s2.heap.objs.size:=this;exact bh _ (Nat.lt_of_lt_of_eq this hDD)
  have eL:Y.env.locals=C:=by subst s;rfl
  have eS:Y.s₀=s2:=by subst s;rfl
  have eP:Y.pn=[]:=by subst s;rfl
  refine Qe (λn M=>∃i f A E h,Inv Y [] (ZF kk ix σ) h M/\tn i M.heap/\(∀b∈k,h b=none)/\M.heap.get? D=aA { cls:=.type "list",data:=.seq A E }/\Vals f A.toList/\h D=none/\W i n f h) ?_ m0
   ⟨0,[],#[],0,w,I0 _,T.keep _ _ _ st2 λb _ o e=>old b o e,λb a=>(f2 b a).1,hacc,.nil,I2.hok.fresh (by omega),w0⟩
  rintro n s3 ⟨i,f,A,E,t,I3,st3,fr3,oD,vD,nD,w3⟩;obtain⟨hlen,U⟩:=turn i n f t w3;have hsize:A.size<=sizeLine:=by have:=vD.length;simp only[du] at this;omega
  have pD:Inv Y [(D,{ cls:=.type "list",data:=.seq A E })] (ZF kk ix σ) t s3:=I3.pins_of λp B=>by rw[aq.mp B];exact⟨oD,nD,by rw[eL];exact hDC,hfsD,λv z=>by cases z⟩
  have YP:Y.prog=X.prog:=by subst s;rfl
  have Yw:Y.w=X.w:=by subst s;rfl
  have YK:Y.K=X.K:=by subst s;rfl
  have YA:Y.A=X.A:=by subst s;rfl
  have Yx:Y.xe=λ_ _=>False:=by subst s;rfl
  have Ye:Y.env=hW scope cl C X.env:=by subst s;rfl
  have ne1:∀p∈[((D,{ cls:=.type "list",data:=.seq A E }):aG×cj)],∀b∈k,p.1≠b:=λp B b a=>by rw[aq.mp B];exact dfp b a
  rcases U with⟨stop,qn⟩ | ⟨go,N,hN,step⟩
  ·have d:=T.done Y YP Yw YK (by subst s;exact F) i _ s3 _ t (iM (model X.prog X.w) X.A (hW scope cl C X.env) λe M=>RR (.ref D) C (.error e) M) pD (G fr3 ne1) st3 stop;rw[YA] at d;refine Ym d λr s4 ⟨hr,I4⟩=>?_;subst hr;obtain⟨oD4,l,_⟩:=I4.pin (D,_) (by rw[eP];exact a9);obtain⟨m,hn,_⟩:=I4.loc;rw[eL] at hn;obtain⟨oC,es,ep,hoC,hdC,hrest⟩:=id hn;have O:t C=none:=by have:=I4.free;rw[eL] at this;exact this
   have un:Un (Ol X.stack) k w t s2.heap s4.heap:=by have:=I4.base;subst s;exact this
   have lt2:∀b o,s2.heap.get? b=aA o->b≠D:=λb o e=>(j b (aP e)).2
   have un':Un (Ol X.stack) k w (upd t D (.lst f)) s2.heap s4.heap:=by
    refine⟨un.keep,un.slot,λb o e n hx=>?_,un.there,λb xs e=>?_,λb o u e=>?_,λb ps e=>?_⟩
    ·rw[upd_ne (lt2 b o e)];exact un.free b o e n hx
    ·have q:=un.tups b xs e;rw[upd_ne (Zm q l)];exact q
    ·have q:=un.frzs b o u e;rw[upd_ne (Zm q l)];exact q
    ·obtain⟨more,q⟩:=un.tbls b ps e;exact⟨more,by rw[upd_ne (Zm q l)];exact q⟩
   have hok4:HOk X.prog X.w t s4.heap:=by have:=I4.hok;rw[YP,Yw] at this;exact this
   have hok':HOk X.prog X.w (upd t D (.lst f)) s4.heap:=λb u q=>by
    by_cases a:b=D
    ·subst a;rw[Zn] at q;cases q;exact⟨hlen,A.toList,E,vD,by simpa using oD4⟩
    ·rw[upd_ne a] at q;exact(hok4 b u q).stay (λc v _ z=>z) (λc z=>by rw[upd_ne (Zm z l)];exact z) (λc xs z=>by rw[upd_ne (Zm z l)];exact z) λc u z=>by rw[upd_ne (Zm z l)];exact z
   have os4:s4.os=s2.os:=by rw[I4.os,eS]
   have I5:=I2.call' os4 un' hok' I4.bare λb a=>⟨(f2 b a).2.2.2.1,(f2 b a).2.1,(f2 b a).2.2.2.2.1,(f2 b a).2.2.2.2.2⟩;have CL:C≠X.env.locals:=λz=>by exact(j _ I2.lt).1 z.symm
   have P:XY X jq (upd t D (.lst f)) C:=I2.fpOk (by omega) (by rw[upd_ne (ar hDC)];exact O);refine hRR D C oC m s4 t f (I5.pins_of λp B=>?_) hoC hn P l qn;rcases bj.mp B with z | z
   ·exact I5.pin p (aa _ z)
   ·rw[aq.mp z];exact⟨hoC,P.1,P.2.1,P.2.2.1,λv z=>by rw[hdC] at z;cases z⟩
  ·have d:=T.item Y YP Yw YK (by subst s;exact F) i _ s3 _ t (λ_ _=>False) pD (G fr3 ne1) st3 go;rw[YA] at d;refine cJ d (λr s4 ⟨u,hr,h4⟩=>?_) λ_ _ z=>z.elim;subst hr;refine cJ h4 (λ_ s5 ⟨x,H5,I5,r5,y5,st5,fr5⟩=>?_) λ_ _ z=>z.elim;have I5':=I5.pinned (G fr5 ne1) (T.obj _ _ st5);have a6:=hg _ s5 _ H5 x u _ I5' r5 (step x H5 y5);rw[YP,Yw,YA,Ye,Yx] at a6;refine cJ a6 (λ_ s6 ⟨R,H6,I6,dr,q6⟩=>?_) λ_ _ z=>z.elim;have a7:=ht _ s6 R H6 _ I6 q6;rw[YP,Yw,YA,Ye,Yx] at a7;refine cJ a7 (λok s7 ⟨H7,I7,q7⟩=>?_) λ_ _ z=>z.elim
   have back:∀{L:Hp}{I:aL},Inv Y ([((D,{ cls:=.type "list",data:=.seq A E }):aG×cj)]++Ui k s5.heap) R L I->
     I.heap.get? D=aA { cls:=.type "list",data:=.seq A E }/\L D=none/\tn (i+1) I.heap/\(∀b∈k,L b=none):=λ{L I} Q=>by
    obtain⟨e1,e2,_⟩:=Q.pin (D,{ cls:=.type "list",data:=.seq A E }) (by simp);refine⟨e1,e2,T.keep _ _ _ st5 λb a o e=>(Q.pin (b,o) (by rw[eP];exact aU _ (XZ a e))).1,λb a=>?_⟩;obtain⟨o,e,_⟩:=T.obj _ _ st5 b a;exact(Q.pin (b,o) (by rw[eP];exact aU _ (XZ a e))).2.1
   have unp:∀{L:Hp}{I:aL},Inv Y ([((D,{ cls:=.type "list",data:=.seq A E }):aG×cj)]++Ui k s5.heap) R L I->Inv Y [] (ZF kk ix σ) L I:=λ{L I} Q=>
    (Q.pins_of λp B=>absurd B (by simp)).weak (by
     have e1:=(I0 0).len;have e2:=Q.len;rw[e1,e2]) (MD dr)
   cases ok with
   | false=>
    obtain⟨e1,e2,e3,e4⟩:=back I7;obtain⟨m',hm,w7⟩:=hN _ _ q7;exact⟨m',hm,i+1,f,A,E,H7,unp I7,e3,e4,e1,vD,e2,w7⟩
   | true=>
    have a8:=he _ s7 R H7 _ I7 q7;rw[YP,Yw,YA,Ye,Yx] at a8;refine cJ a8 (λyv I ⟨y,L,Q,ry,q8⟩=>?_) λ_ _ z=>z.elim;obtain⟨e1,e2,e3,e4⟩:=back Q;obtain⟨m',hm,w8⟩:=hN _ _ q8;refine append_at e1 (λh9 hs9 hD9=>?_) hsize;have I9:=(unp Q).turned (t':=I.toks) (λb o a e=>hs9.extBut b o a e) e2 (by rw[eL];exact hDC) (.inr (by rw[eS];omega)) S (λp B=>absurd (show p∈([]:List (aG×cj)) by rw[eP] at B;exact B) (by simp));refine⟨m',hm,i+1,f++[y],A.push yv,E+1,L,I9,T.keep _ _ _ e3 λb a o e=>hs9.extBut b o (ar (dfp b a)) e,e4,hD9,?_,e2,w8⟩;rw[Array.toList_push];exact vD.append (.cons ry .nil)
 exact codeAny_compStart_list Z (T.self X.A 0 _ _ _ (T.keep _ _ _ st2 λb _ o e=>old b o e) Z)
theorem TQ{M:List (aG×cj)}{O:St}{w:Hp}{s2:aL}{Q:List aG}{it:aG}{tn:Nat->bR->Prop}{J:It}{Fin:List V->Hp->Prop}{RR:aF->aG->jl->aL->Prop}{E:aF->aL->Prop}
  (r:X.calm=aC) (S:CompScope X.N X.env.scope scope own fr ix)
  (hg:∀cl C s H ex,PG (Zt X (own++fr) scope cl C s H ex) tg g) (ht:∀cl C s H ex,OE (Zt X (own++fr) scope cl C s H ex) jt tt) (he:∀cl C s H ex,PE (Zt X (own++fr) scope cl C s H ex) ju te)
  (L:Inv X M O w s2) (T:R8 X.prog X.w X.K tg J Q it tn) (u:tn 0 s2.heap) (f2:∀b∈Q,XY X M w b)
  {W:Nat->Nat->List V->Hp->Prop} {m0:Nat} (w0:W 0 m0 [] w)
  (turn:∀i m ys H,W i m ys H->ys.length<=sizeLine/\
   ((J.stop i H/\Fin ys H)\/
    (J.go i H/\∃N:List V->Hp->Prop,(∀ys' H',N ys' H'->∃m',m'<m/\W (i+1) m' ys' H')/\
     ∀x H',J.yld i H x H'->g x (ZF own.length ix O) H' λp w=>p.drop own.length=(ZF own.length ix O).drop own.length/\tt p w λb Z=>if b=aC then te p Z λy H4=>N (ys++[y]) H4 else N ys Z)))
  (R:∀(D C:aG)(oC:cj)(m:ah->Option aF)(s':aL)(H':Hp)(ys:List V),Inv X (M++[(C,oC)]) O (upd H' D (.lst ys)) s'->s'.heap.get? C=aA oC->s'.heap.Ns C m->XY X M (upd H' D (.lst ys)) C->H' D=none->Fin ys H'->RR (.ref D) C (.ok .next) s') :
  ay (model X.prog X.w) X.A (newList []) (λA I=>ay (model X.prog X.w) X.A (fZ scope X.env.globals (YQ X.env.cells scope.names []) [] X.env.qual none .none (aA X.env)) (λk t=>
   gZ (model X.prog X.w) X.A (.compStart (.ListComp ju [⟨tg,iter,jt,0⟩] scope pos) 0 (.ref it) A { k with scope:=relabel scope X.env }) (RR A k.locals) t) E I) E s2:=by
 have F:∀b∈Q,b<s2.heap.objs.size:=λb P=>by obtain⟨o,e,_⟩:=T.obj 0 s2.heap u b P;exact aP e
 refine cb (wpAny_newFunctionEnv S.nocell (by simp) (λh₁ d a=>?_) S.kind);generalize n:s2.heap.push { cls:=.type "list",dict:=none,data:=.seq ([]:List aF).toArray }=G2 at d a ⊢;have U:G2.objs.size=s2.heap.objs.size+1:=by rw[<-n,bg]
 generalize hCC:G2.objs.size=C at d a U ⊢;generalize l:s2.heap.objs.size=D at U ⊢;have Y:D≠C:=by omega
 have f:∀b,b<s2.heap.objs.size->b≠C/\b≠D:=λb P=>by rw[l] at P;exact⟨av (by omega),av P⟩
 have G:=λb o e=>a.extBut b o (f b (aP e)).1 (aE _ (n▸aE _ e))
 have B:h₁.get? D=aA { cls:=.type "list",data:=.seq ([]:List aF).toArray 0 }:=by
  have e0:G2.get? D=aA { cls:=.type "list",data:=.seq ([]:List aF).toArray 0 }:=by rw[<-n,<-l];exact aX _ rfl
  exact a.extBut _ _ Y (aE _ e0)
 have j:h₁.Ns C λ_=>none:=by simpa using d
 have I0:=λtk=>LJ (tk:=tk) S L f2 F (by omega) j G;refine Rz (s2:=s2) (h₁:=h₁) (fv:=λ_=>aB) (N:=own++fr) (C:=C) (D:=D) (cl:=YQ X.env.cells scope.names []) r (hg _ _ _ _ _) (ht _ _ _ _ _) (he _ _ _ _ _) L T u f2 w0 turn R F U l G B I0 λx c e z=>?_;obtain⟨v,q⟩:=L.cell x c (XN scope.names [] (S.clos L) (λh=>by simp at h) e);exact(f c q.lt).2 z
theorem JJ(c:X.calm=aC)(w:PI X tg iter wi)(S:CompScope X.N X.env.scope scope own fr ix)
  (G:∀cl C s H ex,PG (Zt X (own++fr) scope cl C s H ex) tg g) (j:∀cl C s H ex,OE (Zt X (own++fr) scope cl C s H ex) jt tt) (l:∀cl C s H ex,PE (Zt X (own++fr) scope cl C s H ex) ju te)
  (k:∀x,bQ iter X.env x=pure x:=by intro _;rfl):PE X (.ListComp ju [⟨tg,iter,jt,0⟩] scope pos) (TN own.length ix wi g tt te):=by
 intro q s B H Q I h;refine eA rfl k (Xw (S.clos I)) S.kind S.names (Ym (w q s B H _ I h) λv s1 y=>Ym y λE s2 r=>?_);obtain⟨O,P,R,J,U,e,n,T,i,f2,W,⟨Y,t⟩,turn⟩:=r;subst e;refine TQ c S G j l n T i f2 t turn ?_;intro D C oC m N M L z A p a u d;refine⟨m,p,λZ f=>⟨.ref D,upd M D (.lst L),?_,rfl,d D u⟩⟩;exact(z.unpinned).turned (λb o F e=>f.extBut b o F e) a.1 a.2.1 a.2.2.2.1 a.2.2.2.2.1 a.2.2.2.2.2
theorem JK{i:Nat}{y:ah}{r d:dj}(Z:X.N.Nodup)(M:X.N[i]?=aA y)(c:X.env.scope.names.lookup y=aA .local)(f:X.calm=aC)(Q:PI X tg iter wi)(S:CompScope X.N X.env.scope scope own fr ix)
  (hg:∀cl C s H ex,PG (Zt X (own++fr) scope cl C s H ex) tg g) (z:∀cl C s H ex,OE (Zt X (own++fr) scope cl C s H ex) jt tt) (B:∀cl C s H ex,PE (Zt X (own++fr) scope cl C s H ex) ju te)
  (l:fT (.ListComp ju [⟨tg,iter,jt,0⟩] scope pos) (aA (.Name y r)) d.line X.env=pure aC:=by rfl)
  (A:∀x,bQ iter X.env x=pure x:=by intro _;rfl):PS X (.Assign [.Name y r] (.ListComp ju [⟨tg,iter,jt,0⟩] scope pos) d) (Oo (TN own.length ix wi g tt te) (VB i)):=by
 intro L s σ H D0 I h;rw[exec_Assign_Name_used _ _ _ _ l];refine aI (iR (aI ?_))
 refine aI (cJ (eA rfl A (Xw (S.clos I)) S.kind S.names
  (Ym (Q L s σ H _ I h) λv s1 R=>Ym R λitv s2 N=>?_)) (λ_ w hq=>ag (ag hq)) λ_ _ e=>e)
 obtain⟨it,fp,tn,J,H2,e,F,T,p,f2,W,⟨m0,O⟩,turn⟩:=N;subst e;refine TQ f S hg z B F T p f2 O turn ?_;intro D C u m w H' ys U q G a P k;refine wpAny_assign_Name (TF U Z M (.inl c) (v:=.ref D) rfl (λs6 t=>?_) (.inr c));obtain⟨Y,_⟩:=t.pin (C,u) (aa _ (aa _ a9));obtain⟨o',E,ep,j,r'⟩:=G;rw[q] at j;cases j;refine⟨m,⟨u,E,ep,Y,r'⟩,λh' n=>⟨_,upd H' D (.lst ys),?_,k D P⟩⟩;exact(t.unpinned).turned (λb o hb e=>n.extBut b o hb e) a.1 a.2.1 a.2.2.2.1 a.2.2.2.2.1 a.2.2.2.2.2
end
open AutoSeq1 (wpAny_loadPart')
section
variable {prog:bI} {w:br} {A:bc} {E:aF->aL->Prop} {s:aL}
theorem VF{c l:aG}{i:Nat}{items}{x:aF}{Q:aF->aL->Prop}(a:s.heap.IsTupleIter c l i)
  (k:s.heap.IsTuple l items) (g:items[i]?=aA x)
  (j:∀h',h'.IsTupleIter c l (i+1)->cB c s.heap h'->Q x { s with heap:=h' }) :
  ay (model prog w) A (gD (.ref c)) Q E s:=by
 obtain⟨o,d,h,b⟩:=id a;obtain⟨n,f,_,m,e⟩:=k
 refine aI (c9 a.typeIs F.slot_tuple_iterator_next
  (dm F.slot_tuple_iterator_next a.typeIs F.entry_tuple_iterator_next ?_ (F.args_tuple_iterator_next_1 _)))
 show ay _ _ (field (.ref c) 0 >>= _) _ _ s;refine aI (bu d b rfl ?_);refine aI (bu d b rfl ?_);refine aI (cz f e ?_);simp only[eV,g];refine aI (wpAny_setField d b (by simp) (ag ⟨x,rfl,ag (j _ ?_ (iP ..))⟩));exact⟨_,gv _ d (cj.isFreed_of_fields (i7 b _)),(cj.cls_mapFields ..).trans h,by rw[i7 b];simp[gx]⟩
theorem Um{b l:aG}{i:Nat}{items}{Q:aF->aL->Prop}(h:A.handled=none)
  (a:s.heap.IsTupleIter b l i) (k:s.heap.IsTuple l items) (j:items[i]?=none)
  (n:∀h' e,jR b s.heap h'->(∃o,h'.get? e=aA o/\o.cls = .type "StopIteration")->E (.ref e) { s with heap:=h' }) :
  ay (model prog w) A (gD (.ref b)) Q E s:=by
 obtain⟨o,d,p,g⟩:=id a;obtain⟨r,f,_,q,c⟩:=k
 refine aI (c9 a.typeIs F.slot_tuple_iterator_next
  (dm F.slot_tuple_iterator_next a.typeIs F.entry_tuple_iterator_next ?_ (F.args_tuple_iterator_next_1 _)))
 show ay _ _ (field (.ref b) 0 >>= _) _ _ s;refine aI (bu d g rfl ?_);refine aI (bu d g rfl ?_);refine aI (cz f c ?_);simp only[eV,j];refine aI (j9 (aI (wpAny_setField d g (by simp) ?_)));refine aI ?_;refine aI (m:=firstArgMember _ _) (wpAny_of_eq rfl ?_);refine cb ?_ (by size_fits);refine aI (wpAny_handled ?_)
 first | rw[h] | rw[h]
 refine aI (ag (wpAny_throw ?_));exact n _ _ (((iP ..).extBut.push _).push _) ⟨_,aX _ rfl,rfl⟩
end
noncomputable def SeqB(b:Bool)(h:bR)(a:aG)(jv:Array aF):Prop:=if b=aC then h.IsList a jv else h.IsTuple a jv
noncomputable def IterB(b:Bool)(h:bR)(it a:aG)(i:Nat):Prop:=if b=aC then h.IsListIter it a i else h.IsTupleIter it a i
noncomputable def Td(b:Bool)(K:aD)(H:Hp)(a:aG)(xs:List V):Prop:=if b=aC then SqL K H a xs else SqT K H a xs
noncomputable def Wj(b:Bool)(a:aG):cj:={ cls:=.type (if b=aC then "list_iterator" else "tuple_iterator"),data:=.fields #[.ref a,.int 0 0] }
theorem SeqB.at{b:Bool}{h d:bR}{a:aG}{c:Array aF}(x:SeqB b h a c)(k:∀o,h.get? a=aA o->d.get? a=aA o):SeqB b d a c:=by
 cases b with
 | true=>obtain⟨o,e,r⟩:=(x);exact⟨o,k o e,r⟩
 | false=>obtain⟨o,e,r⟩:=(x);exact⟨o,k o e,r⟩
theorem SeqB.has{b:Bool}{h:bR}{a:aG}{c:Array aF}(x:SeqB b h a c):∃o,h.get? a=aA o:=by
 cases b with
 | true=>obtain⟨o,e,r⟩:=(x);exact⟨o,e⟩
 | false=>obtain⟨o,e,r⟩:=(x);exact⟨o,e⟩
theorem IterB.at{b:Bool}{h d:bR}{c a:aG}{i:Nat}(x:IterB b h c a i)(k:∀o,h.get? c=aA o->d.get? c=aA o):IterB b d c a i:=by
 cases b with
 | true=>obtain⟨o,e,r⟩:=(x);exact⟨o,k o e,r⟩
 | false=>obtain⟨o,e,r⟩:=(x);exact⟨o,k o e,r⟩
theorem IterB.has{b:Bool}{h:bR}{c a:aG}{i:Nat}(x:IterB b h c a i):∃o,h.get? c=aA o/\∀v,o.data≠.cell v:=by
 cases b with
 | true=>obtain⟨o,e,_,d⟩:=(x);exact⟨o,e,λv z=>by rw[d] at z;cases z⟩
 | false=>obtain⟨o,e,_,d⟩:=(x);exact⟨o,e,λv z=>by rw[d] at z;cases z⟩
theorem IterB.new{b:Bool}{h:bR}{c a:aG}(e:h.get? c=aA (Wj b a)):IterB b h c a 0:=by
 cases b with
 | true=>exact⟨_,e,rfl,rfl⟩
 | false=>exact⟨_,e,rfl,rfl⟩
section
variable {X:Cx} {jq:List (aG×cj)} {σ:St} {H:Hp} {s:aL} {a:aG} {xs ys:List V} {b:Bool}
theorem Inv.seqB(I:Inv X jq σ H s)(h:Td b X.K H a xs):∃c:List aF,Vals xs c/\SeqB b s.heap a c.toArray/\xs.length<=sizeLine:=by
 cases b with
 | true=>
  obtain⟨c,r,p,z⟩:=I.list (h);exact⟨c,r,p.isList,z⟩
 | false=>
  obtain⟨c,r,p,z⟩:=I.tuple (h);exact⟨c,r,p,z⟩
theorem Inv.seqB_inj(I:Inv X jq σ H s)(h:Td b X.K H a xs)(c:Td b X.K H a ys):xs=ys:=by
 cases b with
 | true=>exact I.list_inj (h) (c)
 | false=>exact I.tuple_inj (h) (c)
end
theorem Draws.seq{prog:bI}{w:br}{A:bc}(b:Bool)(p:A.handled=none)(f l:aG)(g:l≠f)(a:Array aF) :
  Draws prog w A f [f,l] a.size (λi v=>a[i]?=aA v) (λi h=>IterB b h f l i/\SeqB b h l a) where
 live:=λ_ _ st=>let⟨o,r,_⟩:=st.1.has;⟨o,r⟩
 frame:=λ_ _ _ st n=>⟨st.1.at λo e=>n f (by simp) o e,st.2.at λo e=>n l (by simp) o e⟩
 item:=λi s Q E j st q=>by
  cases b with
  | true=>
   refine wpAny_nextOf_list_item (st.1) (st.2) (x:=a[i]) (by simp[j]) λk c d=>?_;exact q _ k s.toks (by simp[j]) ⟨c,st.2.at λo e=>d.extBut l o g e⟩ d
  | false=>
   refine VF (st.1) (st.2) (x:=a[i]) (by simp[j]) λk c d=>?_;exact q _ k s.toks (by simp[j]) ⟨c,st.2.at λo e=>d.extBut l o g e⟩ d
 done:=λs Q E st m=>by
  cases b with
  | true=>exact wpAny_nextOf_list_end p (st.1) (st.2) (by simp) m
  | false=>exact Um p (st.1) (st.2) (by simp) m
theorem Z2{prog:bI}{w:br}{A:bc}{E:aF->aL->Prop}{s:aL}{b:Bool}{a:aG}{d:Array aF}{Q:aF->aL->Prop}(h:SeqB b s.heap a d)
  (c:Q (.ref s.heap.objs.size) { s with heap:=s.heap.push (Wj b a) }):ay (model prog w) A (pyIter (.ref a)) Q E s:=by
 cases b with
 | true=>exact wpAny_pyIter_list (h) c
 | false=>exact iW (h) c
set_option maxHeartbeats 4000000 in
theorem TR(b:Bool)(l:aG)(a:Array aF) :
  Meets (iN.«enumerate.__new__» ⟨[.type "enumerate",.ref l],[]⟩) (λ_ R s=>SeqB b s.heap l a/\
   R (.ok (.ret (.ref (s.heap.push (Wj b l)).objs.size)))
    { s with heap:=(s.heap.push (Wj b l)).push { cls:=.type "enumerate",data:=.fields #[.none,.bool aB,.ref s.heap.objs.size,gx 0,.none,.none] } }):=
 .of_wp λprog w A R s h=>by
  obtain⟨k,g,d,tk,os⟩:=s;obtain⟨j,h⟩:=h;have i:=sub_enumerate;obtain⟨o,e⟩:=j.has;have f:SeqB b (jn ⟨k,g,d,tk,os⟩) l a:=j
  wp_walk using fM e
  refine wpAny_stack_any λst=>ag ?_;split
  ·rename_i c _ _ _ _ _;cases (c==j2 "enumerate")
   ·wp_walk using fM e,Z2 f
    exact⟨_,rfl,h⟩
   ·wp_walk using fM e,Z2 f
    exact⟨_,rfl,h⟩
  ·wp_walk using fM e,Z2 f
   exact⟨_,rfl,h⟩
section
variable {prog:bI} {w:br} {A:bc} {E:aF->aL->Prop} {s:aL}
theorem S5{b:Bool}{l:aG}{a:Array aF}{Q:aF->aL->Prop}(f:SeqB b s.heap l a)
  (h:∀h',IsEnum h' (s.heap.objs.size+1) s.heap.objs.size 0 .none->IterB b h' s.heap.objs.size l 0->h'.objs.size=s.heap.objs.size+2->
   (∀b o,s.heap.get? b=aA o->h'.get? b=aA o)->Q (.ref (s.heap.objs.size+1)) { s with heap:=h' }) :
  ay (model prog w) A (call (.type "enumerate") [.ref l]) Q E s:=by
 refine callType_new F.called_enumerate rfl (F.typeCall_enumerate_1 _) (F.newCall_enumerate_1 _) (λc=>F.args_object_init_2 c _) F.entry_enumerate_new
  (TR b l a) ⟨f,?_⟩
 have e:(s.heap.push (Wj b l)).objs.size=s.heap.objs.size+1:=bg ..;rw[e]
 have d:IsEnum ((s.heap.push (Wj b l)).push
   { cls:=.type "enumerate",data:=.fields #[.none,.bool aB,.ref s.heap.objs.size,gx 0,.none,.none] }) (s.heap.objs.size+1) s.heap.objs.size 0 .none:=by
  have:=aX (s.heap.push (Wj b l))
   (o:={ cls:=.type "enumerate",data:=.fields #[.none,.bool aB,.ref s.heap.objs.size,gx 0,.none,.none] }) rfl
  rw[e] at this;exact this
 refine⟨⟨_,d,rfl⟩,h _ d (IterB.new (aE _ (aX _ rfl))) (by simp) λb o x=>aE _ (aE _ x)⟩
end
noncomputable def DU(b:Bool)(K:aD)(a:aG):It:=
  ⟨λi H=>∃xs x,Td b K H a xs/\xs[i]?=aA x,
   λi H v H'=>∃p x,H p=none/\v = .ref p/\H'=upd H p (.tup [.int i,x])/\∀xs,Td b K H a xs->xs[i]?=aA x,
   λi H=>∃xs,Td b K H a xs/\xs.length=i⟩
theorem ME{P:bI}{w:br}{K:aD}{T:List ao}{k:Nat}{pos:dj}(b:Bool)(a e r:aG)(J:e≠r) :
  R8 P w K (.Tuple T k pos) (DU b K a) [e,r] e (λi h=>(∃t,IsEnum h e r i t)/\IterB b h r a i) where
 mem:=by simp
 obj:=λi h st c N=>by
  rcases af.mp N with rfl | N
  ·obtain⟨⟨t,q⟩,_⟩:=st;exact⟨_,q,λv z=>by cases z⟩
  ·rw[aq.mp N];exact st.2.has
 keep:=λi h h' st kk=>⟨let⟨t,q⟩:=st.1;⟨t,kk e (by simp) _ q⟩,st.2.at λo q=>kk r (by simp) o q⟩
 item:=by
  intro X hP hw hK N i jq s σ H E I R st hg;subst hP hw hK;obtain⟨xs,x,hq,hx⟩:=hg;obtain⟨S,rv,p,hz⟩:=I.seqB hq;obtain⟨u,hu,ru⟩:=rv.get hx;obtain⟨⟨t,G⟩,l⟩:=st;have fe:=R e (by simp);have fi:=R r (by simp);obtain⟨oa,L⟩:=p.has
  -- the sequence is neither record
  have j:∀c,XY X jq H c->(∃oc,s.heap.get? c=aA oc/\∃n vs,oc.cls = .type n/\oc.data = .fields vs)->a≠c:=λc _ ⟨oc,Z,n,vs,hn,hv⟩ z=>by
   subst z;rw[L] at Z;cases Z
   cases b with
   | true=>obtain⟨o,F,_,m,d⟩:=(p);rw[L] at F;cases F;rw[hv] at d;cases d
   | false=>obtain⟨o,F,_,m,d⟩:=(p);rw[L] at F;cases F;rw[hv] at d;cases d
  have ae:=j e fe ⟨_,G,_,_,rfl,rfl⟩
  have ai:=j r fi (by
   cases b with
   | true=>obtain⟨o,F,c1,d1⟩:=(l);exact⟨o,F,_,_,c1,d1⟩
   | false=>obtain⟨o,F,c1,d1⟩:=(l);exact⟨o,F,_,_,c1,d1⟩)
  have D:=Draws.seq (prog:=X.prog) (w:=X.w) (A:=X.A.in1) b (I.ok.hd N) r a ai S.toArray;have hlt:i<S.toArray.size:=by have:=(aW.mp hu).1;simpa using this
  refine wpAny_pyNext_enum_itemD D G ⟨l,p⟩ hlt J (by simp[J,ar ae]) λy h' tk hPy ho hs' hT hsz hk=>?_
  have ey:y=u:=by
   have q1:=hPy;have q2:S.toArray[i]?=aA u:=by simpa using hu
   rw[q1] at q2;exact ak q2
  subst ey;refine⟨_,rfl,wpAny_letOwnedTupleGo_enum ho λh2 he2 O=>?_⟩;have Tne:=dk (aP G);have B:=I.hok.fresh (aH _);have kk:∀c o,c∉[e,r]->s.heap.get? c=aA o->h2.get? c=aA o:=λc o g q=>O.extBut c o (λz=>g (by simp[z])) (hk c o (λz=>g (by simp[z])) (λz=>g (by simp[z])) q);have hT2:=O.extBut _ _ Tne hT;have hcs:∀c∈[e,r],(c∈X.ex\/X.s₀.heap.objs.size<=c)/\c≠X.env.locals/\(∀x d,X.env.cells.lookup x=aA d->d≠c)/\∀p∈X.pn++jq,p.1≠c:=λc g=>by have f:=R c g;exact⟨f.2.2.2.1,f.2.1,f.2.2.2.2.1,f.2.2.2.2.2⟩
  have nfp:∀c M,H c=aA M->c∉[e,r]:=λc M q g=>by rw[(R c g).1] at q;cases q
  have U:=λc M q=>(I.hok c M q).stay (λd v hd q'=>kk d v (by
    rcases hd with z | z
    ·rw[z];exact nfp c M q
    ·exact nfp d _ z) q') (λ_ z=>z) (λ_ _ z=>z) λ_ _ z=>z
  have new:ObjOk X.prog X.w (upd H s.heap.objs.size (.tup [.int i,x])) h2 s.heap.objs.size (.tup [.int i,x]):=
   ⟨⟨by show 2<=sizeLine;decide,λo e=>by rw[hT2] at e;cases e;rfl⟩,[.int i tk,y],.cons ⟨tk,rfl⟩ (.cons ru .nil),⟨_,hT2,rfl,_,rfl⟩⟩
  have Y:HOk X.prog X.w (upd H s.heap.objs.size (.tup [.int i,x])) h2:=λc M q=>by
   by_cases hb:c=s.heap.objs.size
   ·subst hb;rw[Zn] at q;cases q;exact new
   ·rw[upd_ne hb] at q;exact(U c M q).stay (λd v _ q'=>q') (λd z=>by rw[upd_ne (Zm z B)];exact z) (λd zs z=>by rw[upd_ne (Zm z B)];exact z) λd u z=>by rw[upd_ne (Zm z B)];exact z
  have un:Un (Ol X.stack) [e,r] H (upd H s.heap.objs.size (.tup [.int i,x])) s.heap h2:=by
   refine⟨λc o q _ _ C=>kk c o C q,λc o q _ _ C=>⟨o.slots,kk c o C q⟩,λc o q n _=>?_,λc o q C=>⟨o,kk c o C q⟩,λc zs q=>?_,λc o zs q=>?_,λc ps q=>⟨#[],?_⟩⟩
   ·rw[upd_ne (av (aP q))];exact n
   ·rw[upd_ne (Zm q B)];exact q
   ·rw[upd_ne (Zm q B)];exact q
   ·rw[upd_ne (Zm q B),q];simp
  have I2:Inv X jq σ (upd H s.heap.objs.size (.tup [.int i,x])) { s with heap:=h2,toks:=tk+1 }:=I.call un Y I.bare hcs;refine⟨.ref s.heap.objs.size,upd H s.heap.objs.size (.tup [.int i,x]),I2,rfl,⟨_,x,B,rfl,rfl,λzs hzs=>by rw[I.seqB_inj hzs hq];exact hx⟩,⟨⟨y,by simpa using he2⟩,?_⟩,λc g=>?_⟩
  ·exact hs'.1.at λo q=>O.extBut r o (ar J) q
  ·rw[upd_ne (av (by
    rcases af.mp g with rfl | g
    ·exact aP G
    ·rw[aq.mp g];obtain⟨o,q,_⟩:=l.has;exact aP q))]
   exact(R c g).1
 done:=by
  intro X hP hw hK N i jq s σ H E I R st hg;subst hP hw hK;obtain⟨xs,hq,hx⟩:=hg;obtain⟨S,rv,p,hz⟩:=I.seqB hq;obtain⟨⟨t,G⟩,l⟩:=st;have fi:=R r (by simp)
  have ai:a≠r:=λz=>by
   subst z
   cases b with
   | true=>
    obtain⟨o,F,_,m,d⟩:=(p);obtain⟨o',e2,_,W⟩:=(l);rw[F] at e2;cases e2;rw[d] at W;cases W
   | false=>
    obtain⟨o,F,_,m,d⟩:=(p);obtain⟨o',e2,_,W⟩:=(l);rw[F] at e2;cases e2;rw[d] at W;cases W
  have D:=Draws.seq (prog:=X.prog) (w:=X.w) (A:=X.A.in1) b (I.ok.hd N) r a ai S.toArray;have hl:=rv.length;have hi:i=S.toArray.size:=by simp;omega
  refine wpAny_pyNext_enum_endD D G (by rw[<-hi];exact⟨l,p⟩) λh' C=>⟨rfl,?_⟩;obtain⟨f0,f1,f2,f3,f4,f5⟩:=fi;exact I.turned (λc o hb q=>C c o hb q) f0 f1 f3 f4 f5
 self:=λA i s Q E st hQ=>by obtain⟨⟨t,G⟩,_⟩:=st;exact wpAny_pyIter_enum G hQ
end L2
namespace L2
open PySem PySem.Spec PyProof.Rows
section
variable {X:Cx}
noncomputable def Eg(b:Bool)(K:aD)(ta:TA):TI:=λσ H R=>ta σ H λvs H1=>∃a,vs=[.ref a]/\(∃xs,Td b K H1 a xs)/\R (DU b K a) H1
theorem JL{g:List ao}{k:Nat}{i:dj}(b:Bool){a:ao}{o:TA}{p f:dj}(F:Gl X "enumerate")(z:X.mg "enumerate" = none)(A:PA X [a] o)(u:aS [a] X.env=[(aB,eval a X.env)]:=by rfl) :
  PI X (.Tuple g k i) (.Call (.Name "enumerate" p) [a] [] f) (Eg b X.K o):=by
 intro x s E H R I h;refine Call_ (Vj I F z rfl (cG (Ym (A f x s E H _ I h) λG s1 ⟨vs,t,d,B,v⟩=>?_) u rfl));obtain⟨a,e,⟨J,C⟩,q⟩:=v;subst e
 cases B with
 | cons r rr=>
  cases rr;cases r;obtain⟨M,L,j,N⟩:=d.seqB C;refine S5 j λO n m D w=>?_;refine wpAny_pyIter_enum n ?_;have y:=d.kept (t':=s1.toks) w;have ne:s1.heap.objs.size+1≠s1.heap.objs.size:=dk (gS _);refine⟨s1.heap.objs.size+1,[s1.heap.objs.size+1,s1.heap.objs.size],_,_,t,rfl,y,ME b a (s1.heap.objs.size+1) s1.heap.objs.size ne,⟨⟨.none,n⟩,m⟩,λc l=>?_,q⟩;rcases af.mp l with rfl | l
  ·exact d.fpOk (iA _) (d.hok.fresh (iA _))
  ·rw[aq.mp l];exact d.fpOk (aH _) (d.hok.fresh (aH _))
end
section
variable {prog:bI} {w:br} {A:bc} {E:aF->aL->Prop} {s:aL}
structure RA(z TI TO i1 i2:aG)(fp1 fp2:List aG):Prop where
 TIz:TI≠z
 TOz:TO≠z
 i1z:i1≠z
 i2z:i2≠z
 TITO:TI≠TO
 TIi1:TI≠i1
 TIi2:TI≠i2
 TOi1:TO≠i1
 TOi2:TO≠i2
 i12:i1≠i2
 z1:z∉fp1
 TO1:TO∉fp1
 i21:i2∉fp1
 z2:z∉fp2
 TO2:TO∉fp2
 i12':i1∉fp2
theorem LK{z TI TO i1 Z:aG}{fp1 fp2:List aG}{n1 n2 k:Nat}{P1 P2:Nat->aF->Prop}{O R:Nat->bR->Prop}{a b:aF}{Q:aF->aL->Prop}(D:RA z TI TO i1 Z fp1 fp2)
  (D1:Draws prog w A i1 fp1 n1 P1 O) (D2:Draws prog w A Z fp2 n2 P2 R)
  (hz:gn s.heap z TI TO .none) (hTI:df s.heap TI (.ref i1) (.ref Z)) (hTO:df s.heap TO a b)
  (h1:O k s.heap) (h2:R k s.heap) (hx:k<n1) (hy:k<n2)
  (hQ:∀x y h' tk,P1 k x->P2 k y->gn h' z TI TO (gx s.heap.objs.size)->df h' TO x y->O (k+1) h'->R (k+1) h'->df h' s.heap.objs.size x y->h'.objs.size=s.heap.objs.size+1->
   (∀c o,c≠z->c≠TO->c≠i1->c≠Z->s.heap.get? c=aA o->h'.get? c=aA o)->Q (.ref s.heap.objs.size) { s with heap:=h',toks:=tk }) :
  ay (model prog w) A (iN.«zip.__next__» ⟨[.ref z],[]⟩) (λfin s'=>∃v,fin = .done (.ret v)/\Q v s') E s:=by
 show ay _ _ (field (.ref z) 2 >>= _) _ _ _;refine aI (bu hz rfl rfl ?_);refine aI (bu hz rfl rfl ?_);refine aI (cz hTI rfl ?_);refine aI ?_;refine aI (bu hz rfl rfl (ag ?_));refine aI (j9 ?_);refine aI (bu hz rfl rfl ?_);refine aI (dA hz (by simp) λh₁ p l=>?_)
 replace p:gn h₁ z TI TO .ellipsis:=p
 refine aI ?_;refine aI (aI (gL ?_));have st1:=D1.frame _ _ _ h1 λc u o e=>l.extBut c o (λq=>D.z1 (q▸u)) e;refine aI (D1.item k _ _ _ hx st1 λx N tk₂ hPx X h=>ag ?_)
 replace h:cB i1 h₁ N:=h
 have G:=h.extBut _ _ D.TOi1 (l.extBut _ _ D.TOz hTO);refine aI (cz G rfl ?_);refine aI (fG G λI n d=>?_)
 replace n:df I TO x b:=n
 replace d:cB TO N I:=d
 refine aI (jS (ag ?_));refine aI (aI (gL ?_));have st2:=D2.frame _ _ _ h2 λc u o e=>d.extBut c o (λq=>D.TO2 (q▸u)) (h.extBut c o (λq=>D.i12' (q▸u)) (l.extBut c o (λq=>D.z2 (q▸u)) e));refine aI (D2.item k _ _ _ hy st2 λy M Y hPy U g=>ag ?_)
 replace g:cB Z I M:=g
 have F:=g.extBut _ _ D.TOi2 n;refine aI (cz F rfl ?_);refine aI (fG F λi j f=>?_)
 replace j:df i TO x y:=j
 replace f:cB TO M i:=f
 refine aI (jS (ag (ag ?_)));refine aI (cz j rfl ?_);refine aI (wpAny_newTuple ?_);have hsz:i.objs.size=s.heap.objs.size:=by rw[f.1,g.1,d.1,h.1,l.1]
 have H:=f.extBut _ _ D.TOz.symm (g.extBut _ _ D.i2z.symm (d.extBut _ _ D.TOz.symm (h.extBut _ _ D.i1z.symm p)))
 have P:∀c o,c≠z->c≠TO->c≠i1->c≠Z->s.heap.get? c=aA o->i.get? c=aA o:=λc o c1 c2 c3 c4 e=>
  f.extBut _ _ c2 (g.extBut _ _ c4 (d.extBut _ _ c2 (h.extBut _ _ c3 (l.extBut _ _ c1 e))))
 have S:=D1.frame _ _ _ X λc u o e=>f.extBut c o (λq=>D.TO1 (q▸u)) (g.extBut c o (λq=>D.i21 (q▸u)) (d.extBut c o (λq=>D.TO1 (q▸u)) e));have T:=D2.frame _ _ _ U λc u o e=>f.extBut c o (λq=>D.TO2 (q▸u)) e;have L:=aP H;refine aI ?_;have W:gn (i.push { cls:=.type "tuple",data:=.seq #[x,y] }) z TI TO .ellipsis:=aE _ H;refine aI (dA W (by simp) λh₇ t B=>?_)
 replace t:gn h₇ z TI TO (gx i.objs.size):=t
 refine dA t (by simp) λC m r=>?_
 replace m:gn C z TI TO (gx i.objs.size):=m
 have up:∀c o,c≠z->i.get? c=aA o->C.get? c=aA o:=λc o c1 e=>r.extBut _ _ c1 (B.extBut _ _ c1 (aE _ e));have J:=r.extBut _ _ (dk L) (B.extBut _ _ (dk L) (aX _ rfl));have hz8:C.objs.size=i.objs.size+1:=by rw[r.1,B.1,bg]
 rw[hsz] at m J hz8;refine ag ⟨_,rfl,?_⟩;rw[hsz];exact hQ x y C Y hPx hPy m (up _ _ D.TOz j) (D1.frame _ _ _ S λc u o e=>up c o (λq=>D.z1 (q▸u)) e) (D2.frame _ _ _ T λc u o e=>up c o (λq=>D.z2 (q▸u)) e) J hz8 λc o c1 c2 c3 c4 e=>up c o c1 (P c o c1 c2 c3 c4 e)
theorem JM{z TI TO F H:aG}{P J:List aG}{X n2 k:Nat}{P1 P2:Nat->aF->Prop}{O G:Nat->bR->Prop}{a b:aF}{Q:PySem.Fin->aL->Prop}(D:RA z TI TO F H P J)
  (Y:Draws prog w A F P X P1 O) (D2:Draws prog w A H J n2 P2 G)
  (M:gn s.heap z TI TO .none) (W:df s.heap TI (.ref F) (.ref H)) (hTO:df s.heap TO a b)
  (h1:O k s.heap) (h2:G k s.heap) (N:k=X\/(k<X/\k=n2))
  (hE:∀h' tk e,(∀c o,c≠z->c≠TO->c≠F->c≠H->s.heap.get? c=aA o->h'.get? c=aA o)->(∃o,h'.get? e=aA o/\o.cls = .type "StopIteration")->E (.ref e) { s with heap:=h',toks:=tk }) :
  ay (model prog w) A (iN.«zip.__next__» ⟨[.ref z],[]⟩) Q E s:=by
 show ay _ _ (field (.ref z) 2 >>= _) _ _ _;refine aI (bu M rfl rfl ?_);refine aI (bu M rfl rfl ?_);refine aI (cz W rfl ?_);refine aI ?_;refine aI (bu M rfl rfl (ag ?_));refine aI (j9 ?_);refine aI (bu M rfl rfl ?_);refine aI (dA M (by simp) λh₁ i g=>?_)
 replace i:gn h₁ z TI TO .ellipsis:=i
 replace g:cB z s.heap h₁:=g
 refine aI ?_;refine aI (aI (gL ?_));have C:=Y.frame _ _ _ h1 λc I o e=>g.extBut c o (λq=>D.z1 (q▸I)) e;rcases N with U | ⟨hx,U⟩
 ·rw[U] at C;refine aI (Y.done _ _ _ C λm e d S=>?_)
  replace d:jR F h₁ m:=d
  obtain⟨oe,n,t⟩:=S;have u:=d _ _ D.i1z.symm i;have B:e≠z:=λx=>by subst x;rw[u] at n;cases n;simp at t
  refine dA u (by simp) λl _ f=>?_
  replace f:cB z m l:=f
  exact hE l _ e (λc o c1 _ c3 _ x=>f.extBut _ _ c1 (d _ _ c3 (g.extBut _ _ c1 x))) ⟨oe,f.extBut _ _ B n,t⟩
 ·refine aI (Y.item k _ _ _ hx C λx m T hPx Z d=>ag ?_)
  replace d:cB F h₁ m:=d
  have p:=d.extBut _ _ D.TOi1 (g.extBut _ _ D.TOz hTO);refine aI (cz p rfl ?_);refine aI (fG p λl R f=>?_)
  replace f:cB TO m l:=f
  refine aI (jS (ag ?_));refine aI (aI (gL ?_));have L:=D2.frame _ _ _ h2 λc I o e=>f.extBut c o (λq=>D.TO2 (q▸I)) (d.extBut c o (λq=>D.i12' (q▸I)) (g.extBut c o (λq=>D.z2 (q▸I)) e));rw[U] at L;refine aI (D2.done _ _ _ L λv e j S=>?_)
  replace j:jR H l v:=j
  obtain⟨oe,n,t⟩:=S;have r:=j _ _ D.i2z.symm (f.extBut _ _ D.TOz.symm (d.extBut _ _ D.i1z.symm i));have B:e≠z:=λx=>by subst x;rw[r] at n;cases n;simp at t
  refine dA r (by simp) λy _ h=>?_
  replace h:cB z v y:=h
  exact hE y _ e (λc o c1 c2 c3 c4 x=>h.extBut _ _ c1 (j _ _ c4 (f.extBut _ _ c2 (d.extBut _ _ c3 (g.extBut _ _ c1 x))))) ⟨oe,h.extBut _ _ B n,t⟩
theorem Te{z TI TO j i:aG}{h g:List aG}{r u k:Nat}{p q:Nat->aF->Prop}{f e:Nat->bR->Prop}{a b:aF}{Q:Option aF->aL->Prop}(D:RA z TI TO j i h g)
  (O:Draws prog w A.in1 j h r p f) (I:Draws prog w A.in1 i g u q e)
  (t:gn s.heap z TI TO .none) (l:df s.heap TI (.ref j) (.ref i)) (m:df s.heap TO a b)
  (P:f k s.heap) (M:e k s.heap) (C:k<r) (H:k<u)
  (S:∀x y d tk,p k x->q k y->gn d z TI TO (gx s.heap.objs.size)->df d TO x y->f (k+1) d->e (k+1) d->df d s.heap.objs.size x y->d.objs.size=s.heap.objs.size+1->
   (∀c o,c≠z->c≠TO->c≠j->c≠i->s.heap.get? c=aA o->d.get? c=aA o)->Q (aA (.ref s.heap.objs.size)) { s with heap:=d,toks:=tk }) :
  ay (model prog w) A (jj (.ref z)) Q E s:=by
 have n:s.TypeIs (.ref z) "zip":=⟨_,t,rfl⟩
 exact aI (wpAny_attempt (c9 n F.slot_zip_next
  (dm F.slot_zip_next n F.entry_zip_next
   (LK D O I t l m P M C H λx y d tk N p2 R J v B L T G=>ag (S x y d tk N p2 R J v B L T G)) (F.args_zip_next_1 _))))
theorem TU{z TI TO l j:aG}{i f:List aG}{n u k:Nat}{x H:Nat->aF->Prop}{h d:Nat->bR->Prop}{a b:aF}{Q:Option aF->aL->Prop}(D:RA z TI TO l j i f)
  (I:Draws prog w A.in1 l i n x h) (C:Draws prog w A.in1 j f u H d)
  (t:gn s.heap z TI TO .none) (m:df s.heap TI (.ref l) (.ref j)) (q:df s.heap TO a b)
  (L:h k s.heap) (G:d k s.heap) (g:k=n\/(k<n/\k=u))
  (M:∀p tk,(∀c o,c≠z->c≠TO->c≠l->c≠j->s.heap.get? c=aA o->p.get? c=aA o)->Q none { s with heap:=p,toks:=tk }):ay (model prog w) A (jj (.ref z)) Q E s:=by
 have r:s.TypeIs (.ref z) "zip":=⟨_,t,rfl⟩
 refine aI (wpAny_attempt (c9 r F.slot_zip_next
  (dm F.slot_zip_next r F.entry_zip_next (JM D I C t m q L G g λp tk e B v=>?_) (F.args_zip_next_1 _))))
 obtain⟨o,J,y⟩:=v;refine aI (wpAny_isInstance ⟨o,J,y⟩ isSubtype_stop ?_);exact ag (M _ tk B)
end
abbrev EO(h:bR)(b1:Bool)(l1:aG):bR:=h.push (Wj b1 l1)
abbrev ER(h:bR)(b1 b2:Bool)(l1 l2:aG):bR:=(EO h b1 l1).push (Wj b2 l2)
abbrev ES(h:bR)(b1 b2:Bool)(l1 l2:aG):bR:=(ER h b1 b2 l1 l2).push { cls:=.type "tuple",data:=.seq #[.ref h.objs.size,.ref (EO h b1 l1).objs.size] }
abbrev ET(h:bR)(b1 b2:Bool)(l1 l2:aG):bR:=(ES h b1 b2 l1 l2).push { cls:=.type "tuple",data:=.seq #[.none,.none] }
abbrev GG(h:bR)(b1 b2:Bool)(l1 l2:aG):bR:=(ET h b1 b2 l1 l2).push { cls:=.type "zip",data:=.fields #[.none,.bool aB,.bool aB,.ref (ER h b1 b2 l1 l2).objs.size,.ref (ES h b1 b2 l1 l2).objs.size] }
theorem S6(c f:Bool)(b a:aG)(p n:Array aF) :
  Meets (iN.«zip.__new__» ⟨[.type "zip",.ref b,.ref a],[]⟩) (λ_ R s=>SeqB c s.heap b p/\SeqB f s.heap a n/\
   R (.ok (.ret (.ref (ET s.heap c f b a).objs.size))) { s with heap:=GG s.heap c f b a }):=
 .of_wp λprog w A R s h=>by
  obtain⟨q,g,d,tk,os⟩:=s;obtain⟨i,l,h⟩:=h;have m:=sub_zip;have k:=i;have j:SeqB f (jn ⟨q.push (Wj c b),g,d,tk,os⟩) a n:=l.at λo e=>aE _ e
  wp_walk using Z2 k,Z2 j
  exact⟨_,rfl,h⟩
section
variable {prog:bI} {w:br} {A:bc} {E:aF->aL->Prop} {s:aL}
theorem Qf{b e:Bool}{a d:aG}{q u:Array aF}{Q:aF->aL->Prop}(g:SeqB b s.heap a q)(m:SeqB e s.heap d u)
  (h:∀h',gn h' (s.heap.objs.size+4) (s.heap.objs.size+2) (s.heap.objs.size+3) .none->df h' (s.heap.objs.size+2) (.ref s.heap.objs.size) (.ref (s.heap.objs.size+1))->
   df h' (s.heap.objs.size+3) .none .none->IterB b h' s.heap.objs.size a 0->IterB e h' (s.heap.objs.size+1) d 0->h'.objs.size=s.heap.objs.size+5->
   (∀c o,s.heap.get? c=aA o->h'.get? c=aA o)->Q (.ref (s.heap.objs.size+4)) { s with heap:=h' }) :
  ay (model prog w) A (call (.type "zip") [.ref a,.ref d]) Q E s:=by
 refine callType_new F.called_zip rfl (F.typeCall_zip_2 _ _) (F.newCall_zip_2 _ _) (λk=>F.args_object_init_3 k _ _) F.entry_zip_new
  (S6 b e a d q u) ⟨g,m,?_⟩
 have j:(EO s.heap b a).objs.size=s.heap.objs.size+1:=bg ..;have n:(ER s.heap b e a d).objs.size=s.heap.objs.size+2:=by rw[bg,j]
 have i:(ES s.heap b e a d).objs.size=s.heap.objs.size+3:=by rw[bg,n]
 have l:(ET s.heap b e a d).objs.size=s.heap.objs.size+4:=by rw[bg,i]
 have y:(GG s.heap b e a d).objs.size=s.heap.objs.size+5:=by rw[bg,l]
 have f:(GG s.heap b e a d).get? (ET s.heap b e a d).objs.size=aA _:=aX _ rfl;have r:(GG s.heap b e a d).get? (ES s.heap b e a d).objs.size=aA _:=aE _ (aX _ rfl);have p:(GG s.heap b e a d).get? (ER s.heap b e a d).objs.size=aA _:=aE _ (aE _ (aX _ rfl));have t:(GG s.heap b e a d).get? (EO s.heap b a).objs.size=aA (Wj e d):=aE _ (aE _ (aE _ (aX _ rfl)));have v:(GG s.heap b e a d).get? s.heap.objs.size=aA (Wj b a):=aE _ (aE _ (aE _ (aE _ (aX _ rfl))));rw[n,i,l] at f;rw[j,n] at p;rw[i] at r;rw[j] at t;rw[l]
 exact⟨⟨_,f,rfl⟩,h _ f p r (IterB.new v) (IterB.new t) y λc o x=>
  aE _ (aE _ (aE _ (aE _ (aE _ x))))⟩
end
theorem Inv.newTup{X:Cx}{w:List (aG×cj)}{E:St}{H:Hp}{s:aL}{l:List aG}{k:bR}{tk n:Nat}{y:List aF}{i:List V}(I:Inv X w E H s)(F:∀b∈l,XY X w H b)
  (kk:∀c o,c∉l->s.heap.get? c=aA o->k.get? c=aA o) (C:k.get? s.heap.objs.size=aA { cls:=.type "tuple",data:=.seq y.toArray n }) (L:Vals i y) (M:i.length<=sizeLine) :
  Inv X w E (upd H s.heap.objs.size (.tup i)) { s with heap:=k,toks:=tk }:=by
 have a:=I.hok.fresh (aH _);have A:∀c∈l,(c∈X.ex\/X.s₀.heap.objs.size<=c)/\c≠X.env.locals/\(∀x d,X.env.cells.lookup x=aA d->d≠c)/\∀p∈X.pn++w,p.1≠c:=λc j=>by have f:=F c j;exact⟨f.2.2.2.1,f.2.1,f.2.2.2.2.1,f.2.2.2.2.2⟩
 have r:∀c h,H c=aA h->c∉l:=λc h q j=>by rw[(F c j).1] at q;cases q
 have m:=λc h q=>(I.hok c h q).stay (λd v J B=>kk d v (by
   rcases J with z | z
   ·rw[z];exact r c h q
   ·exact r d _ z) B) (λ_ z=>z) (λ_ _ z=>z) λ_ _ z=>z
 have new:ObjOk X.prog X.w (upd H s.heap.objs.size (.tup i)) k s.heap.objs.size (.tup i):=
  ⟨⟨M,λo e=>by rw[C] at e;cases e;rfl⟩,y,L,⟨_,C,rfl,_,rfl⟩⟩
 have t:HOk X.prog X.w (upd H s.heap.objs.size (.tup i)) k:=λc h q=>by
  by_cases G:c=s.heap.objs.size
  ·subst G;rw[Zn] at q;cases q;exact new
  ·rw[upd_ne G] at q;exact(m c h q).stay (λd v _ B=>B) (λd z=>by rw[upd_ne (Zm z a)];exact z) (λd D z=>by rw[upd_ne (Zm z a)];exact z) λd u z=>by rw[upd_ne (Zm z a)];exact z
 have un:Un (Ol X.stack) l H (upd H s.heap.objs.size (.tup i)) s.heap k:=by
  refine⟨λc o q _ _ g=>kk c o g q,λc o q _ _ g=>⟨o.slots,kk c o g q⟩,λc o q n _=>?_,λc o q g=>⟨o,kk c o g q⟩,λc D q=>?_,λc o D q=>?_,λc N q=>⟨#[],?_⟩⟩
  ·rw[upd_ne (av (aP q))];exact n
  ·rw[upd_ne (Zm q a)];exact q
  ·rw[upd_ne (Zm q a)];exact q
  ·rw[upd_ne (Zm q a),q];simp
 exact I.call un t I.bare A
theorem Inv.turnedL{X:Cx}{k:List (aG×cj)}{r:St}{H:Hp}{s:aL}{h:List aG}{m:bR}{tk:Nat}(I:Inv X k r H s)(t:∀b∈h,XY X k H b)
  (kk:∀c o,c∉h->s.heap.get? c=aA o->m.get? c=aA o):Inv X k r H { s with heap:=m,toks:=tk }:=by
 have l:∀c∈h,(c∈X.ex\/X.s₀.heap.objs.size<=c)/\c≠X.env.locals/\(∀x d,X.env.cells.lookup x=aA d->d≠c)/\∀p∈X.pn++k,p.1≠c:=λc e=>by have f:=t c e;exact⟨f.2.2.2.1,f.2.1,f.2.2.2.2.1,f.2.2.2.2.2⟩
 have j:∀c g,H c=aA g->c∉h:=λc g q e=>by rw[(t c e).1] at q;cases q
 have i:=λc g q=>(I.hok c g q).stay (λd v u y=>kk d v (by
   rcases u with z | z
   ·rw[z];exact j c g q
   ·exact j d _ z) y) (λ_ z=>z) (λ_ _ z=>z) λ_ _ z=>z
 have un:Un (Ol X.stack) h H H s.heap m:=
  ⟨λc o q _ _ a=>kk c o a q,λc o q _ _ a=>⟨o.slots,kk c o a q⟩,λc o q n _=>n,λc o q a=>⟨o,kk c o a q⟩,λc w q=>q,λc o w q=>q,λc A q=>⟨#[],by rw[q];simp⟩⟩
 exact I.call un i I.bare l
theorem SeqB.ne_rec{b:Bool}{h:bR}{a c:aG}{i:Array aF}{o:cj}{vs:Array aF}(p:SeqB b h a i)(e:h.get? c=aA o)(d:o.data = .fields vs):a≠c:=λz=>by
 subst z
 cases b with
 | true=>obtain⟨j,g,_,m,f⟩:=(p);rw[e] at g;cases g;rw[d] at f;cases f
 | false=>obtain⟨j,g,_,m,f⟩:=(p);rw[e] at g;cases g;rw[d] at f;cases f
theorem IterB.rec{b:Bool}{h:bR}{c a:aG}{i:Nat}(x:IterB b h c a i):∃o,h.get? c=aA o/\∃vs,o.data = .fields vs:=by
 cases b with
 | true=>obtain⟨o,e,_,d⟩:=(x);exact⟨o,e,_,d⟩
 | false=>obtain⟨o,e,_,d⟩:=(x);exact⟨o,e,_,d⟩
structure GH(a1 a2 TO TI:aG):Prop where
 a:a1≠TO
 b:a2≠TO
 c:a1≠TI
 d:a2≠TI
noncomputable def DV(b1 b2:Bool)(K:aD)(a1 a2:aG):It:=
  ⟨λi H=>∃xs ys x y,Td b1 K H a1 xs/\Td b2 K H a2 ys/\xs[i]?=aA x/\ys[i]?=aA y,
   λi H v H'=>∃p x y,H p=none/\v = .ref p/\H'=upd H p (.tup [x,y])/\(∀xs,Td b1 K H a1 xs->xs[i]?=aA x)/\∀ys,Td b2 K H a2 ys->ys[i]?=aA y,
   λi H=>∃xs ys,Td b1 K H a1 xs/\Td b2 K H a2 ys/\(i=xs.length\/(i<xs.length/\i=ys.length))⟩
theorem LL{P:bI}{w:br}{K:aD}{elts:List ao}{k:Nat}{pos:dj}(b1 b2:Bool)(a1 a2 z TI TO G F:aG)(d:[z,TI,TO,G,F].Nodup) :
  R8 P w K (.Tuple elts k pos) (DV b1 b2 K a1 a2) [z,TI,TO,G,F] z
   (λi h=>gn h z TI TO .none/\df h TI (.ref G) (.ref F)/\(∃u v,df h TO u v/\GH a1 a2 TO TI)/\IterB b1 h G a1 i/\IterB b2 h F a2 i) where
 mem:=by simp
 obj:=λi h st c Y=>by
  obtain⟨C,b,⟨u,v,g,_⟩,U,W⟩:=st;simp only[af,cU,or_false] at Y;rcases Y with rfl | rfl | rfl | rfl | rfl
  ·exact⟨_,C,λv q=>by cases q⟩
  ·exact⟨_,b,λv q=>by cases q⟩
  ·exact⟨_,g,λv q=>by cases q⟩
  ·exact U.has
  ·exact W.has
 keep:=λi h h' st kk=>by obtain⟨C,b,⟨u,v,g,f⟩,U,W⟩:=st;exact⟨kk z (by simp) _ C,kk TI (by simp) _ b,⟨u,v,kk TO (by simp) _ g,f⟩,U.at λo q=>kk G (by simp) o q,W.at λo q=>kk F (by simp) o q⟩
 item:=by
  intro X hP hw hK Y i jq s σ H E I hf st hg;subst hP hw hK;obtain⟨xs,ys,x,y,O,R,hx,hy⟩:=hg;obtain⟨l,rv1,M,hz1⟩:=I.seqB O;obtain⟨m,rv2,p2,hz2⟩:=I.seqB R;obtain⟨u,hu,ru⟩:=rv1.get hx;obtain⟨v,hv,rv⟩:=rv2.get hy;obtain⟨C,b,⟨q1,q2,g,f⟩,U,W⟩:=st;obtain⟨o1,e1,vs1,d1⟩:=U.rec;obtain⟨o2,e2,vs2,d2⟩:=W.rec;have A1z:=M.ne_rec C rfl;have A2z:=p2.ne_rec C rfl;have A11:=M.ne_rec e1 d1;have Z:=M.ne_rec e2 d2;have A21:=p2.ne_rec e1 d1;have A22:=p2.ne_rec e2 d2;simp only[bM,af,cU,not_or,cY,and_true,not_false_eq_true] at d;obtain⟨⟨j,r,B,t⟩,⟨S,N,T⟩,⟨J,L⟩,p⟩:=d;obtain⟨f1,f2,f3,f4⟩:=f;have D:RA z TI TO G F [G,a1] [F,a2]:=⟨ar j,ar r,ar B,ar t,S,N,T,J,L,p,by simp[B,ar A1z],by simp[J,ar f1],by simp[ar p,ar Z],by simp[t,ar A2z],by simp[L,ar f2],by simp[p,ar A21]⟩;have D1:=Draws.seq (prog:=X.prog) (w:=X.w) (A:=X.A.in1) b1 (I.ok.hd Y) G a1 A11 l.toArray;have D2:=Draws.seq (prog:=X.prog) (w:=X.w) (A:=X.A.in1) b2 (I.ok.hd Y) F a2 A22 m.toArray;have l1:i<l.toArray.size:=by simpa using(aW.mp hu).1
  have l2:i<m.toArray.size:=by simpa using(aW.mp hv).1
  refine Te D D1 D2 C b g ⟨U,M⟩ ⟨W,p2⟩ l1 l2 λx' y' h' tk hPx hPy c1 c2 c3 c4 c5 c6 hk=>?_
  have ex':x'=u:=by
   have w1:=hPx;have w2:l.toArray[i]?=aA u:=by simpa using hu
   rw[w1] at w2;exact ak w2
  have ey':y'=v:=by
   have w1:=hPy;have w2:m.toArray[i]?=aA v:=by simpa using hv
   rw[w1] at w2;exact ak w2
  subst ex' ey';refine⟨_,rfl,wpAny_letOwnedTupleGo_zip c1 λh3 hz3 n=>?_⟩
  replace n:cB z h' h3:=n
  have kk:∀c o,c∉[z,TI,TO,G,F]->s.heap.get? c=aA o->h3.get? c=aA o:=λc o a q=>
   n.extBut c o (λe=>a (by simp[e])) (hk c o (λe=>a (by simp[e])) (λe=>a (by simp[e])) (λe=>a (by simp[e])) (λe=>a (by simp[e])) q)
  have hTn:=I.hok.fresh (aH _);have hT3:=n.extBut _ _ (dk (aP C)) c5;have I2:=I.newTup (tk:=tk) hf kk hT3 (.cons ru (.cons rv .nil)) (by show 2<=sizeLine;decide);refine⟨.ref s.heap.objs.size,_,I2,rfl,⟨_,x,y,hTn,rfl,rfl,λzs hzs=>by rw[I.seqB_inj hzs O];exact hx,λzs hzs=>by rw[I.seqB_inj hzs R];exact hy⟩,⟨hz3,n.extBut _ _ (ar j) (hk _ _ (ar j) S N T b),⟨_,_,n.extBut _ _ (ar r) c2,f1,f2,f3,f4⟩,c3.1.at λo q=>n.extBut _ o (ar B) q,c4.1.at λo q=>n.extBut _ o (ar t) q⟩,λc a=>?_⟩;rw[upd_ne (av ?_)]
  ·exact(hf c a).1
  ·simp only[af,cU,or_false] at a;rcases a with rfl | rfl | rfl | rfl | rfl
   ·exact aP C
   ·exact aP b
   ·exact aP g
   ·exact aP e1
   ·exact aP e2
 done:=by intro X hP hw hK Y i jq s σ H E I hf st hg;subst hP hw hK;obtain⟨xs,ys,O,R,hx⟩:=hg;obtain⟨l,rv1,M,hz1⟩:=I.seqB O;obtain⟨m,rv2,p2,hz2⟩:=I.seqB R;obtain⟨C,b,⟨q1,q2,g,f⟩,U,W⟩:=st;obtain⟨o1,e1,vs1,d1⟩:=U.rec;obtain⟨o2,e2,vs2,d2⟩:=W.rec;have A1z:=M.ne_rec C rfl;have A2z:=p2.ne_rec C rfl;have A11:=M.ne_rec e1 d1;have Z:=M.ne_rec e2 d2;have A21:=p2.ne_rec e1 d1;have A22:=p2.ne_rec e2 d2;simp only[bM,af,cU,not_or,cY,and_true,not_false_eq_true] at d;obtain⟨⟨j,r,B,t⟩,⟨S,N,T⟩,⟨J,L⟩,p⟩:=d;obtain⟨f1,f2,f3,f4⟩:=f;have D:RA z TI TO G F [G,a1] [F,a2]:=⟨ar j,ar r,ar B,ar t,S,N,T,J,L,p,by simp[B,ar A1z],by simp[J,ar f1],by simp[ar p,ar Z],by simp[t,ar A2z],by simp[L,ar f2],by simp[p,ar A21]⟩;have D1:=Draws.seq (prog:=X.prog) (w:=X.w) (A:=X.A.in1) b1 (I.ok.hd Y) G a1 A11 l.toArray;have D2:=Draws.seq (prog:=X.prog) (w:=X.w) (A:=X.A.in1) b2 (I.ok.hd Y) F a2 A22 m.toArray;have n1:=rv1.length;have n2:=rv2.length;refine TU D D1 D2 C b g ⟨U,M⟩ ⟨W,p2⟩ (by simp only[aO];omega) λh' tk hk=>⟨rfl,?_⟩;exact I.turnedL hf λc o a q=>hk c o (λe=>a (by simp[e])) (λe=>a (by simp[e])) (λe=>a (by simp[e])) (λe=>a (by simp[e])) q
 self:=λA i s Q E st hQ=>wpAny_pyIter_zip st.1 hQ
section
variable {X:Cx}
noncomputable def Dy(b1 b2:Bool)(K:aD)(ta:TA):TI:=λσ H R=>ta σ H λvs H1=>∃a1 a2,vs=[.ref a1,.ref a2]/\(∃xs,Td b1 K H1 a1 xs)/\(∃ys,Td b2 K H1 a2 ys)/\R (DV b1 b2 K a1 a2) H1
theorem GI{m:List ao}{k:Nat}{o:dj}(A E:Bool){a b:ao}{J:TA}{p g:dj}(hg:Gl X "zip")(U:X.mg "zip" = none)(W:PA X [a,b] J)
  (M:aS [a,b] X.env=[(aB,eval a X.env),(aB,eval b X.env)]:=by rfl) (t:aS [b] X.env=[(aB,eval b X.env)]:=by rfl) :
  PI X (.Tuple m k o) (.Call (.Name "zip" p) [a,b] [] g) (Dy A E X.K J):=by
 intro S s σ H R I h;refine Call_ (Vj I hg U boot_zip (cG (Ym (W g S s σ H _ I h) λus s1 ⟨vs,L,f,Y,O⟩=>?_) (by rw[M,t]) (by rw[t];rfl)));obtain⟨w,v,e,⟨xs,x⟩,⟨ys,y⟩,q⟩:=O;subst e
 cases Y with
 | cons r rr=>
  cases rr with
  | cons r' rr=>
   cases rr;cases r;cases r';obtain⟨G,Z,F,_⟩:=f.seqB x;obtain⟨z,N,p2,_⟩:=f.seqB y;refine Qf F p2 λh' c1 c2 c3 c4 c5 c6 P=>?_;refine wpAny_pyIter_zip c1 ?_;have Q:=f.kept (t':=s1.toks) P;have D:=let⟨_,e⟩:=F.has;aP e;have B:=let⟨_,e⟩:=p2.has;aP e;generalize T:s1.heap.objs.size=n at *;have ne:∀(a:aG)(j:Nat),a<n->a≠n+j:=λa j h=>av (aZ h (dO _ _));have nd:([n+4,n+2,n+3,n,n+1]:List aG).Nodup:=by have d:∀(i j:Nat),i≠j->(n+i:Nat)≠n+j:=λi j h e=>h (iQ e);have u:∀(i:Nat),i≠0->(n+i:Nat)≠n:=λi h e=>h (iQ (e.trans (Nat.add_zero n).symm));simp only[bM,af,cU,not_or,cY,and_true,not_false_eq_true];exact⟨⟨d 4 2 (by decide),d 4 3 (by decide),u 4 (by decide),d 4 1 (by decide)⟩,⟨d 2 3 (by decide),u 2 (by decide),d 2 1 (by decide)⟩,⟨u 3 (by decide),d 3 1 (by decide)⟩,(u 1 (by decide)).symm⟩
   refine⟨n+4,[n+4,n+2,n+3,n,n+1],_,_,L,rfl,Q,LL A E w v (n+4) (n+2) (n+3) n (n+1) nd,⟨c1,c2,⟨_,_,c3,ne w 3 D,ne v 3 B,ne w 2 D,ne v 2 B⟩,c4,c5⟩,λc C=>?_,q⟩
   have l:s1.heap.objs.size<=c:=by
    rw[T];simp only[af,cU,or_false] at C;rcases C with rfl | rfl | rfl | rfl | rfl
    ·exact dO _ _
    ·exact dO _ _
    ·exact dO _ _
    ·exact aH _
    ·exact dO _ _
   exact f.fpOk l (f.hok.fresh l)
end
theorem Walks.seqB{prog:bI}{w:br}{A:bc}(b:Bool)(e:A.handled=none)(I c:aG)(d:c≠I)(a:Array aF) :
  Walks prog w A I [I,c] [I] a.size (λi v=>a[i]?=aA v) (λi h=>IterB b h I c i/\SeqB b h c a):=by
 cases b with
 | true=>exact Walks.list e I c d a
 | false=>exact Walks.tuple e I c d a
section
variable {X:Cx}
theorem Xc(D:X.calm=aC):Y3 X (.builtin "sum") (λw H Q=>∃(b:Bool) (p:aG) (a:List Int),w=[.ref p]/\Td b X.K H p (a.map V.int)/\Q (.int a.sum) H):=by
 intro M s P H w L Q I r h;obtain⟨b,p,a,rfl,G,q⟩:=h;obtain⟨u,rfl,C⟩:=U2 r;cases C;obtain⟨n,m,d,N⟩:=I.seqB G;have B:=let⟨_,e⟩:=d.has;aP e;refine call_sum_walkG (Z2 d ?_);refine⟨_,_,_,_,_,_,λi=>a.getD i 0,rfl,Walks.seqB (A:=X.A.in1) b (I.ok.hd D) s.heap.objs.size p (av B) n.toArray,⟨IterB.new (aX _ rfl),d.at λo e=>aE _ e⟩,λc g=>?_,λi v j=>?_,λO tk t' y=>?_⟩
 ·show c<(s.heap.push _).objs.size;rw[bg];rcases af.mp g with rfl | g
  ·exact gS _
  ·rw[aq.mp g];exact Nat.lt_succ_of_lt B
 ·have j:=j;have j:n[i]?=aA v:=by simpa using j
  have l:=m.length;rw[aQ] at l;have F:i<a.length:=by rw[l];exact(aW.mp j).1
  obtain⟨u,z,J⟩:=m.get (i:=i) (x:=.int a[i]) (by simp);rw[j] at z;cases z;obtain⟨t,rfl⟩:=J;refine⟨t,?_⟩;show jF a[i] t=jF (a.getD i 0) t;rw[aM,aN F];rfl
 ·have e:preSum (λi=>a.getD i 0) n.toArray.size=a.sum:=by
   have l:=m.length;rw[aQ] at l;rw[aO,<-l]
   have gen:∀k,k<=a.length->preSum (λi=>a.getD i 0) k=(a.take k).sum:=by
    intro k
    induction k with
    | zero=>intro _;simp[preSum]
    | succ k ih=>
     intro y;rw[preSum,ih (by omega),List.take_add_one,aM,aN (by omega),jX];simp
   rw[gen _ (aH _),jN]
  rw[e];refine⟨.int a.sum,H,I.kept (λc o f=>y c o ?_ (aE _ f)),⟨_,rfl⟩,q⟩;intro E;rw[aq.mp E] at f;exact absurd (aP f) (bh _)
theorem Uo(w:X.calm=aC):Y3 X (.builtin "all") (λl H Q=>∃(b:Bool) (p:aG) (bs:List Bool),l=[.ref p]/\Td b X.K H p (bs.map V.bl)/\Q (.bl (bs.all id)) H):=by
 intro L s P H l J Q I r h;obtain⟨b,p,bs,rfl,C,q⟩:=h;obtain⟨u,rfl,t⟩:=U2 r;cases t;obtain⟨j,m,a,M⟩:=I.seqB C;have E:=let⟨_,e⟩:=a.has;aP e;have k:=m.length;rw[aQ] at k;refine call_all_walk (Z2 a ?_);refine⟨_,_,_,_,_,_,λi=>bs.getD i aC,rfl,Walks.seqB (A:=X.A.in1) b (I.ok.hd w) s.heap.objs.size p (av E) j.toArray,⟨IterB.new (aX _ rfl),a.at λo e=>aE _ e⟩,λi v G R O g F=>?_,λN tk z=>?_⟩
 ·have g:=g;have g:j[i]?=aA v:=by simpa using g
  have d:i<bs.length:=by rw[k];exact(aW.mp g).1
  obtain⟨u,n,D⟩:=m.get (i:=i) (x:=.bl bs[i]) (by simp);rw[g] at n;cases n;cases D;refine cK ?_;have e:bs.getD i aC=bs[i]:=by rw[aM,aN d];rfl
  rw[<-e];exact F
 ·have e:(aJ j.toArray.size).all (λi=>bs.getD i aC)=bs.all id:=by
   rw[aO,<-k,gp,aj,aj];constructor
   ·intro h x y;obtain⟨i,d,rfl⟩:=fH.mp y;have:=h i (aY.mpr d);rw[aM,aN d] at this;exact this
   ·intro h i d;have d:=aY.mp d;rw[aM,aN d];exact h _ (cw d)
  rw[e];refine⟨.bl (bs.all id),H,I.kept (λc o f=>z c o ?_ (aE _ f)),rfl,q⟩;intro B;rw[aq.mp B] at f;exact absurd (aP f) (bh _)
theorem MF(w:X.calm=aC):Y3 X (.builtin "any") (λl H Q=>∃(b:Bool) (p:aG) (bs:List Bool),l=[.ref p]/\Td b X.K H p (bs.map V.bl)/\Q (.bl (bs.any id)) H):=by
 intro L s P H l J Q I r h;obtain⟨b,p,bs,rfl,C,q⟩:=h;obtain⟨u,rfl,t⟩:=U2 r;cases t;obtain⟨j,m,a,M⟩:=I.seqB C;have E:p<s.heap.objs.size:=let⟨_,e⟩:=a.has;aP e;have k:=m.length;rw[aQ] at k;refine call_any_walk (Z2 a ?_);refine⟨_,_,_,_,_,_,λi=>bs.getD i aC,rfl,Walks.seqB (A:=X.A.in1) b (I.ok.hd w) s.heap.objs.size p (av E) j.toArray,⟨IterB.new (aX _ rfl),a.at λo e=>aE _ e⟩,λi v G R O g F=>?_,λN tk z=>?_⟩
 ·have g:j.toArray[i]?=aA v:=g;have g:j[i]?=aA v:=by simpa using g
  have d:i<bs.length:=by rw[k];exact(aW.mp g).1
  obtain⟨u,n,D⟩:=m.get (i:=i) (x:=.bl bs[i]) (by rw[aR,aN d];rfl);rw[g] at n;cases n;cases D;refine cK ?_;have e:bs.getD i aC=bs[i]:=by rw[aM,aN d];rfl
  rw[<-e];exact F
 ·have e:(aJ j.toArray.size).any (λi=>bs.getD i aC)=bs.any id:=by
   rw[aO,<-k,gp,dq,dq];constructor
   ·rintro⟨i,d,h⟩;have d:=aY.mp d;rw[aM,aN d] at h;exact⟨_,cw d,h⟩
   ·rintro⟨x,y,h⟩;obtain⟨i,d,rfl⟩:=fH.mp y;refine⟨i,aY.mpr d,?_⟩;rw[aM,aN d];exact h
  rw[e];refine⟨.bl (bs.any id),H,I.kept (λc o f=>z c o ?_ (aE _ f)),rfl,q⟩;intro B;rw[aq.mp B] at f;exact absurd (aP f) (bh _)
theorem YR:Y3 X (.builtin "isinstance") (λa H Q=>∃x T t b,a=[x,.ty T]/\TyOf X.K H x t/\cL X.K t (.type T)=aA b/\Q (.bl b) H):=by intro i s j H a g Q I r h;obtain⟨x,T,t,b,rfl,c,d,q⟩:=h;obtain⟨u,v,rfl,f,e⟩:=Hl r;cases e;exact MA I f c d λtk=>⟨.bl b,H,I.tok tk,rfl,q⟩
theorem Pd{K:aD}:cL K (.type "int") (.type "int")=aA aC:=rfl
theorem Qg{K:aD}:cL K (.type "int") (.type "bool")=aA aB:=rfl
theorem Pe{K:aD}:cL K (.type "tuple") (.type "tuple")=aA aC:=rfl
theorem S7{K:aD}:cL K (.type "list") (.type "list")=aA aC:=rfl
theorem Pf{K:aD}:cL K (.type "str") (.type "str")=aA aC:=rfl
noncomputable def NN:V->List V->Hp->VK->Prop:=λx vs H Q=>∃l xs k y,x = .ref l/\vs=[.int k,y]/\H l=aA (.lst xs)/\0<=k/\k<2^63/\xs.length<sizeLine/\Q .non (upd H l (.lst (xs.take k.toNat++y::xs.drop k.toNat)))
theorem MG:DT X "list.insert" NN:=by
 intro B s G H x vs v u Q I g m h;obtain⟨l,A,k,y,rfl,rfl,f,w,p,D,q⟩:=h;cases g;obtain⟨E,d,rfl,o,i⟩:=m.two;obtain⟨t,rfl⟩:=o;obtain⟨z,a,n,r,C,e⟩:=I.lstM f;have b:¬(!Builtin.List.listFitsIndex k)=aC:=by rw[fitsIndex_both (by omega) p];exact bK
 refine fC F.slot_list_insert ⟨_,e,rfl⟩ F.entry_list_insert (F.args_list_insert_3 _ _ _) (AutoListH.list_insert_list_int_val_1 l a.toArray n k t d b (by rw[aO];omega)) ⟨e,?_⟩;refine⟨.non,_,I.lset f e ?_ ((r.take k.toNat).append (.cons i (r.drop k.toNat))) ?_,rfl,q⟩
 ·show(have j:=if k<0 then(k+((a.toArray.size:Nat):Int)).toNat else min k.toNat a.toArray.size;(a.toArray.extract 0 j).push d++a.toArray.extract j)=_;rw[jx (by omega)];by_cases c:k.toNat<=a.length
  ·rw[dF (by rw[aO];exact c)];simp;rw[bX (by simp)]
  ·rw[gU (by rw[aO];omega)];rw[bX (by omega),eY (by omega)];simp
 ·rw[bZ,bW,fB,cv];omega
end
noncomputable def TK(H H':Hp):Prop:=∀b xs,H b=aA (.tup xs)->H' b=aA (.tup xs)
theorem Same.tk{H a:Hp}(s:Same H a):TK H a:=λb c h=>s b _ h
theorem Same.new{H:Hp}{p:aG}(h:H p=none)(o:HO):Same H (upd H p o):=λb u q=>by rw[upd_ne (Zm q h)];exact q
structure Def(K:aD)(mg:ah->Option aF)(x:ah)(st:ba):Prop where
 ex:∃f fd,mg x=aA (.ref f)/\Fun K x x st f fd
theorem def_mk{K:aD}{h:bR}{g:ah->Option aF}{x:ah}{st:ba}{f:aG}{i:aF}{j n:Option aG}{e:Array (Option aF)}{kV d m b ct:aF}(X:K.In h)(G:h.Ns cD g)
  (a:gg K cD x=aA (aA (.ref f))) (l:K.lookup f=aA ⟨i,j,.func (cM x x (YM st) (Z7 st) (Ze st) .none kV d m n b ct),e⟩)
  (c:cH K b x=aC) (k:eO K (.ref f)=aC):Def K g x st:=⟨f,_,PySem.W.mg_of X G a,GF l c k⟩
structure Xx(P:bI)(w:br)(K:aD)(mg:ah->Option aF)(base:bR)(x:ah)(ps:List ah)(sp:Sp)(k:Nat):Prop where
 ex:∃f fd,mg x=aA (.ref f)/\eO K (.ref f)=aC/\Binds K fd ps []/\Tb P w K mg base OD k f fd ps sp
section
variable {P:bI} {w:br} {K:aD} {mg:ah->Option aF} {base:bR}
theorem Def.cal{x:ah}{st:ba}{N d:List ah}{k:Nat}{sp:Sp}(D:Def K mg x st)(S:Zl N d (Ze st))
  (j:∀(kV doc pm:aF)(an:Option aG)(b ct:aF)(us:List aF),us.length=d.length->gQ (cM x x (YM st) (Z7 st) (Ze st) .none kV doc pm an b ct) ⟨us,[]⟩=pure (d.zip us))
  (len:∀vs H Q E,sp vs H Q E->vs.length=d.length)
  (c:∀(f:aG)(b:aF)(A:bc)(a:List jH)(s:aL)(H:Hp)(vs:List V)(Q:VK)(E:XK),Room k (A.deeper (fA x (Ze st) s.heap.objs.size f b))->sp vs H Q E->
   ∃t,PSs (TJ OD P w K mg base N x (Ze st) f b A a s H E).nox (Z7 st) t/\t { nx:=λ_ l=>Q .non l,rt:=Q } (start N vs) H):Xx P w K mg base x d sp (k+1):=by
 obtain⟨f,i,g,F⟩:=D.ex;exact⟨f,i,g,F.kp,F.binds j,F.ok S len λb A a s H vs Q E e h=>c f b A a s H vs Q E e h⟩
end
section
variable {X:Cx} {x:ah} {ps:List ah} {sp:Sp} {k:Nat} {e:ao} {es:List ao} {t:TA} {p pos:dj}
theorem OF(C:Xx X.prog X.w X.K X.mg X.base x ps sp k)(j:Room k X.A)(m:Gl X x)(i:PA X (e::es) t)
  (g:(x==("__debug__" : ah))=aB:=by decide) (l:aS (e::es) X.env=(aB,eval e X.env)::aS es X.env:=by rfl) (h:(dZ pos (aS es X.env)).any (·.1)=aB:=by rfl) :
  PE X (.Call (.Name x p) (e::es) [] pos) (LD sp [] E0 t):=by
 obtain⟨f,n,a,b,c,d⟩:=C.ex;exact Jz d j m a b c .nil Eb i g l h
end
noncomputable def Wu(N:List ah)(around scope:cx)(own fr:List ah)(ix:List Nat):Bool:=
 (match scope.kind with | .function=>aC | _=>aB)&&scope.names.all (λy=>y.2 != .cell)&&scope.names.all (λy=>y.2 != .local || scope.names.lookup y.1==aA .local)&&
 scope.names.all (λy=>y.2 != .free || (around.names.lookup y.1==aA .cell || around.names.lookup y.1==aA .free))&&(fr.map aA==ix.map (λi=>N[i]?))&&
 fr.all (λx=>scope.names.contains (x,bC))&&fr.all (λx=>scope.names.lookup x != aA .local)
theorem RD{N:List ah}{a b:cx}{own fr:List ah}{ix:List Nat}(h:Wu N a b own fr ix=aC):CompScope N a b own fr ix:=by
 unfold Wu at h;simp only[bV] at h;obtain⟨⟨⟨⟨⟨⟨f,i⟩,j⟩,g⟩,k⟩,l⟩,m⟩:=h;refine⟨?_,λy c=>?_,λy c e=>?_,λy c e=>?_,by simpa using k,λx d=>?_,λx d=>?_⟩
 ·split at f
  ·assumption
  ·cases f
 ·simpa using aj.mp i y c
 ·have:=aj.mp j y c;rw[e] at this;simpa using this
 ·have:=aj.mp g y c;rw[e] at this;simpa using this
 ·simpa using aj.mp l x d
 ·simpa using aj.mp m x d
section
variable {X:Cx} {tg ju iter:ao} {jt:List ao} {scope:cx} {pos:dj} {wi:TI} {g:TG} {tt:TT} {te:TE}
theorem Pg(own fr:List ah)(ix:List Nat)(a:X.calm=aC)(d:PI X tg iter wi)(S:Wu X.N X.env.scope scope own fr ix=aC)
  (f:∀cl C s H ex,PG (Zt X (own++fr) scope cl C s H ex) tg g) (b:∀cl C s H ex,OE (Zt X (own++fr) scope cl C s H ex) jt tt) (e:∀cl C s H ex,PE (Zt X (own++fr) scope cl C s H ex) ju te)
  (c:∀x,bQ iter X.env x=pure x:=by intro _;rfl):PE X (.ListComp ju [⟨tg,iter,jt,0⟩] scope pos) (TN own.length ix wi g tt te):=
 JJ a d (RD S) f b e c
theorem LM(own fr:List ah)(ix:List Nat){i:Nat}{y:ah}{e a:dj}(m:X.N.Nodup)(k:X.N[i]?=aA y)(c:X.env.scope.names.lookup y=aA .local)(b:X.calm=aC)(l:PI X tg iter wi)(S:Wu X.N X.env.scope scope own fr ix=aC)
  (n:∀cl C s H ex,PG (Zt X (own++fr) scope cl C s H ex) tg g) (f:∀cl C s H ex,OE (Zt X (own++fr) scope cl C s H ex) jt tt) (j:∀cl C s H ex,PE (Zt X (own++fr) scope cl C s H ex) ju te)
  (d:fT (.ListComp ju [⟨tg,iter,jt,0⟩] scope pos) (aA (.Name y e)) a.line X.env=pure aC:=by rfl)
  (h:∀x,bQ iter X.env x=pure x:=by intro _;rfl):PS X (.Assign [.Name y e] (.ListComp ju [⟨tg,iter,jt,0⟩] scope pos) a) (Oo (TN own.length ix wi g tt te) (VB i)):=
 JK m k c b l (RD S) n f j d h
end
structure WR(mg:ah->Option aF):Prop where
 «len» : mg "len" = none
 «sum» : mg "sum" = none
 «range» : mg "range" = none
 «enumerate» : mg "enumerate" = none
 «zip» : mg "zip" = none
 «tuple» : mg "tuple" = none
 «list» : mg "list" = none
 «all» : mg "all" = none
 «any» : mg "any" = none
 «isinstance» : mg "isinstance" = none
 «int» : mg "int" = none
 «bool» : mg "bool" = none
 «str» : mg "str" = none
 «min» : mg "min" = none
 «max» : mg "max" = none
 «sorted» : mg "sorted" = none
 «abs» : mg "abs" = none
 «ValueError» : mg "ValueError" = none
 «reversed» : mg "reversed" = none
 «set» : mg "set" = none
abbrev Dz(g:TG)(tb:TS)(D:Yv)(σ:St)(J:It)(H:Hp):Prop:=
 ∃W:Nat->Nat->St->Hp->Prop,(∃m,W 0 m σ H)/\∀i m σ H,W i m σ H->
   (J.stop i H/\D.nx σ H)\/(J.go i H/\∃N:St->Hp->Prop,(∀σ' H',N σ' H'->∃m',m'<m/\W (i+1) m' σ' H')/\∀x H',J.yld i H x H'->g x σ H' λσ2 H2=>tb { D with nx:=N,ct:=N,bk:=D.nx } σ2 H2)
noncomputable def Yq(l:List Int)(i:Nat):Int:=l.getD i 0
theorem MH(l:List Int):(aJ l.length).map (Yq l)=l:=by
 apply cO;intro i;rw[aR];by_cases h:i<l.length
 ·rw[aN (by simpa using h)];simp[Yq,aN h]
 ·rw[bJ (by simpa using h),bJ (by omega)];rfl
theorem Vd{f:Nat->Int}{n i:Nat}(h:i<n):Yq ((aJ n).map f) i=f i:=by unfold Yq;rw[aM,aR,bB h];rfl
noncomputable def Zx(w:List (List Int))(i:Nat):List Int:=w.getD i []
theorem Ph{w:List (List Int)}{i:Nat}(h:i<w.length):w[i]?=aA (Zx w i):=by unfold Zx;rw[aM,aN h];rfl
noncomputable def ent(w:List (List Int))(i j:Nat):Int:=Yq (Zx w i) j
structure Yz(w:List (List Int)):Prop where
 pos:1<=w.length
 few:w.length<=7
 sq:∀i,i<w.length->(Zx w i).length=w.length
 lo:∀i j,i<w.length->j<w.length->0<=ent w i j
 hi:∀i j,i<w.length->j<w.length->ent w i j<=9
 sym:∀i j,i<w.length->j<w.length->ent w i j=ent w j i
 dia:∀i,i<w.length->ent w i i=0
noncomputable def GJ(K:aD):List V->Hp->VK->Prop:=λxs H Q=>∃p ys,xs=[.ref p]/\((SqL K H p ys/\∀l,H l=none->Q (.ref l) (upd H l (.tup ys)))\/(SqT K H p ys/\Q (.ref p) H))
noncomputable def JN(K:aD):List V->Hp->VK->Prop:=λxs H Q=>∃p ys,xs=[.ref p]/\(SqL K H p ys\/SqT K H p ys)/\∀l,H l=none->Q (.ref l) (upd H l (.lst ys))
theorem Same.off{H a:Hp}{p:aG}(s:Same H a)(n:a p=none):H p=none:=s.free n
abbrev Ca:=Nat×Nat×Int
noncomputable def Up(M:List (List Int))(a b:Nat)(t:Int):List (List Int):=M.set a ((Zx M a).set b t)
structure MatOk(n:Nat)(M:List (List Int)):Prop where
 len:M.length=n
 row:∀i,i<n->(Zx M i).length=n
 lo:∀i j,i<n->j<n->0<=ent M i j
 hi:∀i j,i<n->j<n->ent M i j<=9
 sym:∀i j,i<n->j<n->ent M i j=ent M j i
 dia:∀i,i<n->ent M i i=0
theorem RE{M:List (List Int)}{a i:Nat}{r:List Int}(b:a<M.length):Zx (M.set a r) i=if a=i then r else Zx M i:=by
 unfold Zx;by_cases h:a=i
 ·subst h;simp[b]
 ·simp[h]
theorem JO{l:List Int}{b j:Nat}{t:Int}(a:b<l.length):Yq (l.set b t) j=if b=j then t else Yq l j:=by
 unfold Yq;by_cases h:b=j
 ·subst h;simp[a]
 ·simp[h]
theorem Pj{n:Nat}{M:List (List Int)}{a b i j:Nat}{t:Int}(f:M.length=n)(d:∀i,i<n->(Zx M i).length=n)(c:a<n)(e:b<n):ent (Up M a b t) i j=if a=i/\b=j then t else ent M i j:=by
 show Yq (Zx (M.set a ((Zx M a).set b t)) i) j=_;rw[RE (by omega)];by_cases h:a=i
 ·subst h;rw[jw rfl,JO (by rw[d a c];exact e)];by_cases q:b=j
  ·rw[jw q,jw ⟨rfl,q⟩]
  ·rw[jx q,jx (λz=>q z.2)];rfl
 ·rw[jx h,jx (λz=>h z.1)];rfl
theorem X1{n:Nat}{M:List (List Int)}{a b:Nat}{t:Int}(f:M.length=n)(c:∀i,i<n->(Zx M i).length=n)(d:a<n):(Up M a b t).length=n/\∀i,i<n->(Zx (Up M a b t) i).length=n:=by
 refine⟨by unfold Up;rw[cQ];exact f,λi e=>?_⟩;show(Zx (M.set a ((Zx M a).set b t)) i).length=n;rw[RE (by omega)];split
 ·rw[cQ];exact c a d
 ·exact c i e
theorem MatOk.zero(n:Nat):MatOk n (aT n (aT n 0)):=by
 have r:∀i,i<n->Zx (aT n (aT n (0:Int))) i=aT n 0:=λi a=>by unfold Zx;rw[aM,b6,jw a];rfl
 have z:∀i j,i<n->j<n->ent (aT n (aT n (0:Int))) i j=0:=λi j a b=>by show Yq (Zx _ i) j=0;rw[r i a];unfold Yq;rw[aM,b6,jw b];rfl
 exact⟨by simp,λi a=>by rw[r i a];simp,λi j a b=>by rw[z i j a b];omega,λi j a b=>by rw[z i j a b];omega,λi j a b=>by rw[z i j a b,z j i b a],λi a=>z i i a a⟩
theorem MatOk.web{n:Nat}{M:List (List Int)}(h:MatOk n M)(a:1<=n)(b:n<=7):Yz M:=by have e:=h.len;subst e;exact⟨a,b,h.row,h.lo,h.hi,h.sym,h.dia⟩
theorem YB(f:Nat->Int)(n:Nat):((aJ (n+1)).map f).sum=((aJ n).map f).sum+f n:=by rw[gq];simp
theorem Xd{f g:Nat->Int}{n:Nat}(h:∀i,i<n->f i=g i):((aJ n).map f).sum=((aJ n).map g).sum:=by congr 1;apply bN;intro i a;exact h i (aY.mp a)
theorem NO(f g:Nat->Int)(n:Nat):((aJ n).map λi=>f i+g i).sum=((aJ n).map f).sum+((aJ n).map g).sum:=by
 induction n with
 | zero=>simp
 | succ n ih=>rw[YB,YB,YB,ih];omega
theorem JP(l:List Int):((aJ l.length).map (Yq l)).sum=l.sum:=by rw[MH]
theorem LN(e:Nat->Nat->Int)(n:Nat)(c:∀i j,i<n->j<n->e i j=e j i)(d:∀i,i<n->e i i=0) :
  ((aJ n).map λi=>((aJ n).map λj=>e i j).sum).sum=2*((aJ n).map λa=>((aJ (n-(a+1))).map λj=>e a (a+1+j)).sum).sum:=by
 induction n with
 | zero=>simp
 | succ n f=>
  have f:=f (λi j b l=>c i j (by omega) (by omega)) λi b=>d i (by omega);rw[YB,YB,YB];have k:((aJ n).map λi=>((aJ (n+1)).map λj=>e i j).sum).sum=((aJ n).map λi=>((aJ n).map λj=>e i j).sum).sum+((aJ n).map λi=>e i n).sum:=by rw[<-NO];apply Xd;intro i _;rw[YB]
  have h:((aJ n).map λa=>((aJ (n+1-(a+1))).map λj=>e a (a+1+j)).sum).sum=((aJ n).map λa=>((aJ (n-(a+1))).map λj=>e a (a+1+j)).sum).sum+((aJ n).map λi=>e i n).sum:=by rw[<-NO];apply Xd;intro i b;rw[show n+1-(i+1)=(n-(i+1))+1 by omega,YB,show i+1+(n-(i+1))=n by omega]
  have g:((aJ n).map λj=>e n j).sum=((aJ n).map λi=>e i n).sum:=by apply Xd;intro i b;exact c n i (by omega) (by omega)
  rw[k,h,g,d n (by omega)];simp;omega
structure NamesOk(i:Nat)(l:List Int):Prop where
 len:l.length=i
 nd:l.Nodup
 lo:∀x∈l,0<=x
 hi:∀x∈l,x<i
theorem NamesOk.nil:NamesOk 0 []:=⟨rfl,cY,λ_ h=>by simp at h,λ_ h=>by simp at h⟩
theorem NamesOk.ins{i:Nat}{l:List Int}(h:NamesOk i l)(k:Nat):NamesOk (i+1) (l.take k++(i:Int)::l.drop k):=by
 have b:(l.take k++(i:Int)::l.drop k).Perm ((i:Int)::l):=by have:=List.perm_middle (a:=(i:Int)) (l₁:=l.take k) (l₂:=l.drop k);rw[List.take_append_drop] at this;exact this
 refine⟨by rw[b.length_eq,bW,h.len],?_,λx c=>?_,λx c=>?_⟩
 ·rw[b.nodup_iff,bM];exact⟨λd=>by have:=h.hi _ d;omega,h.nd⟩
 ·rcases af.mp (b.mem_iff.mp c) with e | e
  ·omega
  ·exact h.lo x e
 ·rcases af.mp (b.mem_iff.mp c) with e | e
  ·omega
  ·have:=h.hi x e;omega
theorem NamesOk.at{i:Nat}{l:List Int}(h:NamesOk i l){x:Nat}(a:x<i):0<=Yq l x/\Yq l x<i:=by
 have e:Yq l x=l[x]'(by rw[h.len];exact a):=by unfold Yq;rw[aM,aN (by rw[h.len];exact a)];rfl
 rw[e];exact⟨h.lo _ (cw _),h.hi _ (cw _)⟩
theorem NamesOk.ne{i:Nat}{l:List Int}(h:NamesOk i l){x y:Nat}(a:x<i)(b:y<i)(n:x≠y):Yq l x≠Yq l y:=by
 have c:Yq l x=l[x]'(by rw[h.len];exact a):=by unfold Yq;rw[aM,aN (by rw[h.len];exact a)];rfl
 have d:Yq l y=l[y]'(by rw[h.len];exact b):=by unfold Yq;rw[aM,aN (by rw[h.len];exact b)];rfl
 rw[c,d];intro e;exact n ((jI h.nd).mp e)
theorem lt_size{n:Nat}(h:n<=10000):n<sizeLine:=bA h (by decide)
end L2
namespace VL
open PySem PySem.Spec PyProof.Rows L2
variable {K:aD}
noncomputable def Cb(od:cj)(f:ah)(u:aF):Prop:=∀(hp:bR)(dx:aG),hp.get? dx=aA od->hp.Ns1 dx (λn=>if n=f then aA u else none)
noncomputable def JQ(n:ah):ah:=if n = "NoWeb" then "place" else if n = "Apart" then "houses" else if n = "TooMany" then "most" else "total"
structure DA where
 qual:ah
 params:Arguments
 body:ao
 scope:cx
 free:ah
inductive PV where
 | non | bl (b:Bool) | int (i:Int) | str (x:ah) | ty (n:String) | exc (n:ah) | exf (n:ah) (l:PV) | clo (L:DA) (l:PV)
 | tup (l:List PV) | lst (l:List PV) | cst (l:List PV)
 | dK (ks:List S3) (vs:List PV) | dT (ks:List (List S3)) (vs:List PV)
instance:Inhabited PV:=⟨.non⟩
mutual
/-- nothing in it can be changed -/
def ZS:PV->Bool
 | .tup l=>Zv l
 | .cst l=>Zv l
 | .lst _=>aB
 | .dK _ _=>aB
 | .dT _ _=>aB
 | .non=>aC
 | .bl _=>aC
 | .int _=>aC
 | .str _=>aC
 | .ty _=>aC
 | .exc _=>aC
 | .exf _ _=>aC
 | .clo _ l=>ZS l
def Zv:List PV->Bool
 | []=>aC
 | x::r=>ZS x&&Zv r
end
theorem YG:∀l:List PV,Zv l=l.all ZS
 | []=>rfl
 | x::r=>by rw[iU,<-YG r];rfl
noncomputable def KL(K:aD)(a:aG)(xs:List V):Prop:=
 ∃(o:cj) (jv:Array aF) (n:Nat),K.lookup a=aA o/\o.cls = .type "list"/\o.dict=none/\o.data = .seq jv n/\jv.size<=sizeLine/\Vals xs jv.toList
noncomputable def CsK(K:aD)(H:Hp)(p:aG)(xs:List V):Prop:=(∃o,H p=aA (.frz o (.lst xs)))\/KL K p xs
theorem CsK.sq{K:aD}{H:Hp}{p:aG}{a:List V}(h:CsK K H p a):SqL K H p a:=by
 rcases h with h | h
 ·exact .inl (.inr h)
 ·exact .inr h
noncomputable def CloAt(H:Hp)(L:DA)(v:V)(u:aF):Prop:=∃f fo c oc e eo pm ct,v = .ref f/\H f=aA (.frz fo (.own 0))/\fo.data = .func (PySem.W.kla_fn "<lambda>" L.qual L.params L.body L.scope [(L.free,e)] pm (.ref c) ct)/\H c=aA (.frz oc (.own 0))/\Lr oc L.qual/\H e=aA (.frz eo (.own 1))/\eo.data = .cell (aA u)
mutual
/-- v is the tree l in the heap H;fp: the addresses of jv lists and dicts -/
def Is(K:aD)(H:Hp):PV->V->List aG->Prop
 | .non,v,fp=>v = .non/\fp=[]
 | .bl b,v,fp=>v = .bl b/\fp=[]
 | .int i,v,fp=>v = .int i/\fp=[]
 | .str x,v,fp=>v = .str x/\fp=[]
 | .ty n,v,fp=>v = .ty n/\fp=[]
 | .exc n,v,fp=>(∃e o x C,v = .ref e/\H e=aA (.frz o (.own x))/\o.cls = .ref C/\gg K cD n=aA (aA (.ref C))/\o.dict=none/\∃vs,o.data = .fields vs)/\fp=[]
 | .exf n l,v,fp=>(∃e o x C dx od u z,v = .ref e/\H e=aA (.frz o (.own x))/\o.cls = .ref C/\gg K cD n=aA (aA (.ref C))/\o.dict=aA dx/\(∃vs,o.data = .fields vs)/\H dx=aA (.frz od (.own dx))/\Cb od (JQ n) u/\RelV z u/\Is K H l z [])/\fp=[]
 | .clo L l,v,fp=>∃u x,CloAt H L v u/\RelV x u/\Is K H l x fp
 | .tup l,v,fp=>∃p xs,v = .ref p/\H p=aA (.tup xs)/\Iss K H l xs fp
 | .lst l,v,fp=>∃p xs fq,v = .ref p/\H p=aA (.lst xs)/\Iss K H l xs fq/\fp=p::fq
 | .cst l,v,fp=>∃p xs,v = .ref p/\CsK K H p xs/\Iss K H l xs fp
 | .dK ks l,v,fp=>∃p jr fq,v = .ref p/\Rd H p (.dK jr)/\jr.map (·.1)=ks/\Iss K H l (jr.map (·.2)) fq/\fp=p::fq
 | .dT ks l,v,fp=>∃p jr fq,v = .ref p/\Rd H p (.dT jr)/\jr.map (·.1)=ks/\Iss K H l (jr.map (·.2)) fq/\fp=p::fq
def Iss(K:aD)(H:Hp):List PV->List V->List aG->Prop
 | [],xs,fp=>xs=[]/\fp=[]
 | l::ls,xs,fp=>∃x r f1 f2,xs=x::r/\Is K H l x f1/\Iss K H ls r f2/\fp=f1++f2
end
noncomputable def RdK(H H':Hp)(p:aG):Prop:=(∀xs,H p=aA (.lst xs)->H' p=aA (.lst xs))/\(∀jr,Rd H p (.dK jr)->Rd H' p (.dK jr))/\∀jr,Rd H p (.dT jr)->Rd H' p (.dT jr)
theorem RdK.of{H a:Hp}{p:aG}(h:∀o,H p=aA o->a p=aA o):RdK H a p:=by
 have r:∀u,Rd H p u->Rd a p u:=λu q=>by
  rcases q with q | ⟨o,q⟩
  ·exact .inl (h _ q)
  ·exact .inr ⟨o,h _ q⟩
 exact⟨λ_=>h _,λ_=>r _,λ_=>r _⟩
structure JR(H H':Hp):Prop where
 tup:TK H H'
 frz:∀b o xs,H b=aA (.frz o (.lst xs))->H' b=aA (.frz o (.lst xs))
 exc:∀b o x,H b=aA (.frz o (.own x))->H' b=aA (.frz o (.own x))
theorem Same.tk2{H a:Hp}(s:Same H a):JR H a:=⟨s.tk,λb o c h=>s b _ h,λb o x h=>s b _ h⟩
theorem CsK.tr{K:aD}{H b:Hp}(t:JR H b){p:aG}{a:List V}(h:CsK K H p a):CsK K b p a:=by
 rcases h with⟨o,h⟩ | h
 ·exact .inl ⟨o,t.frz p o a h⟩
 ·exact .inr h
theorem CloAt.tr{H d:Hp}(t:JR H d){L:DA}{v:V}{u:aF}(h:CloAt H L v u):CloAt d L v u:=by obtain⟨f,fo,c,b,e,a,k,ct,j,i,l,g,m,n,o⟩:=h;exact⟨f,fo,c,b,e,a,k,ct,j,t.exc f fo 0 i,l,t.exc c b 0 g,m,t.exc e a 1 n,o⟩
mutual
theorem Is.tr{H w:Hp}(f:JR H w):∀(l:PV)(v:V)(fp:List aG),(∀p∈fp,RdK H w p)->Is K H l v fp->Is K w l v fp
 | .non,_,_,_,h=>by simpa only[Is] using h
 | .bl _,_,_,_,h=>by simpa only[Is] using h
 | .int _,_,_,_,h=>by simpa only[Is] using h
 | .str _,_,_,_,h=>by simpa only[Is] using h
 | .ty _,_,_,_,h=>by simpa only[Is] using h
 | .exc _,_,_,_,h=>by simp only[Is] at h ⊢;obtain⟨⟨e,o,x,C,a,b,c⟩,d⟩:=h;exact⟨⟨e,o,x,C,a,f.exc e o x b,c⟩,d⟩
 | .exf _ l,_,_,_,h=>by simp only[Is] at h ⊢;obtain⟨⟨e,o,x,C,r,y,u,z,a,b,c1,c2,c3,c4,c5,B,A,D⟩,d⟩:=h;exact⟨⟨e,o,x,C,r,y,u,z,a,f.exc e o x b,c1,c2,c3,c4,f.exc r y r c5,B,A,Is.tr f l z [] (λp t=>by simp at t) D⟩,d⟩
 | .clo L l,v,fp,hm,h=>by simp only[Is] at h ⊢;obtain⟨u,x,E,j,g⟩:=h;exact⟨u,x,E.tr f,j,Is.tr f l x fp hm g⟩
 | .tup l,v,fp,hm,h=>by simp only[Is] at h ⊢;obtain⟨p,i,e,t,g⟩:=h;exact⟨p,i,e,f.tup p i t,Iss.tr f l i fp hm g⟩
 | .lst l,v,fp,hm,h=>by simp only[Is] at h ⊢;obtain⟨p,i,k,e,j,g,rfl⟩:=h;exact⟨p,i,k,e,(hm p a9).1 _ j,Iss.tr f l i k (λq m=>hm q (aU _ m)) g,rfl⟩
 | .cst l,v,fp,hm,h=>by simp only[Is] at h ⊢;obtain⟨p,i,e,j,g⟩:=h;exact⟨p,i,e,j.tr f,Iss.tr f l i fp hm g⟩
 | .dK ks l,v,fp,hm,h=>by simp only[Is] at h ⊢;obtain⟨p,n,k,e,j,s,g,rfl⟩:=h;exact⟨p,n,k,e,(hm p a9).2.1 _ j,s,Iss.tr f l _ k (λq m=>hm q (aU _ m)) g,rfl⟩
 | .dT ks l,v,fp,hm,h=>by simp only[Is] at h ⊢;obtain⟨p,n,k,e,j,s,g,rfl⟩:=h;exact⟨p,n,k,e,(hm p a9).2.2 _ j,s,Iss.tr f l _ k (λq m=>hm q (aU _ m)) g,rfl⟩
theorem Iss.tr{H b:Hp}(c:JR H b):∀(l:List PV)(xs:List V)(fp:List aG),(∀p∈fp,RdK H b p)->Iss K H l xs fp->Iss K b l xs fp
 | [],_,_,_,h=>by simpa only[Iss] using h
 | l::ls,xs,fp,hm,h=>by simp only[Iss] at h ⊢;obtain⟨x,r,f1,f2,e,d,f,rfl⟩:=h;exact⟨x,r,f1,f2,e,Is.tr c l x f1 (λq a=>hm q (bO _ a)) d,Iss.tr c ls r f2 (λq a=>hm q (aa _ a)) f,rfl⟩
end
theorem Is.mono{H b:Hp}(s:Same H b){l:PV}{v:V}{a:List aG}(h:Is K H l v a):Is K b l v a:=Is.tr (Same.tk2 s) l v a (λp _=>RdK.of λo q=>s p o q) h
theorem Iss.mono{H b:Hp}(s:Same H b){l:List PV}{v:List V}{a:List aG}(h:Iss K H l v a):Iss K b l v a:=Iss.tr (Same.tk2 s) l v a (λp _=>RdK.of λo q=>s p o q) h
mutual
theorem Is.pure{H:Hp}:∀(l:PV)(v:V)(fp:List aG),ZS l=aC->Is K H l v fp->fp=[]
 | .non,_,_,_,h=>by simp only[Is] at h;exact h.2
 | .bl _,_,_,_,h=>by simp only[Is] at h;exact h.2
 | .int _,_,_,_,h=>by simp only[Is] at h;exact h.2
 | .str _,_,_,_,h=>by simp only[Is] at h;exact h.2
 | .ty _,_,_,_,h=>by simp only[Is] at h;exact h.2
 | .exc _,_,_,_,h=>by simp only[Is] at h;exact h.2
 | .exf _ _,_,_,_,h=>by simp only[Is] at h;exact h.2
 | .clo L l,v,fp,hp,h=>by simp only[Is] at h;obtain⟨u,x,c,d,a⟩:=h;exact Is.pure l x fp (by simpa only[ZS] using hp) a
 | .tup l,v,fp,hp,h=>by simp only[Is] at h;obtain⟨p,b,e,_,a⟩:=h;exact Iss.pure l b fp (by simpa only[ZS] using hp) a
 | .lst l,v,fp,hp,h=>by simp[ZS] at hp
 | .cst l,v,fp,hp,h=>by simp only[Is] at h;obtain⟨p,b,e,_,a⟩:=h;exact Iss.pure l b fp (by simpa only[ZS] using hp) a
 | .dK ks l,v,fp,hp,h=>by simp[ZS] at hp
 | .dT ks l,v,fp,hp,h=>by simp[ZS] at hp
theorem Iss.pure{H:Hp}:∀(l:List PV)(xs:List V)(fp:List aG),Zv l=aC->Iss K H l xs fp->fp=[]
 | [],_,_,_,h=>by simp only[Iss] at h;exact h.2
 | l::ls,xs,fp,hp,h=>by simp only[Iss] at h;simp only[Zv,bV] at hp;obtain⟨x,r,f1,f2,e,a,b,rfl⟩:=h;rw[Is.pure l x f1 hp.1 a,Iss.pure ls r f2 hp.2 b];rfl
end
section
variable {H H':Hp}
theorem Iss.len:∀{l:List PV}{xs:List V}{fp:List aG},Iss K H l xs fp->xs.length=l.length
 | [],xs,fp,h=>by simp only[Iss] at h;rw[h.1];rfl
 | l::ls,xs,fp,h=>by simp only[Iss] at h;obtain⟨x,r,f1,f2,rfl,_,a,_⟩:=h;rw[bW,bW,a.len]
theorem Iss.get:∀{l:List PV}{xs:List V}{fp:List aG}{i:Nat}{a:PV},Iss K H l xs fp->l[i]?=aA a->∃x f1,xs[i]?=aA x/\Is K H a x f1/\∀p∈f1,p∈fp
 | [],xs,fp,i,a,h,e=>by simp at e
 | l::ls,xs,fp,0,a,h,e=>by simp only[Iss] at h;obtain⟨x,r,f1,f2,rfl,f,_,rfl⟩:=h;simp at e;subst e;exact⟨x,f1,rfl,f,λp b=>bO _ b⟩
 | l::ls,xs,fp,i+1,a,h,e=>by simp only[Iss] at h;obtain⟨x,r,f1,f2,rfl,_,k,rfl⟩:=h;obtain⟨y,g,j,c,d⟩:=k.get (i:=i) (a:=a) (by simpa using e);exact⟨y,g,by simpa using j,c,λp b=>aa _ (d p b)⟩
theorem Iss.nil:Iss K H [] [] []:=by simp[Iss]
theorem Iss.cons{l:PV}{ls:List PV}{x:V}{a:List V}{f1 f2:List aG}(b:Is K H l x f1)(c:Iss K H ls a f2):Iss K H (l::ls) (x::a) (f1++f2):=by exact⟨x,a,f1,f2,rfl,b,c,rfl⟩
theorem Iss.inv{l:PV}{ls:List PV}{a:List V}{b:List aG}(h:Iss K H (l::ls) a b):∃x r f1 f2,a=x::r/\Is K H l x f1/\Iss K H ls r f2/\b=f1++f2:=by simpa only[Iss] using h
theorem Iss.append:∀{l m:List PV}{xs ys:List V}{f1 f2:List aG},Iss K H l xs f1->Iss K H m ys f2->Iss K H (l++m) (xs++ys) (f1++f2)
 | [],m,xs,ys,f1,f2,h,h'=>by simp only[Iss] at h;rw[h.1,h.2];exact h'
 | l::ls,m,xs,ys,f1,f2,h,h'=>by obtain⟨x,r,c,d,rfl,a,b,rfl⟩:=h.inv;rw[eT];exact Iss.cons a (b.append h')
theorem Iss.one{l:PV}{x:V}{f:List aG}(h:Is K H l x f):Iss K H [l] [x] f:=by
 have:=Iss.cons h (Iss.nil)
 rwa [cg] at this
theorem Iss.take:∀{l:List PV}{xs:List V}{fp:List aG}(n:Nat),Iss K H l xs fp->∃f1,Iss K H (l.take n) (xs.take n) f1/\∀p∈f1,p∈fp
 | l,xs,fp,0,h=>⟨[],by rw[iB,iB];exact Iss.nil,λp c=>by simp at c⟩
 | [],xs,fp,n+1,h=>by simp only[Iss] at h;rw[h.1];exact⟨[],by rw[jd,jd];exact Iss.nil,λp c=>by simp at c⟩
 | l::ls,xs,fp,n+1,h=>by
  obtain⟨x,r,f1,f2,rfl,d,e,rfl⟩:=h.inv;obtain⟨f,a,b⟩:=e.take n;refine⟨f1++f,Iss.cons d a,λp c=>?_⟩;rcases bj.mp c with h | h
  ·exact bO _ h
  ·exact aa _ (b p h)
theorem Iss.drop:∀{l:List PV}{xs:List V}{fp:List aG}(n:Nat),Iss K H l xs fp->∃f1,Iss K H (l.drop n) (xs.drop n) f1/\∀p∈f1,p∈fp
 | l,xs,fp,0,h=>⟨fp,h,λp c=>c⟩
 | [],xs,fp,n+1,h=>by simp only[Iss] at h;rw[h.1];exact⟨[],by rw[je,je];exact Iss.nil,λp c=>by simp at c⟩
 | l::ls,xs,fp,n+1,h=>by obtain⟨x,r,f1,f2,rfl,f,d,rfl⟩:=h.inv;obtain⟨e,a,b⟩:=d.drop n;exact⟨e,a,λp c=>aa _ (b p c)⟩
theorem Iss.setP:∀{l:List PV}{xs:List V}{a:PV}{x:V}(i:Nat),Zv l=aC->ZS a=aC->Iss K H l xs []->Is K H a x []->Iss K H (l.set i a) (xs.set i x) []
 | [],xs,a,x,i,_,_,h,_=>by simp only[Iss] at h;rw[h.1];simp only[List.set_nil];exact Iss.nil
 | l::ls,xs,a,x,0,hp,_,h,ha=>by simp only[Zv,bV] at hp;obtain⟨y,r,f1,f2,rfl,_,b,e⟩:=h.inv;have c:=Iss.pure _ _ _ hp.2 b;subst c;exact Iss.cons (f1:=[]) ha b
 | l::ls,xs,a,x,i+1,hp,hq,h,ha=>by simp only[Zv,bV] at hp;obtain⟨y,r,f1,f2,rfl,d,b,e⟩:=h.inv;have f:=Is.pure _ _ _ hp.1 d;have c:=Iss.pure _ _ _ hp.2 b;subst f c;exact Iss.cons (f1:=[]) d (Iss.setP i hp.2 hq b ha)
theorem Is.int_inv{i:Int}{v:V}{a:List aG}(h:Is K H (.int i) v a):v = .int i/\a=[]:=by simpa only[Is] using h
theorem Is.int(i:Int):Is K H (.int i) (.int i) []:=by simp[Is]
theorem Is.bl(i:Bool):Is K H (.bl i) (.bl i) []:=by simp[Is]
theorem Is.non:Is K H .non .non []:=by simp[Is]
theorem Is.str(x:ah):Is K H (.str x) (.str x) []:=by simp[Is]
theorem Is.ty(n:String):Is K H (.ty n) (.ty n) []:=by simp[Is]
theorem Is.bl_inv{i:Bool}{v:V}{a:List aG}(h:Is K H (.bl i) v a):v = .bl i/\a=[]:=by simpa only[Is] using h
theorem Is.str_inv{i:ah}{v:V}{a:List aG}(h:Is K H (.str i) v a):v = .str i/\a=[]:=by simpa only[Is] using h
theorem Is.non_inv{v:V}{a:List aG}(h:Is K H .non v a):v = .non/\a=[]:=by simpa only[Is] using h
theorem Is.ty_inv{n:String}{v:V}{a:List aG}(h:Is K H (.ty n) v a):v = .ty n/\a=[]:=by simpa only[Is] using h
theorem Is.tup_inv{l:List PV}{v:V}{a:List aG}(h:Is K H (.tup l) v a):∃p xs,v = .ref p/\H p=aA (.tup xs)/\Iss K H l xs a:=by simpa only[Is] using h
theorem Is.tup{l:List PV}{p:aG}{a:List V}{b:List aG}(h:H p=aA (.tup a))(c:Iss K H l a b):Is K H (.tup l) (.ref p) b:=by simp only[Is];exact⟨p,a,rfl,h,c⟩
theorem Is.lst_inv{l:List PV}{v:V}{a:List aG}(h:Is K H (.lst l) v a):∃p xs fq,v = .ref p/\H p=aA (.lst xs)/\Iss K H l xs fq/\a=p::fq:=by simpa only[Is] using h
theorem Is.lst{l:List PV}{p:aG}{a:List V}{b:List aG}(h:H p=aA (.lst a))(c:Iss K H l a b):Is K H (.lst l) (.ref p) (p::b):=by simp only[Is];exact⟨p,a,b,rfl,h,c,rfl⟩
theorem Is.cst_inv{l:List PV}{v:V}{a:List aG}(h:Is K H (.cst l) v a):∃p xs,v = .ref p/\CsK K H p xs/\Iss K H l xs a:=by simpa only[Is] using h
theorem Is.cst{l:List PV}{p:aG}{a:List V}{b:List aG}(h:CsK K H p a)(c:Iss K H l a b):Is K H (.cst l) (.ref p) b:=by simp only[Is];exact⟨p,a,rfl,h,c⟩
theorem Is.dT_inv{a:List (List S3)}{l:List PV}{v:V}{b:List aG}(h:Is K H (.dT a l) v b):∃p jr fq,v = .ref p/\Rd H p (.dT jr)/\jr.map (·.1)=a/\Iss K H l (jr.map (·.2)) fq/\b=p::fq:=by simpa only[Is] using h
theorem Is.dK_inv{a:List S3}{l:List PV}{v:V}{b:List aG}(h:Is K H (.dK a l) v b):∃p jr fq,v = .ref p/\Rd H p (.dK jr)/\jr.map (·.1)=a/\Iss K H l (jr.map (·.2)) fq/\b=p::fq:=by simpa only[Is] using h
end
abbrev iL(l:List Int):List PV:=l.map PV.int
theorem Yd(l:List Int):Zv (iL l)=aC:=by rw[YG,aj];intro x a;obtain⟨i,_,rfl⟩:=bq.mp a;rfl
theorem Iss.iL{H:Hp}:∀{l:List Int}{xs:List V}{fp:List aG},Iss K H (VL.iL l) xs fp->xs=l.map V.int/\fp=[]
 | [],xs,fp,h=>by simpa only[VL.iL,List.map_nil,Iss] using h
 | i::l,xs,fp,h=>by obtain⟨x,r,f1,f2,rfl,a,b,rfl⟩:=Iss.inv (show Iss K H (PV.int i::VL.iL l) xs fp from h);obtain⟨rfl,rfl⟩:=a.int_inv;obtain⟨rfl,rfl⟩:=b.iL;exact⟨rfl,rfl⟩
theorem Iss.ofInts{H:Hp}:∀(l:List Int),Iss K H (VL.iL l) (l.map V.int) []
 | []=>Iss.nil
 | i::l=>Iss.cons (f1:=[]) (Is.int i) (Iss.ofInts l)
end VL
namespace VL
open PySem PySem.Spec PyProof.Rows L2
variable {K:aD}
abbrev Tf:=L2.St
abbrev Zy:=List (Option PV)
abbrev XE:=Zy->Option PV
structure EnvIs(K:aD)(Rm:aG->Prop)(H:Hp)(s:Zy)(σ:Tf):Prop where
 is:∀(i:Nat) l,s[i]?=aA (aA l)->∃v fp,σ[i]?=aA (aA v)/\Is K H l v fp/\∀p∈fp,¬Rm p
theorem EnvIs.mono{f:aG->Prop}{H g:Hp}{s:Zy}{d:Tf}(h:EnvIs K f H s d)(e:Same H g):EnvIs K f g s d:=⟨λi l q=>by
 obtain⟨v,j,a,b,c⟩:=h.is i l q;exact⟨v,j,a,b.mono e,c⟩⟩
theorem EnvIs.free{f:aG->Prop}{H:Hp}{s:Zy}{d:Tf}(h:EnvIs K f H s d):EnvIs K (λ_=>False) H s d:=⟨λi l q=>by
 obtain⟨v,e,a,b,c⟩:=h.is i l q;exact⟨v,e,a,b,λ_ _ z=>z⟩⟩
theorem Same.mut{H a:Hp}(e:Same H a){p:aG}(h:W7 (H p)):W7 (a p):=by
 cases q:H p with
 | none=>rw[q] at h;exact h.elim
 | some o=>rw[e p o q,<-q];exact h
theorem YN{H:Hp}{p:aG}(h:W7 (H p)):H p≠none:=λz=>by rw[z] at h;exact h
noncomputable def tF(K:aD)(f:XE):TE:=λσ H Q=>∃(Rm:aG->Prop) (s:Zy) (l:PV),(∀p,Rm p->W7 (H p))/\EnvIs K Rm H s σ/\f s=aA l/\∀v H' fp,Same H H'->Is K H' l v fp->(∀p∈fp,¬Rm p)->Q v H'
noncomputable def tM(K:aD)(f:XE):TE:=λσ H Q=>∃(s:Zy) (l:PV),EnvIs K (λ_=>False) H s σ/\f s=aA l/\∀v H' fp,Same H H'->Is K H' l v fp->fp.Nodup->(∀p∈fp,H p=none/\W7 (H' p))->Q v H'
noncomputable def VE(X:Cx)(e:ao)(f:XE):Prop:=PE X e (tF X.K f)
noncomputable def VM(X:Cx)(e:ao)(f:XE):Prop:=PE X e (tM X.K f)
section
variable {X:Cx} {e:ao} {f g:XE} {t t':TE}
theorem PE.imp(h:PE X e t)(i:∀a H Q,t' a H Q->t a H Q):PE X e t':=λb s a H Q I q=>h b s a H Q I (i a H Q q)
theorem VM.ve(h:VM X e f):VE X e f:=PE.imp h λm H Q ⟨j,s,l,b,env,e,k⟩=>
 ⟨s,l,env.free,e,λv g c a i _ n=>k v g c a i λp d z=>YN (b p z) (n p d).1⟩
noncomputable def eP(f:XE):XE:=λs=>(f s).bind λl=>if ZS l=aC then aA l else none
theorem JS{s:Zy}{l:PV}(h:eP f s=aA l):f s=aA l/\ZS l=aC:=by
 unfold eP at h
 cases q:f s with
 | none=>rw[q] at h;cases h
 | some a=>
  rw[q] at h;simp only[a0] at h;split at h
  ·cases h;exact⟨rfl,by assumption⟩
  ·cases h
theorem VE.pure(h:VE X e f):VM X e (eP f):=PE.imp h λm H Q ⟨s,l,env,e,k⟩=>by
 obtain⟨d,a⟩:=JS e;refine⟨λ_=>False,s,l,λ_ z=>z.elim,env,d,λv j c b i n=>?_⟩;have:=Is.pure l v c a i;subst this;exact k v j [] b i cY λp g=>by simp at g
end
noncomputable def Za(i:Nat):XE:=λs=>(s[i]?).join
noncomputable def eC(l:PV):XE:=λ_=>aA l
theorem RF{i:Nat}{s:Zy}{l:PV}(h:Za i s=aA l):s[i]?=aA (aA l):=by
 unfold Za at h
 cases q:s[i]? with
 | none=>rw[q] at h;cases h
 | some o=>rw[q] at h;cases o with
  | none=>cases h
  | some a=>cases h;rfl
section
variable {X:Cx} {pos:dj}
theorem Eh{e:ao}{i:Nat}(h:PE X e (Q6 i)):VE X e (Za i):=PE.imp h λf H Q ⟨g,s,l,j,env,e,k⟩=>by obtain⟨v,d,a,b,c⟩:=env.is i l (RF e);exact⟨v,a,k v H d (Same.refl H) b c⟩
theorem JT{e:ao}{v:V}{l:PV}(h:PE X e (tC v))(b:∀H,Is X.K H l v []):VE X e (eC l):=PE.imp h λc H Q ⟨d,s,l',f,env,e,k⟩=>by
 cases e;exact k v H [] (Same.refl H) (b H) λp a=>by simp at a
theorem Zg{i j}:VE X (.Constant (.int i) j pos) (eC (.int i)):=JT HP λ_=>Is.int i
theorem NP{i j}:VE X (.Constant (.bool i) j pos) (eC (.bl i)):=JT FK λ_=>Is.bl i
theorem GK{j}:VE X (.Constant .none j pos) (eC .non):=JT HQ λ_=>Is.non
end
noncomputable def RB(K:aD)(r:R2)(g:PV->PV->Option PV):Prop:=∀(H:Hp)(x y:V)(a b l:PV)(fa fb:List aG),Is K H a x fa->Is K H b y fb->g a b=aA l->∀Q:VK,
 (∀v H' fp,Same H H'->Is K H' l v fp->(∀p∈fp,p∈fa\/p∈fb\/H p=none)->Q v H')->r x y H Q
noncomputable def Zj(g:PV->PV->Option PV)(a b:XE):XE:=λs=>(a s).bind λx=>(b s).bind λy=>g x y
theorem TV{g:PV->PV->Option PV}{a b:XE}{s:Zy}{l:PV}(h:Zj g a b s=aA l):∃x y,a s=aA x/\b s=aA y/\g x y=aA l:=by
 unfold Zj at h
 cases q:a s with
 | none=>rw[q] at h;cases h
 | some x=>cases q2:b s with
  | none=>rw[q,q2] at h;cases h
  | some y=>rw[q,q2] at h;exact⟨x,y,rfl,rfl,h⟩
section
variable {X:Cx} {a b:ao} {fa fb:XE} {pos:dj}
theorem NQ{r:R2}{g:PV->PV->Option PV}(q:RB K r g):∀b H Q,tF K (Zj g fa fb) b H Q->FA r (tF K fa) (tF K fb) b H Q:=λb H Q ⟨i,s,l,a,env,e,k⟩=>by
 obtain⟨f,d,C,B,e⟩:=TV e;refine⟨i,s,f,a,env,C,λx F f1 s1 t w=>⟨i,s,d,λp c=>Same.mut s1 (a p c),env.mono s1,B,λy A f2 s2 o D=>?_⟩⟩;refine q A x y f d l f1 f2 (t.mono s2) o e Q λv j n m u E=>k v j n (s1.trans (s2.trans m)) u λp c z=>?_;rcases E p c with h | h | h
 ·exact w p h z
 ·exact D p h z
 ·exact YN (Same.mut (s1.trans s2) (a p z)) h
theorem Wk{op:Operator}{r:R2}{g:PV->PV->Option PV}(d:Uh X (cX op) r)(e:RB X.K r g)(c:VE X a fa)(f:VE X b fb):VE X (.BinOp a op b pos) (Zj g fa fb):=
 PE.imp (LA d c f) (NQ e)
theorem LO{op:j5}{r:R2}{g:PV->PV->Option PV}(d:Uh X (eI op) r)(e:RB X.K r g)(c:VE X a fa)(f:VE X b fb)(h:cq op b=aB):VE X (.Compare a [op] [b] pos) (Zj g fa fb):=
 PE.imp (Jt d c f h) (NQ e)
theorem Ei{r:R2}{g:PV->PV->Option PV}(d:IxR X r)(e:RB X.K r g)(c:VE X a fa)(h:VE X b fb)(f:Qb b):VE X (.Subscript a b pos) (Zj g fa fb):=
 PE.imp (LH d c h f) (NQ e)
end
noncomputable def gI(g:Int->Int->Int):PV->PV->Option PV
 | .int i,.int j=>aA (.int (g i j))
 | _,_=>none
noncomputable def gB(g:Int->Int->Bool):PV->PV->Option PV
 | .int i,.int j=>aA (.bl (g i j))
 | _,_=>none
noncomputable def MI(C:Int->Int->Prop)[∀i j,Decidable (C i j)](g:Int->Int->Int):PV->PV->Option PV
 | .int i,.int j=>if C i j then aA (.int (g i j)) else none
 | _,_=>none
theorem JU{g:Int->Int->Int}{a b l:PV}(h:gI g a b=aA l):∃i j,a = .int i/\b = .int j/\l = .int (g i j):=by
 unfold gI at h;split at h
 ·cases h;exact⟨_,_,rfl,rfl,rfl⟩
 ·cases h
theorem JV{g:Int->Int->Bool}{a b l:PV}(h:gB g a b=aA l):∃i j,a = .int i/\b = .int j/\l = .bl (g i j):=by
 unfold gB at h;split at h
 ·cases h;exact⟨_,_,rfl,rfl,rfl⟩
 ·cases h
theorem LP{C:Int->Int->Prop}[∀i j,Decidable (C i j)]{g:Int->Int->Int}{a b l:PV}(h:MI C g a b=aA l):∃i j,a = .int i/\b = .int j/\C i j/\l = .int (g i j):=by
 unfold MI at h;split at h
 ·split at h
  ·cases h;exact⟨_,_,rfl,rfl,by assumption,rfl⟩
  ·cases h
 ·cases h
theorem Ej(g:Int->Int->Int):RB K (Hj λi j=>.int (g i j)) (gI g):=λH x y a b l h fb c f e Q k=>by obtain⟨i,j,rfl,rfl,rfl⟩:=JU e;exact⟨i,j,c.int_inv.1,f.int_inv.1,k _ H [] (Same.refl H) (Is.int _) λp d=>by simp at d⟩
theorem Ek(g:Int->Int->Bool):RB K (Hj λi j=>.bl (g i j)) (gB g):=λH x y a b l h fb c f e Q k=>by obtain⟨i,j,rfl,rfl,rfl⟩:=JV e;exact⟨i,j,c.int_inv.1,f.int_inv.1,k _ H [] (Same.refl H) (Is.bl _) λp d=>by simp at d⟩
theorem U4(C:Int->Int->Prop)[∀i j,Decidable (C i j)](g:Int->Int->Int):RB K (rI C λi j=>.int (g i j)) (MI C g):=λH x y a b l m fb d h e Q k=>by obtain⟨i,j,rfl,rfl,c,rfl⟩:=LP e;exact⟨i,j,d.int_inv.1,h.int_inv.1,c,k _ H [] (Same.refl H) (Is.int _) λp f=>by simp at f⟩
instance (i j:Int):Decidable (CMul i j):=by unfold CMul;infer_instance
instance (i j:Int):Decidable (Ou i j):=by unfold Ou;infer_instance
instance (i j:Int):Decidable (Hk i j):=by unfold Hk;infer_instance
instance (i j:Int):Decidable (Ov i j):=by unfold Ov;infer_instance
abbrev Yc:=gI (· + ·)
abbrev Tg:=gI (· - ·)
abbrev Qh:=MI CMul (· * ·)
abbrev OG:=MI Ou (· / ·)
abbrev YU:=MI (λ_ j=>0<j) (· % ·)
abbrev OH:=MI Ov (λi j=>i^j.toNat)
abbrev JW:=gB (λi j=>decide (i<j))
abbrev Ll:=gB (λi j=>decide (j<i))
section
variable {X:Cx} {a b:ao} {fa fb:XE} {pos:dj}
theorem Ya(d:VE X a fa)(c:VE X b fb):VE X (.BinOp a .Add b pos) (Zj Yc fa fb):=Wk Gm (Ej _) d c
theorem Vm(d:VE X a fa)(c:VE X b fb):VE X (.BinOp a .Sub b pos) (Zj Tg fa fb):=Wk Gn (Ej _) d c
theorem Wv(d:VE X a fa)(c:VE X b fb):VE X (.BinOp a .Mult b pos) (Zj Qh fa fb):=Wk Gp (U4 _ _) d c
theorem Qi(d:VE X a fa)(c:VE X b fb):VE X (.BinOp a .FloorDiv b pos) (Zj OG fa fb):=Wk Jr (U4 _ _) d c
theorem Yu(d:VE X a fa)(c:VE X b fb):VE X (.BinOp a .Mod b pos) (Zj YU fa fb):=Wk Gq (U4 _ _) d c
theorem OI(d:VE X a fa)(c:VE X b fb):VE X (.BinOp a .Pow b pos) (Zj OH fa fb):=Wk Gr (U4 _ _) d c
end
noncomputable def ZX:PV->PV->Option PV
 | .lst l,.int i=>Tq l i
 | .cst l,.int i=>Tq l i
 | .tup l,.int i=>Tq l i
 | .str z,.int i=>if z.length<=sizeLine then(Tq z.cps.toList i).map λc=>.str ⟨#[c]⟩ else none
 | _,_=>none
theorem OJ{l:List PV}{b:List V}{H:Hp}{c:List aG}{i:Int}{a:PV}(h:Iss K H l b c)(e:Tq l i=aA a):∃x f1,Tq b i=aA x/\Is K H a x f1/\∀p∈f1,p∈c:=by
 unfold Tq at e ⊢;rw[h.len]
 cases q:Om l.length i with
 | none=>rw[q] at e;cases e
 | some j=>rw[q] at e;exact h.get e
theorem El:RB K (DR K) ZX:=λH x y a b l r fb n o e Q k=>by
 unfold ZX at e;split at e
 ·obtain⟨p,f,s,rfl,d,h,rfl⟩:=n.lst_inv;obtain⟨z,f1,i,g,m⟩:=OJ h e;exact .inl ⟨p,f,_,z,rfl,o.int_inv.1,SqL.of d,i,k z H f1 (Same.refl H) g λq j=>.inl (aU _ (m q j))⟩
 ·obtain⟨p,f,rfl,d,h⟩:=n.cst_inv;obtain⟨z,f1,i,g,m⟩:=OJ h e;exact .inl ⟨p,f,_,z,rfl,o.int_inv.1,d.sq,i,k z H f1 (Same.refl H) g λq j=>.inl (m q j)⟩
 ·obtain⟨p,f,rfl,d,h⟩:=n.tup_inv;obtain⟨z,f1,i,g,m⟩:=OJ h e;exact .inr (.inl ⟨p,f,_,z,rfl,o.int_inv.1,SqT.of d,i,k z H f1 (Same.refl H) g λq j=>.inl (m q j)⟩)
 ·split at e
  ·cases q:Tq _ _ with
   | none=>rw[q] at e;cases e
   | some c=>
    rw[q] at e;cases e;exact .inr (.inr ⟨_,_,c,n.str_inv.1,o.int_inv.1,by assumption,q,k _ H [] (Same.refl H) (Is.str _) λp d=>by simp at d⟩)
  ·cases e
 ·cases e
section
variable {X:Cx} {a b:ao} {fa fb:XE} {pos:dj}
theorem Zk(e:VE X a fa)(c:VE X b fb)(d:Qb b:=by exact λ_ _=>rfl):VE X (.Subscript a b pos) (Zj ZX fa fb):=Ei Gz El e c d
end
abbrev XT:=Zy->Option Bool
noncomputable def Pk(K:aD)(f:XT):TT:=λσ H Q=>∃(Rm:aG->Prop) (s:Zy) (c:Bool),(∀p,Rm p->W7 (H p))/\EnvIs K Rm H s σ/\f s=aA c/\∀H',Same H H'->Q c H'
noncomputable def VT(X:Cx)(e:ao)(f:XT):Prop:=PT X e (Pk X.K f)
noncomputable def VW(X:Cx)(e:ao)(f:XT):Prop:=PW X e (Pk X.K f)
section
variable {X:Cx} {e:ao} {f:XT}
theorem PT.imp{t t':TT}(h:PT X e t)(i:∀a H Q,t' a H Q->t a H Q):PT X e t':=λb s a H Q I q=>h b s a H Q I (i a H Q q)
theorem PW.imp{t t':TT}(h:PW X e t)(i:∀b H Q,t' b H Q->t b H Q):PW X e t':=λa c s b H Q I q=>h a c s b H Q I (i b H Q q)
theorem VW.vt(h:VW X e f):VT X e f:=PW.pt h
end
noncomputable def xB(f:XE):XT:=λs=>match f s with | some (.bl c)=>aA c | _=>none
theorem VG{f:XE}{s:Zy}{c:Bool}(h:xB f s=aA c):f s=aA (.bl c):=by
 unfold xB at h;split at h
 ·cases h;assumption
 ·cases h
section
variable {X:Cx} {a b c:ao} {Z6:List ao} {fa fb:XE} {ga gb:XT} {pos:dj}
theorem Uq(h:VE X a fa)(b:∀whole,j3 a X.env whole=(do let v <-whole;standAt a.pos;holding [v] (truthy v)):=by intro _;rfl):VT X a (xB fa):=
 PT.imp (HU h b) λm H Q ⟨g,s,c,f,env,e,k⟩=>⟨g,s,.bl c,f,env,VG e,λv j l d i n=>⟨c,i.bl_inv.1,k j d⟩⟩
theorem LQ:∀a H Q,Pk K (xB fa) a H Q->NJ (tF K fa) a H Q:=λa H Q ⟨d,s,c,f,env,e,k⟩=>⟨d,s,.bl c,f,env,VG e,λv g h b i n=>⟨c,i.bl_inv.1,k g b⟩⟩
theorem OK{t t':TE}(i:∀a H Q,t' a H Q->t a H Q):∀a H Q,NJ t' a H Q->NJ t a H Q:=λa H Q h=>i a H _ h
theorem Qj{op:j5}{r:R2}{g:PV->PV->Option PV}(e:Uh X (eI op) r)(f:RB X.K r g)(d:VE X a fa)(i:VE X b fb)(j:cq op b=aB):VT X (.Compare a [op] [b] pos) (xB (Zj g fa fb)):=
 PT.imp (Ju e d i j) λc H Q h=>OK (NQ f) c H Q (LQ c H Q h)
theorem NR(d:VE X a fa)(c:VE X b fb):VT X (.Compare a [.Lt] [b] pos) (xB (Zj JW fa fb)):=Qj F2 (Ek _) d c (Uj _)
theorem LR(d:VE X a fa)(c:VE X b fb):VT X (.Compare a [.Gt] [b] pos) (xB (Zj Ll fa fb)):=Qj F3 (Ek _) d c (Uj _)
noncomputable def OL(a b:XT):XT:=λs=>(a s).bind λc=>if c=aC then b s else aA aB
noncomputable def Lm(a b:XT):XT:=λs=>(a s).bind λc=>if c=aC then aA aC else b s
noncomputable def Pm(a:XT):XT:=λs=>(a s).map not
theorem JX:∀a H Q,Pk K (OL ga gb) a H Q->FL (Pk K ga) (Pk K gb) a H Q:=λa H Q ⟨b,s,c,f,env,e,k⟩=>by
 unfold OL at e
 cases q:ga s with
 | none=>rw[q] at e;cases e
 | some d=>
  rw[q] at e;refine⟨b,s,d,f,env,q,λg s1=>?_⟩
  cases d with
  | true=>
   exact⟨b,s,c,λp h=>Same.mut s1 (f p h),env.mono s1,e,λi s2=>k i (s1.trans s2)⟩
  | false=>
   cases e;exact k g s1
theorem GL:∀a H Q,Pk K (Lm ga gb) a H Q->DO (Pk K ga) (Pk K gb) a H Q:=λa H Q ⟨b,s,c,f,env,e,k⟩=>by
 unfold Lm at e
 cases q:ga s with
 | none=>rw[q] at e;cases e
 | some d=>
  rw[q] at e;refine⟨b,s,d,f,env,q,λg s1=>?_⟩
  cases d with
  | true=>
   cases e;exact k g s1
  | false=>
   exact⟨b,s,c,λp h=>Same.mut s1 (f p h),env.mono s1,e,λi s2=>k i (s1.trans s2)⟩
theorem JY(b:VT X a ga):VW X (.BoolOp .And [a] pos) ga:=Jo b
theorem Qk(b:VT X a ga):VW X (.BoolOp .Or [a] pos) ga:=HW b
theorem GN(d:VT X a ga)(c:VW X (.BoolOp .And (b::Z6) pos) gb):VW X (.BoolOp .And (a::b::Z6) pos) (OL ga gb):=PW.imp (HX d c) JX
theorem RG(d:VT X a ga)(c:VW X (.BoolOp .Or (b::Z6) pos) gb):VW X (.BoolOp .Or (a::b::Z6) pos) (Lm ga gb):=PW.imp (FN d c) GL
theorem Ql(b:VT X a ga):VT X (.UnaryOp .Not a pos) (Pm ga):=PT.imp (HY b) λh H Q ⟨f,s,c,g,env,e,k⟩=>by
 unfold Pm at e
 cases q:ga s with
 | none=>rw[q] at e;cases e
 | some d=>rw[q] at e;cases e;exact⟨f,s,d,g,env,q,k⟩
end
section
variable {X:Cx} {a b c:ao} {Z6:List ao} {fa fb:XE} {gc:XT} {pos:dj}
noncomputable def TX(a b:XE):XE:=λs=>(xB a s).bind λc=>if c=aC then b s else aA (.bl aB)
noncomputable def Cc(a b:XE):XE:=λs=>(xB a s).bind λc=>if c=aC then aA (.bl aC) else b s
noncomputable def JZ(a:XE):XE:=λs=>(xB a s).map λc=>.bl !c
noncomputable def GO(c:XT)(a b:XE):XE:=λs=>(c s).bind λk=>if k=aC then a s else b s
theorem OM{op}(h:VE X a fa):VE X (.BoolOp op [a] pos) fa:=HZ h
theorem TY(r:VE X a fa)(i:VE X (.BoolOp .And (b::Z6) pos) fb):VE X (.BoolOp .And (a::b::Z6) pos) (TX fa fb):=PE.imp (H9 r i) λx H Q ⟨h,s,l,g,env,e,k⟩=>by
 unfold TX at e
 cases q:xB fa s with
 | none=>rw[q] at e;cases e
 | some d=>
  rw[q] at e;refine⟨h,s,.bl d,g,env,VG q,λv j w s1 n _=>⟨d,n.bl_inv.1,?_⟩⟩
  cases d with
  | true=>
   exact⟨h,s,l,λp f=>Same.mut s1 (g p f),env.mono s1,e,λu o c s2 m t=>k u o c (s1.trans s2) m t⟩
  | false=>
   cases e;exact k _ j [] s1 (Is.bl aB) λp f=>by simp at f
theorem GP(h:VE X a fa):VE X (.UnaryOp .Not a pos) (JZ fa):=PE.imp (Ga h) λm H Q ⟨g,s,l,c,env,e,k⟩=>by
 unfold JZ at e
 cases q:xB fa s with
 | none=>rw[q] at e;cases e
 | some d=>
  rw[q] at e;cases e;exact⟨g,s,.bl d,c,env,VG q,λv b j s1 f _=>⟨d,f.bl_inv.1,k _ b [] s1 (Is.bl _) λp i=>by simp at i⟩⟩
theorem Hm(t:VT X c gc)(u:VE X a fa)(r:VE X b fb):VE X (.IfExp c a b pos) (GO gc fa fb):=PE.imp (Lv t u r) λw H Q ⟨i,s,l,g,env,e,k⟩=>by
 unfold GO at e
 cases q:gc s with
 | none=>rw[q] at e;cases e
 | some d=>
  rw[q] at e;refine⟨i,s,d,g,env,q,λv s1=>?_⟩
  cases d with
  | true=>
   exact⟨i,s,l,λp n=>Same.mut s1 (g p n),env.mono s1,e,λo j f s2 h m=>k o j f (s1.trans s2) h m⟩
  | false=>
   exact⟨i,s,l,λp n=>Same.mut s1 (g p n),env.mono s1,e,λo j f s2 h m=>k o j f (s1.trans s2) h m⟩
end
section
variable {X:Cx} {a b c:ao} {fa fb fc:XE} {pos:dj}
noncomputable def Em(neg:Bool):PV->Option PV
 | .non=>aA (.bl !neg)
 | _=>aA (.bl neg)
noncomputable def LS:PV->Bool
 | .non=>aC
 | _=>aB
theorem ON{H:Hp}{l:PV}{v:V}{g:List aG}(i:Is K H l v g):decide (v=V.non)=LS l:=by
 cases l with
 | non=>rw[i.non_inv.1];rfl
 | bl b=>rw[i.bl_inv.1];rfl
 | int j=>rw[i.int_inv.1];rfl
 | str y=>rw[i.str_inv.1];rfl
 | ty n=>rw[i.ty_inv.1];rfl
 | exc C=>obtain⟨⟨e,o,x,C,rfl,_⟩,_⟩:=i;rfl
 | exf C l=>obtain⟨⟨e,o,x,C,m,q,u,z,rfl,_⟩,_⟩:=i;rfl
 | clo C l=>obtain⟨u,x,⟨f,fo,c,k,e,h,r,ct,rfl,_⟩,_⟩:=i;rfl
 | lst l=>obtain⟨p,a,d,rfl,_⟩:=i.lst_inv;rfl
 | cst l=>obtain⟨p,a,rfl,_⟩:=i.cst_inv;rfl
 | tup l=>obtain⟨p,a,rfl,_⟩:=i.tup_inv;rfl
 | dK ks l=>obtain⟨p,a,d,rfl,_⟩:=i.dK_inv;rfl
 | dT ks l=>obtain⟨p,a,d,rfl,_⟩:=i.dT_inv;rfl
noncomputable def LU(neg:Bool)(a:XE):XE:=λs=>(a s).bind (Em neg)
theorem LV:∀a H Q,tF K (LU aC fa) a H Q->Hf (tF K fa) a H Q:=λa H Q ⟨f,s,l,g,env,e,k⟩=>by
 unfold LU at e
 cases q:fa s with
 | none=>rw[q] at e;cases e
 | some m=>
  rw[q] at e;refine⟨f,s,m,g,env,q,λv b h s1 c _=>?_⟩;show Q _ b;rw[ON c];have:l = .bl (!LS m):=by cases m<;>cases e<;>rfl
  subst this;exact k _ b [] s1 (Is.bl _) λp d=>by simp at d
theorem En:∀a H Q,Pk K (xB fa) a H Q->tB (tF K fa) a H Q:=λa H Q ⟨d,s,c,f,env,e,k⟩=>⟨d,s,.bl c,f,env,VG e,λv g h b i n=>⟨c,i.bl_inv.1,k g b⟩⟩
theorem J0{t t':TE}(i:∀a H Q,t' a H Q->t a H Q):∀a H Q,tB t' a H Q->tB t a H Q:=λa H Q h=>i a H _ h
theorem J1{j pos'}(c:VE X a fa):VT X (.Compare a [.IsNot] [.Constant .none j pos'] pos) (xB (LU aC fa)):=PT.imp (HR (Jn c)) λb H Q h=>J0 LV b H Q (En b H Q h)
noncomputable def J2:PV->Option PV
 | .int i=>aA (.int (-i))
 | _=>none
noncomputable def GQ(g:PV->Option PV)(a:XE):XE:=λs=>(a s).bind g
theorem LW(g:VE X a fa):VE X (.UnaryOp .USub a pos) (GQ J2 fa):=PE.imp (FZ Gs g) λj H Q ⟨f,s,l,c,env,e,k⟩=>by
 unfold GQ at e
 cases q:fa s with
 | none=>rw[q] at e;cases e
 | some m=>
  rw[q] at e;simp only[a0] at e;unfold J2 at e;split at e
  ·cases e;exact⟨f,s,_,c,env,q,λv b i s1 d _=>⟨_,d.int_inv.1,k _ b [] s1 (Is.int _) λp h=>by simp at h⟩⟩
  ·cases e
end
end VL
namespace VL
open PySem PySem.Spec PyProof.Rows L2
variable {K:aD}
noncomputable def TZ:List XE->Zy->Option (List PV)
 | [],_=>aA []
 | f::fs,s=>(f s).bind λx=>(TZ fs s).map (x::·)
theorem Pn{f:XE}{fs:List XE}{s:Zy}{ls:List PV}(h:TZ (f::fs) s=aA ls):∃x r,f s=aA x/\TZ fs s=aA r/\ls=x::r:=by
 unfold TZ at h
 cases q:f s with
 | none=>rw[q] at h;cases h
 | some x=>cases q2:TZ fs s with
  | none=>rw[q,q2] at h;cases h
  | some r=>rw[q,q2] at h;cases h;exact⟨x,r,rfl,rfl,rfl⟩
theorem WS:∀{fs:List XE}{s:Zy}{ls:List PV},TZ fs s=aA ls->ls.length=fs.length
 | [],_,_,h=>by cases h;rfl
 | f::fs,s,ls,h=>by obtain⟨x,r,_,a,rfl⟩:=Pn h;rw[bW,bW,WS a]
noncomputable def EU(K:aD)(fs:List XE):TA:=λσ H Q=>∃(Rm:aG->Prop) (s:Zy) (ls:List PV),(∀p,Rm p->W7 (H p))/\EnvIs K Rm H s σ/\TZ fs s=aA ls/\∀vs H' fp,Same H H'->Iss K H' ls vs fp->(∀p∈fp,¬Rm p)->Q vs H'
noncomputable def Cd(K:aD)(fs:List XE):TA:=λσ H Q=>∃(s:Zy) (ls:List PV),EnvIs K (λ_=>False) H s σ/\TZ fs s=aA ls/\∀vs H' fp,Same H H'->Iss K H' ls vs fp->fp.Nodup->(∀p∈fp,H p=none/\W7 (H' p))->Q vs H'
noncomputable def VA(X:Cx)(es:List ao)(fs:List XE):Prop:=PA X es (EU X.K fs)
noncomputable def DW(X:Cx)(es:List ao)(fs:List XE):Prop:=PA X es (Cd X.K fs)
section
variable {X:Cx} {e:ao} {es:List ao} {f:XE} {fs:List XE} {pos:dj} {k:Nat}
theorem PA.imp{t t':TA}(h:PA X es t)(i:∀a H Q,t' a H Q->t a H Q):PA X es t':=λb c s a H Q I q=>h b c s a H Q I (i a H Q q)
theorem GR:VA X [] []:=PA.imp Oy λb H Q ⟨c,s,ls,d,env,e,k⟩=>by
 cases e;exact k [] H [] (Same.refl H) Iss.nil λp a=>by simp at a
theorem VH(q:VE X e f)(j:VA X es fs)(d:aS (e::es) X.env=(aB,eval e X.env)::aS es X.env:=by rfl):VA X (e::es) (f::fs):=PA.imp (VC q j d) λy H Q ⟨c,s,ls,b,env,e,k⟩=>by
 obtain⟨i,u,r,m,rfl⟩:=Pn e;refine⟨c,s,i,b,env,r,λx v f1 s1 l n=>⟨c,s,u,λp a=>Same.mut s1 (b p a),env.mono s1,m,λw o f2 s2 g t=>?_⟩⟩;refine k _ o (f1++f2) (s1.trans s2) (Iss.cons (l.mono s2) g) λp a=>?_;rcases bj.mp a with h | h
 ·exact n p h
 ·exact t p h
theorem J3:DW X [] []:=PA.imp Oy λb H Q ⟨s,ls,env,e,k⟩=>by
 cases e;exact k [] H [] (Same.refl H) Iss.nil cY λp a=>by simp at a
noncomputable def MJ(fs:List XE):XE:=λs=>(TZ fs s).map .tup
noncomputable def Qm(fs:List XE):XE:=λs=>(TZ fs s).map .lst
theorem map_some{c d:Type}{o:Option c}{g:c->d}{b:d}(h:o.map g=aA b):∃a,o=aA a/\b=g a:=by
 cases o with
 | none=>cases h
 | some a=>cases h;exact⟨a,rfl,rfl⟩
theorem OO(h:VA X es fs)(m:fs.length<=1000:=by decide):VE X (.Tuple es k pos) (MJ fs):=PE.imp (Gu h) λn H Q ⟨g,s,l,d,env,e,q⟩=>by
 obtain⟨ls,b,rfl⟩:=map_some e;refine⟨g,s,ls,d,env,b,λvs j f s1 a i=>⟨?_,λp c=>?_⟩⟩
 ·rw[a.len,WS b];exact cI (lt_size (by omega))
 ·exact q _ _ f (s1.trans (Same.new c _)) (Is.tup Zn (a.mono (Same.new c _))) i
theorem LX(h:VA X es fs)(n:fs.length<=1000:=by decide):VE X (.List es pos) (Qm fs):=PE.imp (LC h) λo H Q ⟨j,s,l,d,env,e,q⟩=>by
 obtain⟨ls,g,rfl⟩:=map_some e;refine⟨j,s,ls,d,env,g,λvs m i s1 f k=>⟨?_,λp c=>?_⟩⟩
 ·rw[f.len,WS g];exact cI (lt_size (by omega))
 ·refine q _ _ (p::i) (s1.trans (Same.new c _)) (Is.lst Zn (f.mono (Same.new c _))) λa b z=>?_;rcases af.mp b with rfl | b
  ·exact YN (Same.mut s1 (d a z)) c
  ·exact k a b z
theorem GS(h:DW X es fs)(m:fs.length<=1000:=by decide):VM X (.List es pos) (Qm fs):=PE.imp (LC h) λn H Q ⟨s,l,env,e,q⟩=>by
 obtain⟨ls,g,rfl⟩:=map_some e;refine⟨s,ls,env,g,λvs k i s1 f j d=>⟨?_,λp b=>?_⟩⟩
 ·rw[f.len,WS g];exact cI (lt_size (by omega))
 ·refine q _ _ (p::i) (s1.trans (Same.new b _)) (Is.lst Zn (f.mono (Same.new b _))) (bM.mpr ⟨λz=>YN (d p z).2 b,j⟩) λa c=>?_;rcases af.mp c with rfl | c
  ·exact⟨Same.off s1 b,by rw[Zn];exact cT⟩
  ·exact⟨(d a c).1,Same.mut (Same.new b _) (d a c).2⟩
end
noncomputable def Xj(K:aD)(D:List PV->Option PV)(n:Nat):Sp:=λvs H Q _=>vs.length=n/\∃ls fp l,Iss K H ls vs fp/\D ls=aA l/\∀v H' fq,Same H H'->Is K H' l v fq->fq.Nodup->(∀p∈fq,H p=none/\W7 (H' p))->Q v H'
noncomputable def Zc(D:List PV->Option PV)(fs:List XE):XE:=λs=>(TZ fs s).bind D
theorem Zd{c d:Type}{o:Option c}{g:c->Option d}{b:d}(h:o.bind g=aA b):∃a,o=aA a/\g a=aA b:=by
 cases o with
 | none=>cases h
 | some a=>exact⟨a,rfl,h⟩
section
variable {X:Cx} {x:ah} {ps:List ah} {k:Nat} {e:ao} {es:List ao} {fs:List XE} {p pos:dj}
theorem NS{D:List PV->Option PV}{n:Nat}(C:Xx X.prog X.w X.K X.mg X.base x ps (Xj X.K D n) k)(t:Room k X.A)(B:Gl X x)(b:VA X (e::es) fs)(u:fs.length=n:=by rfl)
  (d:(x==("__debug__" : ah))=aB:=by decide) (m:aS (e::es) X.env=(aB,eval e X.env)::aS es X.env:=by rfl) (c:(dZ pos (aS es X.env)).any (·.1)=aB:=by rfl) :
  VM X (.Call (.Name x p) (e::es) [] pos) (Zc D fs):=PE.imp (OF C t B b d m c) λF H Q ⟨s,l,env,e,q⟩=>by
 obtain⟨ls,g,i⟩:=Zd e;refine⟨λ_=>False,s,ls,λ_ z=>z.elim,env,g,λvs j o s1 f E=>?_⟩;show Xj X.K D n (vs++[]) j Q E0;rw[cg];exact⟨by rw[f.len,WS g,u],ls,o,l,f,i,λv y w s2 r A h=>q v y w (s1.trans s2) r A λa b=>⟨Same.off s1 (h a b).1,(h a b).2⟩⟩
end
noncomputable def RC(K:aD)(r:List V->Hp->VK->Prop)(g:List PV->Option PV):Prop:=∀(H:Hp)(vs:List V)(ls:List PV)(l:PV)(fp:List aG),Iss K H ls vs fp->g ls=aA l->∀Q:VK,
 (∀v H' fq,Same H H'->Is K H' l v fq->(∀p∈fq,p∈fp\/H p=none)->Q v H')->r vs H Q
noncomputable def DB(K:aD)(r:List V->Hp->VK->Prop)(g:List PV->Option PV):Prop:=∀(H:Hp)(vs:List V)(ls:List PV)(l:PV)(fp:List aG),Iss K H ls vs fp->g ls=aA l->∀Q:VK,
 (∀v H' fq,Same H H'->Is K H' l v fq->fq.Nodup->(∀p∈fq,H p=none/\W7 (H' p))->Q v H')->r vs H Q
theorem Hn{r:List V->Hp->VK->Prop}{g:List PV->Option PV}{fs:List XE}(j:RC K r g):∀a H Q,tF K (Zc g fs) a H Q->EN r (EU K fs) a H Q:=λa H Q ⟨n,s,l,b,env,e,k⟩=>by
 obtain⟨ls,u,c⟩:=Zd e;refine⟨n,s,ls,b,env,u,λvs d f s1 m q=>j d vs ls l f m c Q λv t o s2 i w=>k v t o (s1.trans s2) i λp x z=>?_⟩;rcases w p x with h | h
 ·exact q p h z
 ·exact YN (Same.mut s1 (b p z)) h
theorem Eo{r:List V->Hp->VK->Prop}{g:List PV->Option PV}{fs:List XE}(j:DB K r g):∀a H Q,tM K (Zc g fs) a H Q->EN r (EU K fs) a H Q:=λa H Q ⟨s,l,env,e,k⟩=>by obtain⟨ls,q,d⟩:=Zd e;exact⟨λ_=>False,s,ls,λ_ z=>z.elim,env,q,λvs f h s1 m u=>j f vs ls l h m d Q λv o n s2 i t b=>k v o n (s1.trans s2) i t λp c=>⟨Same.off s1 (b p c).1,(b p c).2⟩⟩
section
variable {X:Cx} {x:ah} {k:Nat} {e:ao} {es:List ao} {fs:List XE} {p pos:dj} {id T:String} {r:List V->Hp->VK->Prop} {g:List PV->Option PV}
theorem Po(d:Y3 X (.builtin id) r)(f:RC X.K r g)(j:Gl X x)(k:X.mg x=none)(l:cW x=aA (.builtin id))(c:VA X (e::es) fs)(i:x≠"__name__":=by decide)(a:(x==("__debug__" : ah))=aB:=by decide)
  (h:aS (e::es) X.env=(aB,eval e X.env)::aS es X.env:=by rfl) (b:(dZ pos (aS es X.env)).any (·.1)=aB:=by rfl):VE X (.Call (.Name x p) (e::es) [] pos) (Zc g fs):=
 PE.imp (LF d j k l c i a h b) (Hn f)
theorem ZK(d:Y3 X (.type T) r)(f:RC X.K r g)(j:Gl X x)(k:X.mg x=none)(l:cW x=aA (.type T))(c:VA X (e::es) fs)(i:x≠"__name__":=by decide)(a:(x==("__debug__" : ah))=aB:=by decide)
  (h:aS (e::es) X.env=(aB,eval e X.env)::aS es X.env:=by rfl) (b:(dZ pos (aS es X.env)).any (·.1)=aB:=by rfl):VE X (.Call (.Name x p) (e::es) [] pos) (Zc g fs):=
 PE.imp (Rx d j k l c i a h b) (Hn f)
theorem RH(d:Y3 X (.type T) r)(f:DB X.K r g)(j:Gl X x)(k:X.mg x=none)(l:cW x=aA (.type T))(c:VA X (e::es) fs)(i:x≠"__name__":=by decide)(a:(x==("__debug__" : ah))=aB:=by decide)
  (h:aS (e::es) X.env=(aB,eval e X.env)::aS es X.env:=by rfl) (b:(dZ pos (aS es X.env)).any (·.1)=aB:=by rfl):VM X (.Call (.Name x p) (e::es) [] pos) (Zc g fs):=
 PE.imp (Rx d j k l c i a h b) (Eo f)
end
theorem Iss.one_inv{H:Hp}{l:PV}{vs:List V}{c:List aG}(h:Iss K H [l] vs c):∃v,vs=[v]/\Is K H l v c:=by obtain⟨x,r,f1,f2,rfl,a,b,rfl⟩:=h.inv;rw[b.1,b.2,cg];exact⟨x,rfl,a⟩
theorem Iss.two_inv{H:Hp}{l m:PV}{vs:List V}{d:List aG}(h:Iss K H [l,m] vs d):∃v w f1 f2,vs=[v,w]/\Is K H l v f1/\Is K H m w f2/\d=f1++f2:=by obtain⟨x,r,f1,f2,rfl,a,b,rfl⟩:=h.inv;obtain⟨y,rfl,c⟩:=b.one_inv;exact⟨x,y,f1,f2,rfl,a,c,rfl⟩
noncomputable def Th:PV->Option (List PV)
 | .lst l=>aA l
 | .cst l=>aA l
 | .tup l=>aA l
 | _=>none
theorem WT{H:Hp}{l:PV}{v:V}{f:List aG}{m:List PV}(h:Is K H l v f)(e:Th l=aA m):∃p a g,v = .ref p/\(SqL K H p a\/SqT K H p a)/\Iss K H m a g/\∀q∈g,q∈f:=by
 cases l with
 | lst l=>
  cases e;obtain⟨p,a,g,rfl,b,c,rfl⟩:=h.lst_inv;exact⟨p,a,g,rfl,.inl (SqL.of b),c,λq d=>aU _ d⟩
 | cst l=>
  cases e;obtain⟨p,a,rfl,b,c⟩:=h.cst_inv;exact⟨p,a,f,rfl,.inl b.sq,c,λq d=>d⟩
 | tup l=>
  cases e;obtain⟨p,a,rfl,b,c⟩:=h.tup_inv;exact⟨p,a,f,rfl,.inr (SqT.of b),c,λq d=>d⟩
 | _=>cases e
noncomputable def YH:List PV->Option PV
 | [.str z]=>if z.length<=sizeLine then aA (.int z.length) else none
 | [l]=>(Th l).map λm=>.int m.length
 | _=>none
theorem GU:RC K (λb H Q=>∃x n,b=[x]/\F4 K x H n/\Q (.int n) H) YH:=λH vs ls l f h e Q k=>by
 unfold YH at e;split at e
 ·split at e
  ·cases e;obtain⟨v,rfl,i⟩:=h.one_inv;exact⟨v,_,rfl,by rw[i.str_inv.1];exact⟨by assumption,rfl⟩,k _ H [] (Same.refl H) (Is.int _) λp a=>by simp at a⟩
  ·cases e
 ·obtain⟨m,d,rfl⟩:=map_some e;obtain⟨v,rfl,i⟩:=h.one_inv;obtain⟨p,b,g,rfl,a,c,_⟩:=WT i d;refine⟨_,b.length,rfl,?_,?_⟩
  ·rcases a with a | a
   ·exact .inl ⟨b,a,rfl⟩
   ·exact .inr ⟨b,a,rfl⟩
  ·rw[c.len];exact k _ H [] (Same.refl H) (Is.int _) λp a=>by simp at a
 ·cases e
noncomputable def ZY:List PV->Option PV
 | [l]=>(Th l).map .tup
 | _=>none
theorem ZT:RC K (GJ K) ZY:=λH vs ls l n h e Q k=>by
 unfold ZY at e;split at e
 ·obtain⟨m,j,rfl⟩:=map_some e;obtain⟨v,rfl,i⟩:=h.one_inv;rename_i l0
  cases l0 with
  | tup l=>
   cases j;obtain⟨p,b,rfl,f,g⟩:=id i.tup_inv;exact⟨p,b,rfl,.inr ⟨SqT.of f,k _ H n (Same.refl H) i λa c=>.inl c⟩⟩
  | lst l=>
   cases j;obtain⟨p,b,o,rfl,f,g,rfl⟩:=i.lst_inv;exact⟨p,b,rfl,.inl ⟨SqL.of f,λq d=>k _ _ o (Same.new d _) (Is.tup Zn (g.mono (Same.new d _))) λa c=>.inl (aU _ c)⟩⟩
  | cst l=>
   cases j;obtain⟨p,b,rfl,f,g⟩:=i.cst_inv;exact⟨p,b,rfl,.inl ⟨f.sq,λq d=>k _ _ n (Same.new d _) (Is.tup Zn (g.mono (Same.new d _))) λa c=>.inl c⟩⟩
  | _=>cases j
 ·cases e
noncomputable def Ur:List PV->Option PV
 | [l]=>(Th l).bind λm=>if Zv m=aC then aA (.lst m) else none
 | _=>none
theorem Pp:DB K (JN K) Ur:=λH vs ls l r h e Q k=>by
 unfold Ur at e;split at e
 ·obtain⟨m,j,b⟩:=Zd e;split at b
  ·cases b;obtain⟨v,rfl,i⟩:=h.one_inv;obtain⟨p,f,s,rfl,n,d,o⟩:=WT i j;have:=Iss.pure _ _ _ (by assumption) d;subst this;refine⟨p,f,rfl,n,λq c=>k _ _ [q] (Same.new c _) (Is.lst Zn (d.mono (Same.new c _))) (by simp) λa g=>?_⟩;rw[aq.mp g];exact⟨c,by rw[Zn];exact cT⟩
  ·cases b
 ·cases e
noncomputable def Xy:List PV->Option (List Int)
 | []=>aA []
 | .int i::r=>(Xy r).map (i::·)
 | _=>none
theorem YS:∀l:List Int,Xy (iL l)=aA l
 | []=>rfl
 | i::r=>by show(Xy (iL r)).map (i::·)=_;rw[YS r];rfl
theorem Xs:∀{m:List PV}{l:List Int},Xy m=aA l->m=iL l
 | [],l,h=>by cases h;rfl
 | .int i::r,l,h=>by obtain⟨a,e,rfl⟩:=map_some (show(Xy r).map (i::·)=aA l from h);rw[Xs e];rfl
 | .non::_,_,h=>by cases h
 | .bl _::_,_,h=>by cases h
 | .str _::_,_,h=>by cases h
 | .ty _::_,_,h=>by cases h
 | .exc _::_,_,h=>by cases h
 | .exf _ _::_,_,h=>by cases h
 | .clo _ _::_,_,h=>by cases h
 | .tup _::_,_,h=>by cases h
 | .lst _::_,_,h=>by cases h
 | .cst _::_,_,h=>by cases h
 | .dK _ _::_,_,h=>by cases h
 | .dT _ _::_,_,h=>by cases h
abbrev bL(l:List Bool):List PV:=l.map PV.bl
noncomputable def X2:List PV->Option (List Bool)
 | []=>aA []
 | .bl i::r=>(X2 r).map (i::·)
 | _=>none
theorem Xz:∀l:List Bool,X2 (bL l)=aA l
 | []=>rfl
 | i::r=>by show(X2 (bL r)).map (i::·)=_;rw[Xz r];rfl
theorem X3:∀{m:List PV}{l:List Bool},X2 m=aA l->m=bL l
 | [],l,h=>by cases h;rfl
 | .bl i::r,l,h=>by obtain⟨a,e,rfl⟩:=map_some (show(X2 r).map (i::·)=aA l from h);rw[X3 e];rfl
 | .non::_,_,h=>by cases h
 | .int _::_,_,h=>by cases h
 | .str _::_,_,h=>by cases h
 | .ty _::_,_,h=>by cases h
 | .exc _::_,_,h=>by cases h
 | .exf _ _::_,_,h=>by cases h
 | .clo _ _::_,_,h=>by cases h
 | .tup _::_,_,h=>by cases h
 | .lst _::_,_,h=>by cases h
 | .cst _::_,_,h=>by cases h
 | .dK _ _::_,_,h=>by cases h
 | .dT _ _::_,_,h=>by cases h
theorem Iss.bL{H:Hp}:∀{l:List Bool}{xs:List V}{fp:List aG},Iss K H (VL.bL l) xs fp->xs=l.map V.bl/\fp=[]
 | [],xs,fp,h=>by simpa only[VL.bL,List.map_nil,Iss] using h
 | i::l,xs,fp,h=>by obtain⟨x,r,f1,f2,rfl,a,b,rfl⟩:=Iss.inv (show Iss K H (PV.bl i::VL.bL l) xs fp from h);obtain⟨rfl,rfl⟩:=a.bl_inv;obtain⟨rfl,rfl⟩:=b.bL;exact⟨rfl,rfl⟩
theorem Qn{H:Hp}{p:aG}{a:List V}(h:SqL K H p a\/SqT K H p a):∃b,Td b K H p a:=by
 rcases h with h | h
 ·exact⟨aC,h⟩
 ·exact⟨aB,h⟩
noncomputable def Ti:List PV->Option PV
 | [l]=>(Th l).bind λm=>(Xy m).map λns=>.int ns.sum
 | _=>none
noncomputable def S8:List PV->Option PV
 | [l]=>(Th l).bind λm=>(X2 m).map λbs=>.bl (bs.all id)
 | _=>none
noncomputable def LY:List PV->Option PV
 | [l]=>(Th l).bind λm=>(X2 m).map λbs=>.bl (bs.any id)
 | _=>none
theorem Us:RC K (λd H Q=>∃(b:Bool) (p:aG) (a:List Int),d=[.ref p]/\Td b K H p (a.map V.int)/\Q (.int a.sum) H) Ti:=λH vs ls l s h e Q k=>by
 unfold Ti at e;split at e
 ·obtain⟨m,n,f⟩:=Zd e;obtain⟨a,g,rfl⟩:=map_some f;obtain⟨v,rfl,i⟩:=h.one_inv;obtain⟨p,d,t,rfl,c,j,r⟩:=WT i n;have o:=Xs g;subst o;obtain⟨rfl,rfl⟩:=j.iL;obtain⟨b,q⟩:=Qn c;exact⟨b,p,a,rfl,q,k _ H [] (Same.refl H) (Is.int _) λp c=>by simp at c⟩
 ·cases e
theorem OP:RC K (λc H Q=>∃(b:Bool) (p:aG) (bs:List Bool),c=[.ref p]/\Td b K H p (bs.map V.bl)/\Q (.bl (bs.all id)) H) S8:=λH vs ls l s h e Q k=>by
 unfold S8 at e;split at e
 ·obtain⟨m,n,d⟩:=Zd e;obtain⟨g,f,rfl⟩:=map_some d;obtain⟨v,rfl,i⟩:=h.one_inv;obtain⟨p,c,t,rfl,a,j,r⟩:=WT i n;have o:=X3 f;subst o;obtain⟨rfl,rfl⟩:=j.bL;obtain⟨b,q⟩:=Qn a;exact⟨b,p,g,rfl,q,k _ H [] (Same.refl H) (Is.bl _) λp a=>by simp at a⟩
 ·cases e
theorem GV:RC K (λc H Q=>∃(b:Bool) (p:aG) (bs:List Bool),c=[.ref p]/\Td b K H p (bs.map V.bl)/\Q (.bl (bs.any id)) H) LY:=λH vs ls l s h e Q k=>by
 unfold LY at e;split at e
 ·obtain⟨m,n,d⟩:=Zd e;obtain⟨g,f,rfl⟩:=map_some d;obtain⟨v,rfl,i⟩:=h.one_inv;obtain⟨p,c,t,rfl,a,j,r⟩:=WT (K:=K) i n;have o:=X3 f;subst o;obtain⟨rfl,rfl⟩:=j.bL;obtain⟨b,q⟩:=Qn a;exact⟨b,p,g,rfl,q,k _ H [] (Same.refl H) (Is.bl _) λp a=>by simp at a⟩
 ·cases e
noncomputable def Pq:List PV->Option PV
 | [.int i,.int j]=>aA (.int (if j<i then j else i))
 | _=>none
noncomputable def Ep:List PV->Option PV
 | [.int i,.int j]=>aA (.int (if j>i then j else i))
 | _=>none
noncomputable def OQ:List PV->Option PV
 | [.int i]=>aA (.int (if i<0 then -i else i))
 | _=>none
noncomputable def Ho:List PV->Option PV
 | [.int i]=>aA (.int i)
 | [.bl c]=>aA (.int (if c then 1 else 0))
 | _=>none
theorem J4:RC K (λc H Q=>∃i j,c=[.int i,.int j]/\Q (.int (if j<i then j else i)) H) Pq:=λH vs ls l f h e Q k=>by
 unfold Pq at e;split at e
 ·cases e;obtain⟨v,w,f1,f2,rfl,a,b,rfl⟩:=h.two_inv;exact⟨_,_,by rw[a.int_inv.1,b.int_inv.1],k _ H [] (Same.refl H) (Is.int _) λp d=>by simp at d⟩
 ·cases e
theorem LZ:RC K (λb H Q=>∃i,b=[.int i]/\Q (.int (if i<0 then -i else i)) H) OQ:=λH vs ls l d h e Q k=>by
 unfold OQ at e;split at e
 ·cases e;obtain⟨v,rfl,a⟩:=h.one_inv;exact⟨_,by rw[a.int_inv.1],k _ H [] (Same.refl H) (Is.int _) λp c=>by simp at c⟩
 ·cases e
section
variable {X:Cx} {e:ao} {es:List ao} {fs:List XE} {p pos:dj}
noncomputable def DX:PV->Option String
 | .int _=>aA "int"
 | .bl _=>aA "bool"
 | .tup _=>aA "tuple"
 | .lst _=>aA "list"
 | .str _=>aA "str"
 | _=>none
noncomputable def Wl:List PV->Option PV
 | [a,.ty t]=>(DX a).bind λu=>if t=u then aA (.bl aC) else if u = "int"/\t = "bool" then aA (.bl aB) else none
 | _=>none
theorem S9:cL K (.type "bool") (.type "bool")=aA aC:=rfl
theorem GW{H:Hp}{a:PV}{u:String}{v:V}{f:List aG}(e:DX a=aA u)(h:Is K H a v f):TyOf K H v (.type u)/\cL K (.type u) (.type u)=aA aC:=by
 cases a<;>first
  | exact nomatch (show none=aA u from e)
  | cases e
 ·obtain⟨rfl,_⟩:=h.bl_inv;exact⟨TyOf.bl _,S9⟩
 ·obtain⟨rfl,_⟩:=h.int_inv;exact⟨TyOf.int _,Pd⟩
 ·obtain⟨rfl,_⟩:=h.str_inv;exact⟨TyOf.str _,Pf⟩
 ·obtain⟨q,c,rfl,b,_⟩:=h.tup_inv;exact⟨TyOf.tup b,Pe⟩
 ·obtain⟨q,c,d,rfl,b,_⟩:=h.lst_inv;exact⟨TyOf.lst b,S7⟩
theorem VJ:RC K (λg H Q=>∃x T t b,g=[x,.ty T]/\TyOf K H x t/\cL K t (.type T)=aA b/\Q (.bl b) H) Wl:=λH vs ls l n h e Q k=>by
 have d:∀b:Bool,l = .bl b->Q (.bl b) H:=λb z=>by subst z;exact k _ H [] (Same.refl H) (Is.bl _) λp m=>by simp at m
 unfold Wl at e;split at e
 ·obtain⟨u,j,c⟩:=Zd e;obtain⟨v,w,f1,f2,rfl,a,b,rfl⟩:=h.two_inv;obtain⟨f,i⟩:=GW j a;split at c
  ·rename_i z;subst z;cases c;exact⟨_,_,_,_,by rw[b.ty_inv.1],f,i,d _ rfl⟩
  ·split at c
   ·rename_i z;obtain⟨rfl,rfl⟩:=z;cases c;exact⟨_,_,_,_,by rw[b.ty_inv.1],f,Qg,d _ rfl⟩
   ·cases c
 ·cases e
theorem Pr{x:ah}{n:String}(c:Gl X x)(d:X.mg x=none)(e:cW x=aA (.type n))(a:x≠"__name__":=by decide)(b:(x==("__debug__" : ah))=aB:=by decide):VE X (.Name x pos) (eC (.ty n)):=
 JT (Jm c d e (v:=.ty n) rfl a b) λ_=>Is.ty n
end
end VL
namespace VL
open PySem PySem.Spec PyProof.Rows L2
variable {K:aD}
open Classical in
instance:DecidableEq PV:=λa b=>propDecidable (a=b)
noncomputable def T2:Nat->PV->PV->Bool
 | _+1,.non,.non=>aC
 | _+1,.bl _,.bl _=>aC
 | _+1,.int _,.int _=>aC
 | _+1,.str _,.str _=>aC
 | n+1,.tup l,.tup m=>(l.zip m).all λz=>T2 n z.1 z.2
 | n+1,.lst l,.lst m=>(l.zip m).all λz=>T2 n z.1 z.2
 | _,_,_=>aB
theorem VN{c d:Type}{p:c×d->Bool}{a:c}{b:d}{l:List c}{m:List d}(h:((a::l).zip (b::m)).all p=aC):p (a,b)=aC/\(l.zip m).all p=aC:=by rw[List.zip_cons_cons,iU,bV] at h;exact h
theorem Iss.inj'{n:Nat}{H:Hp}(c:∀a b v fa fb,T2 n a b=aC->Is K H a v fa->Is K H b v fb->a=b):∀{l m:List PV}{xs:List V}{fa fb:List aG},(l.zip m).all (λz=>T2 n z.1 z.2)=aC->Iss K H l xs fa->Iss K H m xs fb->l=m
 | [],m,xs,fa,fb,_,h,h'=>by
  simp only[Iss] at h;rw[h.1] at h';have:=h'.len
  cases m with
  | nil=>rfl
  | cons _ _=>simp at this
 | a::l,m,xs,fa,fb,hc,h,h'=>by
  obtain⟨x,r,f1,f2,rfl,i,g,rfl⟩:=h.inv
  cases m with
  | nil=>have:=h'.len;simp at this
  | cons b m=>
   obtain⟨k,p,f,o,e,j,d,rfl⟩:=h'.inv;cases e;obtain⟨c1,c2⟩:=VN hc;rw[c a b x f1 f c1 i j,Iss.inj' c c2 g d]
theorem Is.inj'{H:Hp}:∀(n:Nat)(a b:PV)(v:V)(fa fb:List aG),T2 n a b=aC->Is K H a v fa->Is K H b v fb->a=b
 | 0,a,b,v,fa,fb,hc,_,_=>nomatch (show aB=aC from hc)
 | n+1,a,b,v,fa,fb,hc,ha,hb=>by
  cases a<;>cases b<;>first
   | exact nomatch (show aB=aC from hc)
   | skip
  ·rfl
  ·rw[ha.bl_inv.1] at hb;have:=hb.bl_inv.1;cases this;rfl
  ·rw[ha.int_inv.1] at hb;have:=hb.int_inv.1;cases this;rfl
  ·rw[ha.str_inv.1] at hb;have:=hb.str_inv.1;cases this;rfl
  ·obtain⟨p,h,rfl,g,f⟩:=ha.tup_inv;obtain⟨i,j,e,c,d⟩:=hb.tup_inv;cases e;rw[g] at c;cases c;rw[Iss.inj' (Is.inj' n) hc f d]
  ·obtain⟨p,h,l,rfl,g,f,_⟩:=ha.lst_inv;obtain⟨i,j,k,e,c,d,_⟩:=hb.lst_inv;cases e;rw[g] at c;cases c;rw[Iss.inj' (Is.inj' n) hc f d]
section
variable {X:Cx} {jq:List (aG×cj)} {σ:Tf} {H:Hp} {s:aL} {A:bc}
theorem OR{n:Nat}(i:∀a b x y fa fb u w,T2 n a b=aC->Is K H a x fa->Is K H b y fb->RelV x u->RelV y w->∃r,ja A s u w r/\(r=aC↔a=b)) :
  ∀{l m:List PV}{xs ys:List V}{fa fb:List aG}{us ws:List aF},(l.zip m).all (λz=>T2 n z.1 z.2)=aC->Iss K H l xs fa->Iss K H m ys fb->Vals xs us->Vals ys ws->
  ∃e:Nat->Bool,(∀j (c:j<us.length) (d:j<ws.length),ja A s us[j] ws[j] (e j))/\((aJ (min us.length ws.length)).all e=aC↔l.take (min us.length ws.length)=m.take (min us.length ws.length))
 | [],m,xs,ys,fa,fb,us,ws,_,h,_,r,_=>by simp only[Iss] at h;obtain⟨rfl,_⟩:=h;cases r;exact⟨λ_=>aC,λj c=>by simp at c,by simp⟩
 | a::l,[],xs,ys,fa,fb,us,ws,_,_,h,_,r=>by simp only[Iss] at h;obtain⟨rfl,_⟩:=h;cases r;exact⟨λ_=>aC,λj c d=>by simp at d,by simp⟩
 | a::l,b::m,xs,ys,fa,fb,us,ws,hc,h,h',r,r'=>by
  obtain⟨x,F,f1,f2,rfl,c,d,rfl⟩:=h.inv;obtain⟨y,E,p,G,rfl,D,o,rfl⟩:=h'.inv;obtain⟨c1,c2⟩:=VN hc
  cases r with
  | cons q v=>cases r' with
   | cons q' v'=>
    obtain⟨t,B,f⟩:=i a b x y f1 p _ _ c1 c D q q';obtain⟨e,C,g⟩:=OR i c2 d o v v';refine⟨λj=>match j with | 0=>t | k+1=>e k,λj c d=>?_,?_⟩
    ·cases j with
     | zero=>exact B
     | succ k=>exact C k (by simpa using c) (by simpa using d)
    ·simp only[bW,Nat.succ_min_succ,List.range_succ_eq_map,iU,List.all_map,bV,List.take_succ_cons,List.cons.injEq];exact and_congr f g
theorem Iss.same'{l m:List PV}{e f:List V}{i fb:List aG}{c d:List aF}(h:Iss K H l e i)(j:Iss K H m f fb)(r:Vals e c)(g:Vals f d) :
  (l.take (min c.length d.length)=m.take (min c.length d.length)/\c.length=d.length)↔l=m:=by
 have o:=h.len;have k:=j.len;have n:=r.length;have p:=g.length;constructor
 ·rintro⟨a,b⟩;rw[bX (by omega),bX (by omega)] at a;exact a
 ·intro a;subst a;exact⟨rfl,by omega⟩
noncomputable def Hq(A:bc)(s:aL)(u w:aF)(r:Bool):Prop:=SeqAt.RcAt A s u w r/\SeqAt.RcNeAt A s u w !r
theorem Qo(I:Inv X jq σ H s):∀(n:Nat)(A:bc)(a b:PV)(x y:V)(l fb:List aG)(u w:aF),A.units+2*n+2<iS->T2 n a b=aC->Is K H a x l->Is K H b y fb->RelV x u->RelV y w->
  (∃r,ja A s u w r/\(r=aC↔a=b))/\∃r,Hq A s u w r/\(r=aC↔a=b)
 | 0,A,a,b,x,y,l,fb,u,w,hu,hc,_,_,_,_=>nomatch (show aB=aC from hc)
 | n+1,A,a,b,x,y,l,fb,u,w,hu,hc,ha,hb,ru,ZQ=>by
  cases a<;>cases b<;>first
   | exact nomatch (show aB=aC from hc)
   | skip
  ·rw[ha.non_inv.1] at ru;rw[hb.non_inv.1] at ZQ;cases ru;cases ZQ;exact⟨⟨aC,gs _,by simp⟩,aC,⟨SeqAt.RcAt.none_none,SeqAt.RcNeAt.none_none⟩,by simp⟩
  ·rw[ha.bl_inv.1] at ru;rw[hb.bl_inv.1] at ZQ;cases ru;cases ZQ;exact⟨⟨_,ja.bool_bool _ _,by simp⟩,_,⟨SeqAt.RcAt.bool_bool _ _,SeqAt.RcNeAt.bool_bool _ _⟩,by simp⟩
  ·rw[ha.int_inv.1] at ru;rw[hb.int_inv.1] at ZQ;obtain⟨t,rfl⟩:=ru;obtain⟨t',rfl⟩:=ZQ;exact⟨⟨_,ja.int_int _ _ _ _,by simp⟩,_,⟨SeqAt.RcAt.int_int _ _ _ _,SeqAt.RcNeAt.int_int _ _ _ _⟩,by simp⟩
  ·rw[ha.str_inv.1] at ru;rw[hb.str_inv.1] at ZQ;obtain⟨t,rfl⟩:=ru;obtain⟨t',rfl⟩:=ZQ;exact⟨⟨_,ja.str_str _ _ _ _,by simp⟩,_,⟨SeqAt.RcAt.str_str _ _ _ _,SeqAt.RcNeAt.str_str _ _ _ _⟩,by simp⟩
  ·rename_i M J;obtain⟨p,Y,rfl,R,F⟩:=id ha.tup_inv;obtain⟨D,ys,rfl,m,h⟩:=id hb.tup_inv;cases ru;cases ZQ;obtain⟨B,E,q,_⟩:=I.tuple (SqT.of R);obtain⟨C,i,z,_⟩:=I.tuple (SqT.of m);obtain⟨f,G,k⟩:=OR (A:=A.in1) (λa b x y l fb u w c P N Q O=>(Qo I n A.in1 a b x y l fb u w (by show A.units+1+2*n+2<iS;omega) c P N Q O).1) hc F h E i;have S:=SeqAt.RcAt.tuples (A:=A) (e:=f) (show s.heap.IsTuple p B.toArray from q) (show s.heap.IsTuple D C.toArray from z) (by omega) (λj v o=>G j (by simpa using v) (by simpa using o));have W:=SeqAt.RcNeAt.tuples (A:=A) (e:=f) (show s.heap.IsTuple p B.toArray from q) (show s.heap.IsTuple D C.toArray from z) (by omega) (λj v o=>G j (by simpa using v) (by simpa using o));have g:(((aJ (min B.toArray.size C.toArray.size)).all f&&B.toArray.size==C.toArray.size)=aC)↔PV.tup M=PV.tup J:=by simp only[aO,bV,beq_iff_eq,PV.tup.injEq];rw[k];exact Iss.same' F h E i
   refine⟨?_,_,⟨S,W⟩,g⟩;by_cases e:p=D
   ·subst e;exact⟨aC,gs _,by simp[Is.inj' (n+1) _ _ _ _ _ hc ha hb]⟩
   ·exact⟨_,i8 e S,g⟩
  ·rename_i M J;obtain⟨p,Y,fq,rfl,R,F,_⟩:=id ha.lst_inv;obtain⟨D,ys,Z,rfl,m,h,_⟩:=id hb.lst_inv;cases ru;cases ZQ;obtain⟨B,E,q,_⟩:=I.list (SqL.of R);obtain⟨C,i,z,_⟩:=I.list (SqL.of m);obtain⟨f,G,k⟩:=OR (A:=A.in1) (λa b x y l fb u w c P N Q O=>(Qo I n A.in1 a b x y l fb u w (by show A.units+1+2*n+2<iS;omega) c P N Q O).1) hc F h E i
   have L:∃r,Hq A s (.ref p) (.ref D) r/\(r=aC↔PV.lst M=PV.lst J):=by
    have g:=Iss.same' F h E i;by_cases d:B.length=C.length
    ·refine⟨_,⟨SeqAt.RcAt.lists (e:=f) q.isList z.isList (by simpa using d) (by omega) (λj v o=>G j (by simpa using v) (by simpa using o)),SeqAt.RcNeAt.lists (e:=f) q.isList z.isList (by simpa using d) (by omega) (λj v o=>G j (by simpa using v) (by simpa using o))⟩,?_⟩;rw[d,Nat.min_self] at k g;simp only[aO,PV.lst.injEq];rw[d,k,<-g];simp
    ·refine⟨aB,⟨SeqAt.RcAt.lists_lengths q.isList z.isList (by simpa using d) (by omega),SeqAt.RcNeAt.lists_lengths q.isList z.isList (by simpa using d) (by omega)⟩,?_⟩;rw[PV.lst.injEq,<-g];simp[d]
   obtain⟨r,T,U⟩:=L;refine⟨?_,r,T,U⟩;by_cases e:p=D
   ·subst e;exact⟨aC,gs _,by simp[Is.inj' (n+1) _ _ _ _ _ hc ha hb]⟩
   ·exact⟨r,i8 e T.1,U⟩
end
noncomputable def GX(K:aD)(neg:Bool):R2:=λx y H Q=>∃a b fa fb,Is K H a x fa/\Is K H b y fb/\T2 8 a b=aC/\∀r:Bool,(r=aC↔a=b)->Q (.bl (if neg then !r else r)) H
section
variable {X:Cx}
theorem L0(l:X.A.units+64<iS):Uh X (eI .Eq) (GX X.K aB):=by intro m s n H x y v u Q I d i h;obtain⟨a,b,c,fb,j,k,e,q⟩:=h;obtain⟨_,r,f,g⟩:=Qo I 8 X.A a b x y c fb v u (by omega) e j k d i;exact f.1 X.prog X.w X.xe _ ⟨.bl r,H,I,rfl,q r g⟩
theorem L3(l:X.A.units+64<iS):Uh X (eI .NotEq) (GX X.K aC):=by intro m s n H x y v u Q I d i h;obtain⟨a,b,c,fb,j,k,e,q⟩:=h;obtain⟨_,r,f,g⟩:=Qo I 8 X.A a b x y c fb v u (by omega) e j k d i;exact f.2 X.prog X.w X.xe _ ⟨.bl !r,H,I,rfl,q r g⟩
end
noncomputable def W8(neg:Bool):PV->PV->Option PV:=λa b=>if T2 8 a b=aC then aA (.bl (if neg then !decide (a=b) else decide (a=b))) else none
theorem Qp(neg:Bool):RB K (GX K neg) (W8 neg):=λH x y a b l d fb f h e Q k=>by
 unfold W8 at e;split at e
 ·cases e;refine⟨a,b,d,fb,f,h,by assumption,λr c=>?_⟩
  have:r=decide (a=b):=by
   cases r with
   | true=>exact(decide_eq_true (c.mp rfl)).symm
   | false=>exact(decide_eq_false λz=>bK (c.mpr z)).symm
  subst this;exact k _ H [] (Same.refl H) (Is.bl _) λp g=>by simp at g
 ·cases e
end VL
namespace VL
open PySem PySem.Spec PyProof.Rows L2
variable {K:aD}
mutual
theorem Is.dom{H:Hp}:∀(l:PV)(v:V)(fp:List aG),Is K H l v fp->∀p∈fp,H p≠none
 | .non,_,_,h=>by simp only[Is] at h;rw[h.2];simp
 | .bl _,_,_,h=>by simp only[Is] at h;rw[h.2];simp
 | .int _,_,_,h=>by simp only[Is] at h;rw[h.2];simp
 | .str _,_,_,h=>by simp only[Is] at h;rw[h.2];simp
 | .ty _,_,_,h=>by simp only[Is] at h;rw[h.2];simp
 | .exc _,_,_,h=>by simp only[Is] at h;rw[h.2];simp
 | .exf _ _,_,_,h=>by simp only[Is] at h;rw[h.2];simp
 | .clo L l,v,fp,h=>by simp only[Is] at h;obtain⟨u,x,_,_,a⟩:=h;exact Is.dom l x fp a
 | .tup l,v,fp,h=>by obtain⟨p,c,_,_,a⟩:=h.tup_inv;exact Iss.dom l c fp a
 | .lst l,v,fp,h=>by
  obtain⟨p,c,f,_,d,a,rfl⟩:=h.lst_inv;intro q b;rcases af.mp b with rfl | b
  ·rw[d];simp
  ·exact Iss.dom l c f a q b
 | .cst l,v,fp,h=>by obtain⟨p,c,_,_,a⟩:=h.cst_inv;exact Iss.dom l c fp a
 | .dK ks l,v,fp,h=>by
  obtain⟨p,g,f,_,d,_,a,rfl⟩:=h.dK_inv;intro q b;rcases af.mp b with rfl | b
  ·rcases d with e | ⟨o,e⟩<;>rw[e]<;>simp
  ·exact Iss.dom l _ f a q b
 | .dT ks l,v,fp,h=>by
  obtain⟨p,g,f,_,d,_,a,rfl⟩:=h.dT_inv;intro q b;rcases af.mp b with rfl | b
  ·rcases d with e | ⟨o,e⟩<;>rw[e]<;>simp
  ·exact Iss.dom l _ f a q b
theorem Iss.dom{H:Hp}:∀(l:List PV)(xs:List V)(fp:List aG),Iss K H l xs fp->∀p∈fp,H p≠none
 | [],_,_,h=>by simp only[Iss] at h;rw[h.2];simp
 | l::ls,xs,fp,h=>by
  obtain⟨x,r,f1,f2,_,b,c,rfl⟩:=h.inv;intro q a;rcases bj.mp a with a | a
  ·exact Is.dom l x f1 b q a
  ·exact Iss.dom ls r f2 c q a
end
noncomputable def Ab(Rm:aG->Prop)(H H':Hp):Prop:=∀b o,H b=aA o->¬Rm b->H' b=aA o
theorem Same.ab{c:aG->Prop}{H a:Hp}(s:Same H a):Ab c H a:=λb o h _=>s b o h
theorem Ab.tk{d:aG->Prop}{H e:Hp}(a:Ab d H e)(c:∀p,d p->W7 (H p)):JR H e:=⟨λb f h=>a b _ h λz=>by
 have:=c b z
 rw[h] at this;exact this,λb o f h=>a b _ h λz=>by
 have:=c b z
 rw[h] at this;exact this,λb o x h=>a b _ h λz=>by
 have:=c b z;rw[h] at this;exact this⟩
theorem Is.ab{c:aG->Prop}{H d:Hp}(a:Ab c H d)(f:∀p,c p->W7 (H p)){l:PV}{v:V}{b:List aG}(n:∀p∈b,¬c p)(h:Is K H l v b):Is K d l v b:=
 Is.tr (a.tk f) l v b (λp e=>RdK.of λo q=>a p o q (n p e)) h
structure DC(K:aD)(Rm:aG->Prop)(H1:Hp)(J:It)(ls:List PV):Prop where
 stop:∀H',Ab Rm H1 H'->J.stop ls.length H'
 go:∀H' (i:Nat) l,Ab Rm H1 H'->ls[i]?=aA l->J.go i H'
 yld:∀H' (i:Nat) l x H'',Ab Rm H1 H'->ls[i]?=aA l->J.yld i H' x H''->Same H' H''/\∃fp,Is K H'' l x fp/\∀p∈fp,H1 p≠none/\¬Rm p
abbrev XL:=Zy->Option (List PV)
noncomputable def iF(K:aD)(f:XL):TI:=λσ H R=>∃(Rm:aG->Prop) (s:Zy) (ls:List PV),(∀p,Rm p->W7 (H p))/\EnvIs K Rm H s σ/\f s=aA ls/\∀J H1,Same H H1->DC K Rm H1 J ls->R J H1
noncomputable def VI(X:Cx)(tg e:ao)(f:XL):Prop:=PI X tg e (iF X.K f)
section
variable {X:Cx} {tg e:ao} {es:List ao}
theorem PI.imp{t t':TI}(h:PI X tg e t)(i:∀a H R,t' a H R->t a H R):PI X tg e t':=λb s a H R I q=>h b s a H R I (i a H R q)
noncomputable def FC:PV->Option (List PV)
 | .lst m=>aA m
 | .cst m=>aA m
 | _=>none
noncomputable def Ut(f:XE):XL:=λs=>(f s).bind FC
noncomputable def Tj(f:XE):XL:=λs=>match f s with | some (.tup m)=>aA m | _=>none
theorem L4{a:PV}{m:List PV}(h:FC a=aA m):a = .lst m\/a = .cst m:=by
 unfold FC at h;split at h
 ·cases h;exact .inl rfl
 ·cases h;exact .inr rfl
 ·cases h
theorem MK{f:XE}{s:Zy}{m:List PV}(h:Tj f s=aA m):f s=aA (.tup m):=by
 unfold Tj at h;split at h
 ·cases h;assumption
 ·cases h
theorem Y6{f:XE}(h:VE X e f):VI X tg e (Ut f):=PI.imp (Jq h) λL H R ⟨D,s,ls,A,env,e,k⟩=>by
 obtain⟨l,I,F⟩:=Zd e;refine⟨D,s,l,A,env,I,λv o B s1 C E=>?_⟩;have u:=λp d=>Same.mut s1 (A p d)
 have j:∀a b r,v = .ref a->SqL X.K o a b->(∀g,Ab D o g->SqL X.K g a b)->Iss X.K o ls b r->(∀p∈r,p∈B)->∃a,v = .ref a/\(∃b,SqL X.K o a b)/\R (Dj X.K a) o:=by
  rintro a b r rfl m c n sub;refine⟨a,rfl,⟨b,m⟩,k _ o s1 ⟨λg ab=>⟨b,c g ab,by rw[n.len];exact aH _⟩,λg i l ab z=>?_,λg i l x G ab z y=>?_⟩⟩
  ·obtain⟨x,f1,w,_,_⟩:=n.get z;exact⟨b,x,c g ab,w⟩
  ·obtain⟨rfl,y⟩:=y;obtain⟨J,f1,w,ix,t⟩:=n.get z;have:=y b (c _ ab);rw[w] at this;cases this;have q:=λp d=>E p (sub p (t p d));exact⟨Same.refl _,f1,ix.ab ab u q,λp d=>⟨Is.dom _ _ _ ix p d,q p d⟩⟩
 rcases L4 F with rfl | rfl
 ·obtain⟨a,b,r,rfl,m,n,rfl⟩:=C.lst_inv;exact j a b r rfl (SqL.of m) (λg ab=>SqL.of (ab a _ m (E a a9))) n λp d=>aU _ d
 ·obtain⟨a,b,rfl,m,n⟩:=C.cst_inv;exact j a b B rfl m.sq (λg ab=>(m.tr (ab.tk u)).sq) n λp d=>d
theorem T3{f:XE}(h:VE X e f):VI X tg e (Tj f):=PI.imp (Gh h) λE H R ⟨u,s,ls,t,env,e,k⟩=>by
 refine⟨u,s,.tup ls,t,env,MK e,λv r C s1 z A=>?_⟩;obtain⟨a,d,rfl,w,o⟩:=z.tup_inv;have m:=λp g=>Same.mut s1 (t p g);have b:∀c,Ab u r c->SqT X.K c a d:=λc ab=>SqT.of ((ab.tk m).tup a d w);refine⟨a,rfl,⟨d,SqT.of w⟩,k _ r s1 ⟨λc ab=>⟨d,b c ab,by rw[o.len];exact aH _⟩,λc i l ab q=>?_,λc i l x B ab q y=>?_⟩⟩
 ·obtain⟨x,f1,n,_,_⟩:=o.get q;exact⟨d,x,b c ab,n⟩
 ·obtain⟨rfl,y⟩:=y;obtain⟨D,f1,n,ix,sub⟩:=o.get q;have:=y d (b _ ab);rw[n] at this;cases this;have j:=λp g=>A p (sub p g);exact⟨Same.refl _,f1,ix.ab ab m j,λp g=>⟨Is.dom _ _ _ ix p g,j p g⟩⟩
noncomputable def Uu(n:Nat):List PV:=(aJ n).map λ(i:Nat)=>PV.int (i:Int)
noncomputable def Vn(lo:Int)(n:Nat):List PV:=(aJ n).map λ(i:Nat)=>PV.int (lo+(i:Int))
noncomputable def ZW(fs:List XE):XL:=λs=>match TZ fs s with | some [.int j]=>if -1000000<=j/\j<=1000000 then aA (Uu j.toNat) else none | _=>none
noncomputable def Ww(fs:List XE):XL:=λs=>match TZ fs s with | some [.int i,.int j]=>if -1000000<=i/\i<=1000000/\-1000000<=j/\j<=1000000 then aA (Vn i (j-i).toNat) else none | _=>none
theorem NT{g:aG->Prop}{e:Hp}(lo:Int)(n:Nat):DC K g e (FV lo n) (Vn lo n):=by
 refine⟨λc _=>by unfold Vn;rw[aQ,b7];exact aH n,λc i l _ a=>?_,λc i l x d _ a y=>?_⟩
 ·have:=(aW.mp a).1;unfold Vn at this;rw[aQ,b7] at this;exact this
 ·obtain⟨rfl,rfl⟩:=y;have b:=(aW.mp a).1;unfold Vn at b a;rw[aQ,b7] at b;rw[aR,bB b] at a;cases a;exact⟨Same.refl _,[],Is.int _,λp f=>by simp at f⟩
theorem J5(n:Nat):Uu n=Vn 0 n:=by apply bN;intro i _;rw[Int.zero_add]
theorem ML{a:ao}{fs:List XE}{p b:dj}(o:Gl X "range")(m:X.mg "range" = none)(n:VA X [a] fs)(d:aS [a] X.env=[(aB,eval a X.env)]:=by rfl):VI X tg (.Call (.Name "range" p) [a] [] b) (ZW fs):=
 PI.imp (Mv o m n d) λt H R ⟨l,s,ls,g,env,e,k⟩=>by
 unfold ZW at e;split at e
 ·split at e
  ·cases e;rename_i j f q;refine⟨l,s,_,g,env,f,λvs c r s1 h _=>?_⟩;obtain⟨v,rfl,i⟩:=h.one_inv;refine⟨j,by rw[i.int_inv.1],by omega,by omega,k _ c s1 ?_⟩;rw[J5];exact NT _ _
  ·cases e
 ·cases e
theorem MM{a b:ao}{fs:List XE}{p c:dj}(u:Gl X "range")(r:X.mg "range" = none)(t:VA X [a,b] fs)(g:aS [a,b] X.env=[(aB,eval a X.env),(aB,eval b X.env)]:=by rfl)(d:aS [b] X.env=[(aB,eval b X.env)]:=by rfl):VI X tg (.Call (.Name "range" p) [a,b] [] c) (Ww fs):=
 PI.imp (Mw u r t g d) λz H R ⟨q,s,ls,l,env,e,k⟩=>by
 unfold Ww at e;split at e
 ·split at e
  ·cases e;rename_i i j h x;refine⟨q,s,_,l,env,h,λvs f y s1 o _=>?_⟩;obtain⟨v,w,f1,f2,rfl,m,n,_⟩:=o.two_inv;exact⟨i,j,by rw[m.int_inv.1,n.int_inv.1],⟨by omega,by omega,by omega,by omega⟩,k _ f s1 (NT _ _)⟩
  ·cases e
 ·cases e
noncomputable def Wx(m:List PV):List PV:=m.zipIdx.map λz=>.tup [.int (z.2:Nat),z.1]
noncomputable def W9(m n:List PV):List PV:=(m.zip n).map λz=>.tup [z.1,z.2]
theorem RI{m:List PV}{i:Nat}{l:PV}(h:(Wx m)[i]?=aA l):∃a,m[i]?=aA a/\l = .tup [.int (i:Nat),a]:=by
 unfold Wx at h;rw[aR,List.getElem?_zipIdx] at h
 cases q:m[i]? with
 | none=>rw[q] at h;cases h
 | some a=>rw[q] at h;cases h;exact⟨a,rfl,by simp⟩
theorem RJ(m:List PV):(Wx m).length=m.length:=by unfold Wx;rw[aQ,List.length_zipIdx]
theorem Pu{m n:List PV}{i:Nat}{l:PV}(h:(W9 m n)[i]?=aA l):∃a b,m[i]?=aA a/\n[i]?=aA b/\l = .tup [a,b]:=by
 unfold W9 at h;rw[aR] at h
 cases q:(m.zip n)[i]? with
 | none=>rw[q] at h;cases h
 | some z=>
  rw[q] at h;cases h;obtain⟨c,d⟩:=gE.mp q;exact⟨z.1,z.2,c,d,rfl⟩
theorem Pw(m n:List PV):(W9 m n).length=min m.length n.length:=by unfold W9;rw[aQ,List.length_zip]
noncomputable def seqB:Bool->PV->Option (List PV)
 | true,.lst l=>aA l
 | true,.cst l=>aA l
 | false,.tup l=>aA l
 | _,_=>none
theorem Qq{H:Hp}{b:Bool}{l:PV}{v:V}{d:List aG}{m:List PV}(h:Is K H l v d)(e:seqB b l=aA m):∃p a k,v = .ref p/\Iss K H m a k/\(∀q∈k,q∈d)/\∀(c:aG->Prop) j,Ab c H j->(∀p,c p->W7 (H p))->(∀p∈d,¬c p)->Td b K j p a:=by
 cases b with
 | true=>cases l with
  | lst l=>
   cases e;obtain⟨p,a,k,rfl,i,f,rfl⟩:=h.lst_inv;exact⟨p,a,k,rfl,f,λq g=>aU _ g,λc j ab _ n=>SqL.of (ab p _ i (n p a9))⟩
  | cst l=>
   cases e;obtain⟨p,a,rfl,i,f⟩:=h.cst_inv;exact⟨p,a,d,rfl,f,λq g=>g,λc j ab o _=>(i.tr (ab.tk o)).sq⟩
  | _=>cases e
 | false=>cases l with
  | tup l=>
   cases e;obtain⟨p,a,rfl,i,f⟩:=h.tup_inv;exact⟨p,a,d,rfl,f,λq g=>g,λc j ab o _=>SqT.of ((ab.tk o).tup p a i)⟩
  | _=>cases e
noncomputable def NU(b:Bool)(fs:List XE):XL:=λs=>match TZ fs s with | some [l]=>(seqB b l).map Wx | _=>none
noncomputable def Ra(b1 b2:Bool)(fs:List XE):XL:=λs=>match TZ fs s with | some [l,r]=>(seqB b1 l).bind λm=>(seqB b2 r).map λn=>W9 m n | _=>none
theorem NV{g:List ao}{k:Nat}{h:dj}(b:Bool){a:ao}{fs:List XE}{p w:dj}(T:Gl X "enumerate")(O:X.mg "enumerate" = none)(P:VA X [a] fs)(J:aS [a] X.env=[(aB,eval a X.env)]:=by rfl) :
  VI X (.Tuple g k h) (.Call (.Name "enumerate" p) [a] [] w) (NU b fs):=PI.imp (JL b T O P J) λZ H R ⟨F,s,ls,E,env,e,k⟩=>by
 unfold NU at e;split at e
 ·rename_i l L;obtain⟨m,S,rfl⟩:=map_some e;refine⟨F,s,_,E,env,L,λvs u U s1 N G=>?_⟩;obtain⟨v,rfl,i⟩:=N.one_inv;have o:=λp d=>Same.mut s1 (E p d);obtain⟨a,t,Y,rfl,C,sub,n⟩:=Qq i S;have r:=λf ab=>n F f ab o G;refine⟨a,rfl,⟨t,r u (Same.ab (Same.refl u))⟩,k _ u s1 ⟨λf ab=>⟨t,r f ab,by rw[RJ,C.len]⟩,λf i l ab D=>?_,λf i l x Q ab D y=>?_⟩⟩
  ·obtain⟨c,A,rfl⟩:=RI D;obtain⟨x,f1,B,_,_⟩:=C.get A;exact⟨t,x,r f ab,B⟩
  ·obtain⟨c,A,rfl⟩:=RI D;obtain⟨W,f1,B,ix,M⟩:=C.get A;obtain⟨q,z,I,rfl,rfl,y⟩:=y;have:=y t (r _ ab);rw[B] at this;cases this;have j:=λp d=>G p (sub p (M p d));refine⟨Same.new I _,f1,Is.tup Zn ?_,λp d=>⟨Is.dom _ _ _ ix p d,j p d⟩⟩;exact Iss.cons (Is.int _) (Iss.one ((ix.ab ab o j).mono (Same.new I _)))
 ·cases e
theorem Uv{u:List ao}{k:Nat}{E:dj}(b1 b2:Bool){a b:ao}{fs:List XE}{p W:dj}(hg:Gl X "zip")(hm:X.mg "zip" = none)(ha:VA X [a,b] fs)
  (hs:aS [a,b] X.env=[(aB,eval a X.env),(aB,eval b X.env)]:=by rfl) (Y:aS [b] X.env=[(aB,eval b X.env)]:=by rfl) :
  VI X (.Tuple u k E) (.Call (.Name "zip" p) [a,b] [] W) (Ra b1 b2 fs):=PI.imp (GI b1 b2 hg hm ha hs Y) λσ H R ⟨T,s,ls,hd,env,e,k⟩=>by
 unfold Ra at e;split at e
 ·rename_i l r he;obtain⟨m,e1,e⟩:=Zd e;obtain⟨n,e2,rfl⟩:=map_some e;refine⟨T,s,_,hd,env,he,λvs G fp s1 i1 n1=>?_⟩;obtain⟨v,w,g1,g2,rfl,iv,iw,rfl⟩:=i1.two_inv;have h:=λp f=>Same.mut s1 (hd p f);have C:=λp f=>n1 p (bO _ f);have F:=λp f=>n1 p (aa _ f);obtain⟨a1,L,fq,rfl,Q,sub,I⟩:=Qq iv e1;obtain⟨a2,M,fr,rfl,O,B,o⟩:=Qq iw e2;have J:=λg ab=>I T g ab h C;have j:=λg ab=>o T g ab h F;refine⟨a1,a2,rfl,⟨L,J G (Same.ab (Same.refl G))⟩,⟨M,j G (Same.ab (Same.refl G))⟩,k _ G s1 ⟨λg ab=>⟨L,M,J g ab,j g ab,?_⟩,λg i l ab hl=>?_,λg i l x H'' ab hl y=>?_⟩⟩
  ·rw[Pw,Q.len,O.len];omega
  ·obtain⟨c,d,Z,t,rfl⟩:=Pu hl;obtain⟨x,f1,N,_,_⟩:=Q.get Z;obtain⟨y,f2,U,_,_⟩:=O.get t;exact⟨L,M,x,y,J g ab,j g ab,N,U⟩
  ·obtain⟨c,d,Z,t,rfl⟩:=Pu hl;obtain⟨x',f1,N,ix,sb⟩:=Q.get Z;obtain⟨y',f2,U,iy,P⟩:=O.get t;obtain⟨q,z,z',S,rfl,rfl,y1,y2⟩:=y;have:=y1 L (J _ ab);rw[N] at this;cases this;have:=y2 M (j _ ab);rw[U] at this;cases this;have D:=λp f=>C p (sub p (sb p f));have A:=λp f=>F p (B p (P p f));refine⟨Same.new S _,f1++f2,Is.tup Zn ?_,λp f=>?_⟩
   ·exact Iss.cons ((ix.ab ab h D).mono (Same.new S _)) (Iss.one ((iy.ab ab h A).mono (Same.new S _)))
   ·rcases bj.mp f with f | f
    ·exact⟨Is.dom _ _ _ ix p f,D p f⟩
    ·exact⟨Is.dom _ _ _ iy p f,A p f⟩
 ·cases e
end
inductive Tgt where
 | one (i:Nat) | many (is:List Nat)
noncomputable def Tgt.slots:Tgt->List Nat
 | .one i=>[i]
 | .many is=>is
noncomputable def setAll:List Nat->List PV->Zy->Zy
 | i::is,l::ls,s=>setAll is ls (s.set i (aA l))
 | _,_,s=>s
noncomputable def Yj:List Nat->List V->Tf->Tf
 | i::is,l::ls,s=>Yj is ls (s.set i (aA l))
 | _,_,s=>s
noncomputable def YF:Tgt->PV->Zy->Option Zy
 | .one i,l,s=>aA (s.set i (aA l))
 | .many is,.tup ls,s=>if ls.length=is.length then aA (setAll is ls s) else none
 | _,_,_=>none
noncomputable def OS:List Nat->Hh
 | []=>FT
 | i::is=>Hi (VB i) (OS is)
noncomputable def gT(K:aD):Tgt->TG
 | .one i=>VB i
 | .many is=>FU K is.length (OS is)
theorem T4:∀{is:List Nat}{vs:List V}{σ:Tf}{H:Hp}{Q:Tf->Hp->Prop},vs.length=is.length->Q (Yj is vs σ) H->OS is vs σ H Q
 | [],[],_,_,_,_,q=>⟨rfl,q⟩
 | [],_::_,_,_,_,h,_=>by simp at h
 | _::_,[],_,_,_,h,_=>by simp at h
 | i::is,v::vs,σ,H,Q,h,q=>⟨v,vs,rfl,T4 (is:=is) (vs:=vs) (by simpa using h) q⟩
theorem OT{T:Tgt}{l:PV}{v:V}{c:List aG}{s d:Zy}{H:Hp}(h:Is K H l v c)(e:YF T l s=aA d) :
  ∃ls vs fs,d=setAll T.slots ls s/\Iss K H ls vs fs/\ls.length=T.slots.length/\(∀p∈fs,p∈c)/\∀b (Q:Tf->Hp->Prop),Q (Yj T.slots vs b) H->gT K T v b H Q:=by
 cases T with
 | one i=>
  cases e;exact⟨[l],[v],c,rfl,Iss.one h,rfl,λp a=>a,λb Q q=>q⟩
 | many is=>
  cases l with
  | tup ls=>
   have e:(if ls.length=is.length then aA (VL.setAll is ls s) else none)=aA d:=e;split at e
   ·cases e;obtain⟨p,g,rfl,a,f⟩:=h.tup_inv;exact⟨ls,g,c,rfl,f,by assumption,λp a=>a,λb Q q=>⟨p,g,rfl,SqT.of a,by rw[f.len];assumption,T4 (by rw[f.len];assumption) q⟩⟩
   ·cases e
  | _=>cases e
theorem X4:∀{is:List Nat}{vs:List V}{σ:Tf}{n:Nat},(∀i∈is,i<n)->(Yj is vs σ).drop n=σ.drop n
 | [],_,_,_,_=>rfl
 | _::_,[],_,_,_=>rfl
 | i::is,v::vs,σ,n,h=>by show(Yj is vs (σ.set i (aA v))).drop n=_;rw[X4 (λj a=>h j (aU _ a))];have:=h i a9;rw[List.drop_set,jw this]
theorem EnvIs.set{d:aG->Prop}{H:Hp}{s:Zy}{g:Tf}{i:Nat}{l:PV}{v:V}{b:List aG}(h:EnvIs K d H s g)(r:s.length=g.length)(m:Is K H l v b)(n:∀p∈b,¬d p):EnvIs K d H (s.set i (aA l)) (g.set i (aA v)):=⟨λj a e=>by
 rw[au] at e;by_cases c:i=j
 ·subst c;rw[jw rfl] at e;split at e
  ·cases e;exact⟨v,b,by rw[au,jw rfl,jw (by omega)],m,n⟩
  ·cases e
 ·rw[jx c] at e;obtain⟨w,f,o,k,q⟩:=h.is j a e;exact⟨w,f,by rw[au,jx c];exact o,k,q⟩⟩
theorem EnvIs.setAll{a:aG->Prop}{H:Hp}:∀{is:List Nat}{ls:List PV}{vs:List V}{fs:List aG}{s:Zy}{σ:Tf},EnvIs K a H s σ->s.length=σ.length->Iss K H ls vs fs->(∀p∈fs,¬a p)->EnvIs K a H (VL.setAll is ls s) (Yj is vs σ)
 | [],_,_,_,_,_,h,_,_,_=>by unfold VL.setAll Yj;exact h
 | i::is,[],vs,fs,s,σ,h,_,hi,_=>by simp only[Iss] at hi;rw[hi.1];exact h
 | i::is,l::ls,vs,fs,s,σ,h,hl,hi,n=>by obtain⟨x,r,f1,f2,rfl,c,d,rfl⟩:=hi.inv;show EnvIs K a H (VL.setAll is ls (s.set i (aA l))) (Yj is r (σ.set i (aA x)));exact EnvIs.setAll (h.set hl c λp b=>n p (bO _ b)) (by rw[cQ,cQ];exact hl) d λp b=>n p (aa _ b)
noncomputable def ZO(n:Nat)(ix:List Nat)(s:Zy):Zy:=aT n none++ix.map (λi=>(s[i]?).join)
noncomputable def Xt(T:Tgt)(ft:XT)(fe:XE)(s0:Zy):List PV->Option (List PV)
 | []=>aA []
 | l::r=>(YF T l s0).bind λs1=>(ft s1).bind λc=>if c=aC then(fe s1).bind λy=>(Xt T ft fe s0 r).map (y::·) else Xt T ft fe s0 r
noncomputable def Zs(n:Nat)(ix:List Nat)(fi:XL)(T:Tgt)(ft:XT)(fe:XE):XE:=λs=>(fi s).bind λls=>if ls.length<=10000 then(Xt T ft fe (ZO n ix s) ls).map .lst else none
noncomputable def ZH:XT:=λ_=>aA aC
theorem MN{d:Type}{o:Option (Option d)}{a:d}(h:o.join=aA a):o=aA (aA a):=by
 cases o with
 | none=>cases h
 | some b=>cases b with
  | none=>cases h
  | some c=>cases h;rfl
theorem EnvIs.comp{g:aG->Prop}{H:Hp}{s:Zy}{f:Tf}{n:Nat}{ix:List Nat}(h:EnvIs K g H s f):EnvIs K g H (ZO n ix s) (ZF n ix f):=⟨λi l e=>by
 unfold ZO at e;unfold ZF;by_cases d:i<n
 ·rw[aw (by simpa using d),b6,jw d] at e;cases e
 ·rw[bS (by simpa using d),cS,aR] at e;rw[bS (by simpa using d),cS,aR]
  cases q:ix[i-n]? with
  | none=>rw[q] at e;cases e
  | some j=>
   rw[q] at e;have e:=MN (ak e);obtain⟨v,k,a,b,c⟩:=h.is j l e;exact⟨v,k,by show aA ((f[j]?).join)=_;rw[a];rfl,b,c⟩⟩
theorem Px(n:Nat)(ix:List Nat)(s:Zy)(a:Tf):(ZO n ix s).length=(ZF n ix a).length:=by unfold ZO ZF;simp
theorem T5{T:Tgt}{b:XT}{a:XE}{e:Zy}{l:PV}{r f:List PV}(h:Xt T b a e (l::r)=aA f):∃s1 c,YF T l e=aA s1/\b s1=aA c/\((c=aC/\∃y d,a s1=aA y/\Xt T b a e r=aA d/\f=y::d)\/(c=aB/\Xt T b a e r=aA f)):=by
 obtain⟨s1,j,h⟩:=Zd h;obtain⟨c,g,h⟩:=Zd h;refine⟨s1,c,j,g,?_⟩
 cases c with
 | true=>
  obtain⟨y,i,h⟩:=Zd h;obtain⟨d,k,rfl⟩:=map_some h;exact .inl ⟨rfl,y,d,i,k,rfl⟩
 | false=>
  exact .inr ⟨rfl,h⟩
theorem T6{b:Type}{l:List b}{i:Nat}{a:b}{r:List b}(h:l.drop i=a::r):l[i]?=aA a/\l.drop (i+1)=r:=by
 constructor
 ·have:=congrArg (λz=>z[0]?) h;simpa [dR] using this
 ·rw[<-List.drop_drop,h];rfl
section
variable {n:Nat} {ix:List Nat} {fi:XL} {T:Tgt} {ft:XT} {fe:XE}
theorem J6(hT:∀i∈T.slots,i<n):∀G H Q,tF K (Zs n ix fi T ft fe) G H Q->TN n ix (iF K fi) (gT K T) (Pk K ft) (tF K fe) G H Q:=λG H Q ⟨u,s,L,U,env,e,k⟩=>by
 obtain⟨ls,e1,e⟩:=Zd e;split at e
 case isFalse=>cases e
 rename_i hlen;obtain⟨ys,e2,rfl⟩:=map_some e;refine⟨u,s,ls,U,env,e1,λJ H1 s1 g=>?_⟩;have S:=λp b=>Same.mut s1 (U p b)
 refine⟨λi m vs t=>m=ls.length-i/\i<=ls.length/\Same H1 t/\∃j Z6 w,ys=j++Z6/\j.length<=i/\Xt T ft fe (ZO n ix s) (ls.drop i)=aA Z6/\Iss K t j vs w/\∀p∈w,¬u p,
  ⟨ls.length,by simp,bz _,Same.refl H1,[],ys,[],rfl,aH _,e2,Iss.nil,λp b=>by simp at b⟩,?_⟩
 rintro i m vs t ⟨rfl,hi,d,j,Z6,w,rfl,B,M,N,O⟩;refine⟨by rw[N.len];exact cI (lt_size (by omega)),?_⟩
 cases q:ls.drop i with
 | nil=>
  have W:i=ls.length:=by have:=congrArg fF q;simp at this;omega
  subst W;rw[q] at M;cases M;refine .inl ⟨g.stop t (Same.ab d),λp b=>k _ _ (p::w) (s1.trans (d.trans (Same.new b _))) ?_ λa X z=>?_⟩
  ·rw[cg];exact Is.lst Zn (N.mono (Same.new b _))
  ·rcases af.mp X with rfl | X
   ·exact YN (Same.mut (s1.trans d) (U a z)) b
   ·exact O a X z
 | cons l r=>
  obtain⟨hl,hr⟩:=T6 q;have A:=(aW.mp hl).1;rw[q] at M;obtain⟨sb,c,eb,et,alt⟩:=T5 M
  refine .inr ⟨g.go t i l (Same.ab d) hl,λF Z=>Same H1 Z/\∃dn' rest' fp',j++Z6=dn'++rest'/\dn'.length<=i+1/\Xt T ft fe (ZO n ix s) (ls.drop (i+1))=aA rest'/\Iss K Z dn' F fp'/\∀p∈fp',¬u p,
   λF Z h'=>⟨ls.length-(i+1),by omega,rfl,A,h'.1,h'.2⟩,λx H2 y=>?_⟩
  obtain⟨s2,fx,Y,nx⟩:=g.yld t i l x H2 (Same.ab d) hl y;have C:=λp b=>Same.mut (d.trans s2) (S p b);obtain⟨bl,bv,bf,rfl,bi,_,I,D⟩:=OT Y eb;have E:EnvIs K u H2 (ZO n ix s) (ZF n ix G):=(env.mono (s1.trans (d.trans s2))).comp;have f:=E.setAll (is:=T.slots) (Px n ix s G) bi λp b=>(nx p (I p b)).2;refine D _ _ ⟨X4 hT,u,_,c,C,f,et,λH3 o=>?_⟩;have R:=λp b=>Same.mut o (C p b);rcases alt with⟨rfl,y',zs,ey,P,rfl⟩ | ⟨rfl,P⟩
  ·refine Ed ?_;refine⟨u,_,y',R,f.mono o,ey,λv H4 f4 s4 i4 n4=>?_⟩;refine⟨d.trans (s2.trans (o.trans s4)),j++[y'],zs,w++f4,by rw[eT];rfl,by rw[bZ];simp;exact B,by rw[hr];exact P,(N.mono (s2.trans (o.trans s4))).append (Iss.one i4),λp b=>?_⟩;rcases bj.mp b with h | h
   ·exact O p h
   ·exact n4 p h
  ·refine Ec ?_;exact⟨d.trans (s2.trans o),j,Z6,w,rfl,eZ B,by rw[hr];exact P,N.mono (s2.trans o),O⟩
theorem Qr(hT:∀i∈T.slots,i<n):∀M H Q,tM K (Zs n ix fi T ft fe) M H Q->TN n ix (iF K fi) (gT K T) (Pk K ft) (tM K fe) M H Q:=λM H Q ⟨s,L,env,e,k⟩=>by
 obtain⟨ls,e1,e⟩:=Zd e;split at e
 case isFalse=>cases e
 rename_i hlen;obtain⟨ys,e2,rfl⟩:=map_some e;have hd:∀(H:Hp) p,(λ_=>False:aG->Prop) p->W7 (H p):=λ_ _ z=>z.elim;refine⟨λ_=>False,s,ls,hd H,env,e1,λJ F s1 t=>?_⟩
 refine⟨λi m vs u=>m=ls.length-i/\i<=ls.length/\Same F u/\∃w Z6 A,ys=w++Z6/\w.length<=i/\Xt T ft fe (ZO n ix s) (ls.drop i)=aA Z6/\Iss K u w vs A/\A.Nodup/\∀p∈A,F p=none/\W7 (u p),
  ⟨ls.length,by simp,bz _,Same.refl F,[],ys,[],rfl,aH _,e2,Iss.nil,cY,λp d=>by simp at d⟩,?_⟩
 rintro i m vs u ⟨rfl,hi,g,w,Z6,A,rfl,D,O,R,Z,j⟩;refine⟨by rw[R.len];exact cI (lt_size (by omega)),?_⟩
 cases q:ls.drop i with
 | nil=>
  have W:i=ls.length:=by have:=congrArg fF q;simp at this;omega
  subst W;rw[q] at O;cases O;refine .inl ⟨t.stop u (Same.ab g),λp d=>k _ _ (p::A) (s1.trans (g.trans (Same.new d _))) ?_ (bM.mpr ⟨λz=>YN (j p z).2 d,Z⟩) λa B=>?_⟩
  ·rw[cg];exact Is.lst Zn (R.mono (Same.new d _))
  ·rcases af.mp B with rfl | B
   ·exact⟨Same.off (s1.trans g) d,by rw[Zn];exact cT⟩
   ·exact⟨Same.off s1 (j a B).1,Same.mut (Same.new d _) (j a B).2⟩
 | cons l r=>
  obtain⟨hl,hr⟩:=T6 q;have C:=(aW.mp hl).1;rw[q] at O;obtain⟨sb,c,eb,et,alt⟩:=T5 O
  refine .inr ⟨t.go u i l (Same.ab g) hl,λI P=>Same F P/\∃dn' rest' fp',w++Z6=dn'++rest'/\dn'.length<=i+1/\Xt T ft fe (ZO n ix s) (ls.drop (i+1))=aA rest'/\Iss K P dn' I fp'/\fp'.Nodup/\∀p∈fp',F p=none/\W7 (P p),
   λI P h'=>⟨ls.length-(i+1),by omega,rfl,C,h'.1,h'.2⟩,λx X y=>?_⟩
  obtain⟨s2,fx,Y,nx⟩:=t.yld u i l x X (Same.ab g) hl y;obtain⟨bl,bv,bf,rfl,bi,_,N,E⟩:=OT Y eb;have G:EnvIs K (λ_=>False) X (ZO n ix s) (ZF n ix M):=(env.mono (s1.trans (g.trans s2))).comp;have o:=G.setAll (is:=T.slots) (Px n ix s M) bi λp d=>(nx p (N p d)).2;refine E _ _ ⟨X4 hT,λ_=>False,_,c,hd X,o,et,λH3 f=>?_⟩;rcases alt with⟨rfl,y',zs,ey,S,rfl⟩ | ⟨rfl,S⟩
  ·refine Ed ?_;refine⟨_,y',o.mono f,ey,λv H4 f4 U i4 d4 n4=>?_⟩;refine⟨g.trans (s2.trans (f.trans U)),w++[y'],zs,A++f4,by rw[eT];rfl,by rw[bZ];simp;exact D,by rw[hr];exact S,(R.mono (s2.trans (f.trans U))).append (Iss.one i4),jC.mpr ⟨Z,d4,λa B b hb z=>?_⟩,λp d=>?_⟩
   ·subst z;exact YN (Same.mut (s2.trans f) (j a B).2) (n4 a hb).1
   ·rcases bj.mp d with h | h
    ·exact⟨(j p h).1,Same.mut (s2.trans (f.trans U)) (j p h).2⟩
    ·exact⟨Same.off (g.trans (s2.trans f)) (n4 p h).1,(n4 p h).2⟩
  ·refine Ec ?_;exact⟨g.trans (s2.trans f),w,Z6,A,rfl,eZ D,by rw[hr];exact S,R.mono (s2.trans f),Z,λp d=>⟨(j p d).1,Same.mut (s2.trans f) (j p d).2⟩⟩
end
noncomputable def FD(X:Cx)(jt:List ao)(f:XT):Prop:=OE X jt (Pk X.K f)
section
variable {X:Cx} {tg ju iter c:ao} {jt:List ao} {scope:cx} {pos:dj} {fi:XL} {T:Tgt} {ft:XT} {fe:XE}
theorem Yb:FD X [] ZH:=λb s a H Q I ⟨f,d,c,g,env,e,k⟩=>by cases e;exact JH b s a H Q I (k H (Same.refl H))
theorem NW(h:VT X c ft):FD X [c] ft:=JI h
theorem X5(own fr:List ah)(ix:List Nat)(b:X.calm=aC)(f:VI X tg iter fi)(S:Wu X.N X.env.scope scope own fr ix=aC)
  (h:∀cl C s H a,PG (Zt X (own++fr) scope cl C s H a) tg (gT X.K T)) (d:∀cl C s H a,FD (Zt X (own++fr) scope cl C s H a) jt ft) (g:∀cl C s H a,VE (Zt X (own++fr) scope cl C s H a) ju fe)
  (c:∀i∈T.slots,i<own.length:=by decide) (e:∀x,bQ iter X.env x=pure x:=by intro _;rfl):VE X (.ListComp ju [⟨tg,iter,jt,0⟩] scope pos) (Zs own.length ix fi T ft fe):=
 PE.imp (Pg own fr ix b f S h (λcl C s H a=>(show OE (Zt X (own++fr) scope cl C s H a) jt (Pk X.K ft) from d cl C s H a)) (λcl C s H a=>(show PE (Zt X (own++fr) scope cl C s H a) ju (tF X.K fe) from g cl C s H a)) e) (J6 c)
theorem WU(own fr:List ah)(ix:List Nat)(b:X.calm=aC)(f:VI X tg iter fi)(S:Wu X.N X.env.scope scope own fr ix=aC)
  (h:∀cl C s H a,PG (Zt X (own++fr) scope cl C s H a) tg (gT X.K T)) (d:∀cl C s H a,FD (Zt X (own++fr) scope cl C s H a) jt ft) (g:∀cl C s H a,VM (Zt X (own++fr) scope cl C s H a) ju fe)
  (c:∀i∈T.slots,i<own.length:=by decide) (e:∀x,bQ iter X.env x=pure x:=by intro _;rfl):VM X (.ListComp ju [⟨tg,iter,jt,0⟩] scope pos) (Zs own.length ix fi T ft fe):=
 PE.imp (Pg own fr ix b f S h (λcl C s H a=>(show OE (Zt X (own++fr) scope cl C s H a) jt (Pk X.K ft) from d cl C s H a)) (λcl C s H a=>(show PE (Zt X (own++fr) scope cl C s H a) ju (tM X.K fe) from g cl C s H a)) e) (Qr c)
end
noncomputable def XA(xs:List PV)(lo hi:Option Int):List PV:=(xs.drop (HT.sIx xs.length 0 lo)).take (HT.sIx xs.length xs.length hi-HT.sIx xs.length 0 lo)
theorem Iss.cut{H:Hp}{l:List PV}{f:List V}{g:List aG}(lo e:Option Int)(h:Iss K H l f g):∃f1,Iss K H (XA l lo e) (MC f lo e) f1/\∀p∈f1,p∈g:=by unfold XA MC;rw[h.len];obtain⟨f1,a,b⟩:=h.drop (HT.sIx l.length 0 lo);obtain⟨f2,c,d⟩:=a.take (HT.sIx l.length l.length e-HT.sIx l.length 0 lo);exact⟨f2,c,λp i=>b p (d p i)⟩
abbrev XO:=Zy->Option (Option Int)
noncomputable def Ce(K:aD)(f:XO):TO:=λσ H Q=>∃(Rm:aG->Prop) (s:Zy) (i:Option Int),(∀p,Rm p->W7 (H p))/\EnvIs K Rm H s σ/\f s=aA i/\∀H',Same H H'->Q i H'
noncomputable def VO(X:Cx)(e:Option ao)(f:XO):Prop:=PO X e (Ce X.K f)
noncomputable def OU:XO:=λ_=>aA none
noncomputable def U5(f:XE):XO:=λs=>match f s with | some (.int i)=>aA (aA i) | _=>none
noncomputable def VP(x:PV)(lo hi:Option Int):Option PV:=match x with | .lst l=>aA (.lst (XA l lo hi)) | .cst l=>aA (.lst (XA l lo hi)) | _=>none
noncomputable def Qs(x:PV)(lo hi:Option Int):Option PV:=match x with | .tup l=>if HT.sIx l.length 0 lo=0/\HT.sIx l.length l.length hi=l.length then none else aA (.tup (XA l lo hi)) | _=>none
noncomputable def Rc(g:PV->Option Int->Option Int->Option PV)(a:XE)(lo hi:XO):XE:=λs=>(a s).bind λx=>(lo s).bind λl=>(hi s).bind λu=>g x l u
section
variable {X:Cx} {e:ao} {lo hi:Option ao} {p2 pos:dj} {fa:XE} {fl fh:XO}
theorem Xu:VO X none OU:=λb s a H Q I ⟨d,c,i,f,env,e,k⟩=>by cases e;exact JC b s a H Q I (k H (Same.refl H))
theorem YO{e:ao}(h:VE X e fa):VO X (aA e) (U5 fa):=λf s l H Q I ⟨g,a,i,c,env,e,k⟩=>by
 unfold U5 at e;split at e
 ·cases e;rename_i j d;exact JD h f s l H Q I ⟨g,a,.int j,c,env,d,λv m o b i n=>⟨j,i.int_inv.1,k m b⟩⟩
 ·cases e
theorem Xe(B:VE X e fa)(C:VO X lo fl)(A:VO X m fh):VE X (.Subscript e (.Slice lo m none p2) pos) (Rc VP fa fl fh):=PE.imp (Pb JF B C A) λL H Q ⟨o,s,l,j,env,e,k⟩=>by
 obtain⟨x,D,e⟩:=Zd e;obtain⟨a,w,e⟩:=Zd e;obtain⟨b,y,e⟩:=Zd e;refine⟨o,s,x,j,env,D,λv F G s1 t u=>⟨o,s,a,λp h=>Same.mut s1 (j p h),env.mono s1,w,λJ s2=>⟨o,s,b,λp h=>Same.mut (s1.trans s2) (j p h),env.mono (s1.trans s2),y,λE i=>?_⟩⟩⟩
 cases x with
 | lst l=>
  cases e;obtain⟨p,n,I,rfl,h,m,rfl⟩:=(t.mono (s2.trans i)).lst_inv;obtain⟨f1,c,d⟩:=m.cut a b;refine⟨p,n,rfl,SqL.of h,λq g=>k _ _ (q::f1) (s1.trans (s2.trans (i.trans (Same.new g _)))) (Is.lst Zn (c.mono (Same.new g _))) λr f z=>?_⟩;rcases af.mp f with rfl | f
  ·exact YN (Same.mut (s1.trans (s2.trans i)) (j r z)) g
  ·exact u r (aU _ (d r f)) z
 | cst l=>
  cases e;obtain⟨p,n,rfl,h,m⟩:=(t.mono (s2.trans i)).cst_inv;obtain⟨f1,c,d⟩:=m.cut a b;refine⟨p,n,rfl,h.sq,λq g=>k _ _ (q::f1) (s1.trans (s2.trans (i.trans (Same.new g _)))) (Is.lst Zn (c.mono (Same.new g _))) λr f z=>?_⟩;rcases af.mp f with rfl | f
  ·exact YN (Same.mut (s1.trans (s2.trans i)) (j r z)) g
  ·exact u r (d r f) z
 | _=>cases e
theorem Uw(B:VE X e fa)(C:VO X lo fl)(z:VO X g fh):VE X (.Subscript e (.Slice lo g none p2) pos) (Rc Qs fa fl fh):=PE.imp (Pb Gw B C z) λJ H Q ⟨j,s,l,h,env,e,k⟩=>by
 obtain⟨x,D,e⟩:=Zd e;obtain⟨a,o,e⟩:=Zd e;obtain⟨b,t,e⟩:=Zd e;refine⟨j,s,x,h,env,D,λv F G s1 y A=>⟨j,s,a,λp f=>Same.mut s1 (h p f),env.mono s1,o,λI s2=>⟨j,s,b,λp f=>Same.mut (s1.trans s2) (h p f),env.mono (s1.trans s2),t,λE m=>?_⟩⟩⟩
 cases x with
 | tup l=>
  unfold Qs at e;simp only at e;split at e
  ·cases e
  ·rename_i i;cases e;obtain⟨p,u,rfl,f,g⟩:=(y.mono (s2.trans m)).tup_inv;obtain⟨f1,c,d⟩:=g.cut a b;refine⟨p,u,rfl,SqT.of f,by rw[g.len];exact i,λq n=>k _ _ f1 (s1.trans (s2.trans (m.trans (Same.new n _)))) (Is.tup Zn (c.mono (Same.new n _))) λr w=>A r (d r w)⟩
 | _=>cases e
end
end VL
namespace VL
open PySem PySem.Spec PyProof.Rows L2
variable {K:aD}
structure Rel(K:aD)(O:List Nat)(H0:Hp)(fps:Nat->List aG)(s:Zy)(σ:Tf)(H:Hp):Prop where
 same:Same H0 H
 len:s.length=σ.length
 is:∀(i:Nat) l,s[i]?=aA (aA l)->∃v,σ[i]?=aA (aA v)/\Is K H l v (fps i)
 emp:∀(i:Nat),(∀l,s[i]?≠aA (aA l))->fps i=[]
 nd:∀i∈O,(fps i).Nodup
 own:∀i∈O,∀p∈fps i,H0 p=none/\W7 (H p)
 dis:∀i∈O,∀j,j≠i->∀p∈fps i,p∉fps j
noncomputable def Ow(O:List Nat)(fps:Nat->List aG)(p:aG):Prop:=∃i∈O,p∈fps i
noncomputable def Yn(O:List Nat)(s:Zy):Zy:=O.foldl (λs i=>s.set i none) s
theorem T7:∀{O:List Nat}{s:Zy}{i:Nat}{l:PV},(Yn O s)[i]?=aA (aA l)->i∉O/\s[i]?=aA (aA l)
 | [],s,i,l,h=>⟨by simp,h⟩
 | o::O,s,i,l,h=>by
  obtain⟨b,a⟩:=T7 (O:=O) (s:=s.set o none) h;rw[au] at a;by_cases e:o=i
  ·rw[jw e] at a;split at a<;>cases a
  ·rw[jx e] at a;exact⟨by simp only[af,not_or];exact⟨λz=>e z.symm,b⟩,a⟩
section
variable {O:List Nat} {H0 H H':Hp} {fps:Nat->List aG} {s:Zy} {σ:Tf}
theorem Rel.at(r:Rel K O H0 fps s σ H)(i:Nat){p:aG}(c:p∈fps i):∃l v,s[i]?=aA (aA l)/\σ[i]?=aA (aA v)/\Is K H l v (fps i):=by
 cases q:s[i]? with
 | none=>rw[r.emp i (λl z=>by rw[q] at z;cases z)] at c;simp at c
 | some o=>cases o with
  | none=>rw[r.emp i (λl z=>by rw[q] at z;cases z)] at c;simp at c
  | some l=>
   obtain⟨v,a,b⟩:=r.is i l q;exact⟨l,v,rfl,a,b⟩
theorem Rel.dom(r:Rel K O H0 fps s σ H)(i:Nat):∀p∈fps i,H p≠none:=λp a=>by obtain⟨l,v,_,_,b⟩:=r.at i a;exact Is.dom _ _ _ b p a
theorem Rel.env(r:Rel K O H0 fps s σ H):EnvIs K (λ_=>False) H s σ:=⟨λi l e=>by
 obtain⟨v,a,b⟩:=r.is i l e;exact⟨v,_,a,b,λ_ _ z=>z⟩⟩
theorem Rel.envO(r:Rel K O H0 fps s σ H):EnvIs K (Ow O fps) H (Yn O s) σ:=⟨λi l e=>by
 obtain⟨n,e⟩:=T7 e;obtain⟨v,a,b⟩:=r.is i l e;exact⟨v,_,a,b,λp f ⟨j,d,c⟩=>r.dis j d i (λz=>n (z▸d)) p c f⟩⟩
theorem Rel.owMut(r:Rel K O H0 fps s σ H):∀p,Ow O fps p->W7 (H p):=λp ⟨i,a,b⟩=>(r.own i a p b).2
theorem Rel.grow(r:Rel K O H0 fps s σ H)(e:Same H H'):Rel K O H0 fps s σ H':=
 ⟨r.same.trans e,r.len,λi l q=>by obtain⟨v,a,b⟩:=r.is i l q;exact⟨v,a,b.mono e⟩,r.emp,r.nd,λi c p d=>⟨(r.own i c p d).1,Same.mut e (r.own i c p d).2⟩,r.dis⟩
theorem Rel.less{F:Hp}(r:Rel K O F fps s σ H)(e:Same H0 F):Rel K O H0 fps s σ H:=
 ⟨e.trans r.same,r.len,r.is,r.emp,r.nd,λi a p b=>⟨Same.off e (r.own i a p b).1,(r.own i a p b).2⟩,r.dis⟩
open Classical in
noncomputable def Wq(H:Hp)(Rm:aG->Prop):Hp:=λb=>if Rm b then none else H b
theorem RK{a:aG->Prop}:Same (Wq H a) H:=λb o h=>by
 unfold Wq at h;split at h
 ·cases h
 ·exact h
theorem Rel.frame(r:Rel K O H0 fps s σ H):Rel K O (Wq H (Ow O fps)) fps s σ H:=
 ⟨RK,r.len,r.is,r.emp,r.nd,λi a p b=>⟨by unfold Wq;rw[jw ⟨i,a,b⟩],(r.own i a p b).2⟩,r.dis⟩
theorem Rel.under(r:Rel K O H0 fps s σ H):Same H0 (Wq H (Ow O fps)):=λb o h=>by unfold Wq;rw[jx (λ⟨i,a,c⟩=>by rw[(r.own i a b c).1] at h;cases h)];exact r.same b o h
open Classical in
noncomputable def VQ(fps:Nat->List aG)(n:Nat)(i:Nat)(fp:List aG):Nat->List aG:=λj=>if j=i/\i<n then fp else fps j
theorem ZE{n i j:Nat}{a:List aG}(h:j≠i):VQ fps n i a j=fps j:=by unfold VQ;rw[jx (λz=>h z.1)]
theorem Qt{n i:Nat}{a:List aG}(h:i<n):VQ fps n i a i=a:=by unfold VQ;rw[jw ⟨rfl,h⟩]
theorem Rel.set(r:Rel K O H0 fps s σ H){i:Nat}{l:PV}{v:V}{f:List aG}(x:Is K H l v f)(q:i∈O->f.Nodup/\∀p∈f,H0 p=none/\W7 (H p))
  (o:∀j,j≠i->(j∈O\/i∈O)->∀p∈f,p∉fps j):Rel K O H0 (VQ fps s.length i f) (s.set i (aA l)) (σ.set i (aA v)) H:=by
 by_cases c:i<s.length
 ·have g:VQ fps s.length i f i=f:=Qt c;refine⟨r.same,by rw[cQ,cQ];exact r.len,λj a e=>?_,λj h=>?_,λj b=>?_,λj b p d=>?_,λj b k n p d=>?_⟩
  ·rw[au] at e;by_cases b:i=j
   ·subst b;rw[jw rfl,jw c] at e;cases e;rw[g];exact⟨v,by rw[au,jw rfl,jw (by rw[<-r.len];exact c)],x⟩
   ·rw[jx b] at e;obtain⟨w,y,u⟩:=r.is j a e;rw[ZE (ar b)];exact⟨w,by rw[au,jx b];exact y,u⟩
  ·by_cases b:i=j
   ·subst b;exact absurd (by rw[au,jw rfl,jw c]) (h l)
   ·rw[ZE (ar b)];exact r.emp j λa z=>h a (by rw[au,jx b];exact z)
  ·by_cases e:j=i
   ·subst e;rw[g];exact(q b).1
   ·rw[ZE e];exact r.nd j b
  ·by_cases e:j=i
   ·subst e;rw[g] at d;exact(q b).2 p d
   ·rw[ZE e] at d;exact r.own j b p d
  ·by_cases e:j=i
   ·subst e;rw[g] at d;rw[ZE n];exact o k n (.inr b) p d
   ·rw[ZE e] at d;by_cases m:k=i
    ·subst m;rw[g];exact λz=>o j e (.inl b) p z d
    ·rw[ZE m];exact r.dis j b k n p d
 ·have g:s.set i (aA l)=s:=gM (by omega);have m:σ.set i (aA v)=σ:=gM (by rw[<-r.len];omega);have t:VQ fps s.length i f=fps:=by funext j;unfold VQ;rw[jx (λz=>c z.2)]
  rw[g,m,t];exact r
theorem Rel.mutate(r:Rel K O H0 fps s σ H){i:Nat}(t:i∈O){p:aG}(m:p∈fps i){o:HO}{l':PV}{v:V}{fp':List aG}(J:σ[i]?=aA (aA v))(f:i<s.length)
  (I:Is K (upd H p o) l' v fp') (L:fp'.Nodup) (F:∀q∈fp',H0 q=none/\W7 (upd H p o q)) (A:∀j,j≠i->∀q∈fp',q∉fps j) (B:W7 (aA o)):Rel K O H0 (VQ fps s.length i fp') (s.set i (aA l')) σ (upd H p o):=by
 have g:=(r.own i t p m).2;have M:=(r.own i t p m).1;have l:VQ fps s.length i fp' i=fp':=Qt f
 have tk:JR H (upd H p o):=⟨λb C h=>by
  rw[upd_ne (λz=>by rw[z] at h;rw[h] at g;exact g)];exact h,λb o C h=>by
  rw[upd_ne (λz=>by rw[z] at h;rw[h] at g;exact g)];exact h,λb o x h=>by
  rw[upd_ne (λz=>by rw[z] at h;rw[h] at g;exact g)];exact h⟩
 refine⟨λb u h=>by rw[upd_ne (Zm h M)];exact r.same b u h,by rw[cQ];exact r.len,λj a e=>?_,λj h=>?_,λj c=>?_,λj c q d=>?_,λj c k n q d=>?_⟩
 ·rw[au] at e;by_cases c:i=j
  ·subst c;rw[jw rfl,jw f] at e;cases e;rw[l];exact⟨v,J,I⟩
  ·rw[jx c] at e;obtain⟨w,G,E⟩:=r.is j a e;rw[ZE (ar c)];refine⟨w,G,Is.tr tk _ _ _ (λq d=>RdK.of λu D=>?_) E⟩;have ne:q≠p:=λz=>r.dis i t j (ar c) p m (z▸d);rw[upd_ne ne];exact D
 ·by_cases c:i=j
  ·subst c;exact absurd (by rw[au,jw rfl,jw f]) (h l')
  ·rw[ZE (ar c)];exact r.emp j λa z=>h a (by rw[au,jx c];exact z)
 ·by_cases e:j=i
  ·subst e;rw[l];exact L
  ·rw[ZE e];exact r.nd j c
 ·by_cases e:j=i
  ·subst e;rw[l] at d;exact F q d
  ·rw[ZE e] at d;refine⟨(r.own j c q d).1,?_⟩;have ne:q≠p:=λz=>r.dis j c i (ar e) q d (z▸m);rw[upd_ne ne];exact(r.own j c q d).2
 ·by_cases e:j=i
  ·subst e;rw[l] at d;rw[ZE n];exact A k n q d
  ·rw[ZE e] at d;by_cases y:k=i
   ·subst y;rw[l];exact λz=>A j e q z d
   ·rw[ZE y];exact r.dis j c k n q d
end
noncomputable def Kep(a b:List aG):Prop:=a=b\/a=[]
theorem Kep.refl(a:List aG):Kep a a:=.inl rfl
theorem Kep.trans{a b c:List aG}(h:Kep a b)(k:Kep b c):Kep a c:=by
 rcases h with rfl | h
 ·exact k
 ·exact .inr h
inductive OV where
 | nx (s:Zy) | rt (l:PV) | bk (s:Zy) | ct (s:Zy)
abbrev XS:=Zy->Option OV
noncomputable def OutOk(K:aD)(O W:List Nat)(H0:Hp)(fps:Nat->List aG)(σ:Tf)(D:Yv):OV->Prop
 | .nx s'=>∀js σ' H',Rel K O H0 js s' σ' H'->(∀j,j∉W->σ'[j]?=σ[j]?/\Kep (js j) (fps j))->D.nx σ' H'
 | .bk s'=>∀js σ' H',Rel K O H0 js s' σ' H'->(∀j,j∉W->σ'[j]?=σ[j]?/\Kep (js j) (fps j))->D.bk σ' H'
 | .ct s'=>∀js σ' H',Rel K O H0 js s' σ' H'->(∀j,j∉W->σ'[j]?=σ[j]?/\Kep (js j) (fps j))->D.ct σ' H'
 | .rt l=>∀v fp H',Same H0 H'->Is K H' l v fp->fp.Nodup->(∀p∈fp,H0 p=none/\W7 (H' p))->D.rt v H'
noncomputable def FE(K:aD)(O W:List Nat)(f:XS):TS:=λD σ H=>∃H0 fps s out,Rel K O H0 fps s σ H/\f s=aA out/\OutOk K O W H0 fps σ D out
noncomputable def VS(X:Cx)(O W:List Nat)(st:ba)(f:XS):Prop:=PS X st (FE X.K O W f)
noncomputable def Ln(X:Cx)(O W:List Nat)(st:List ba)(f:XS):Prop:=PSs X st (FE X.K O W f)
theorem OutOk.same{O W m:List Nat}{o:Hp}{fps c:Nat->List aG}{n g:Tf}{D:Yv}{d:OV}(h:OutOk K O m o fps n D d)(k:∀j,j∉m->g[j]?=n[j]?/\Kep (c j) (fps j))(e:∀j,j∉m->j∉W):OutOk K O W o c g D d:=by
 cases d with
 | nx s'=>exact λf b i r q=>h f b i r λj a=>⟨(q j (e j a)).1.trans (k j a).1,(q j (e j a)).2.trans (k j a).2⟩
 | bk s'=>exact λf b i r q=>h f b i r λj a=>⟨(q j (e j a)).1.trans (k j a).1,(q j (e j a)).2.trans (k j a).2⟩
 | ct s'=>exact λf b i r q=>h f b i r λj a=>⟨(q j (e j a)).1.trans (k j a).1,(q j (e j a)).2.trans (k j a).2⟩
 | rt l=>exact h
theorem OutOk.less{O W:List Nat}{k F:Hp}{fps:Nat->List aG}{g:Tf}{D:Yv}{b:OV}(h:OutOk K O W k fps g D b)(e:Same k F):OutOk K O W F fps g D b:=by
 cases b with
 | nx s'=>exact λf a c r q=>h f a c (r.less e) q
 | bk s'=>exact λf a c r q=>h f a c (r.less e) q
 | ct s'=>exact λf a c r q=>h f a c (r.less e) q
 | rt l=>exact λv o c m i d n=>h v o c (e.trans m) i d λp j=>⟨Same.off e (n p j).1,(n p j).2⟩
noncomputable def YC:XS:=λs=>aA (.nx s)
noncomputable def Zr(f g:XS):XS:=λs=>(f s).bind λo=>match o with | .nx s'=>g s' | r=>aA r
noncomputable def RL(c:XT)(f g:XS):XS:=λs=>(c s).bind λk=>if k=aC then f s else g s
noncomputable def ZV(f:XE):XS:=λs=>(f s).map .rt
noncomputable def ZA(i:Nat)(f:XE):XS:=λs=>(f s).map λl=>.nx (s.set i (aA l))
section
variable {X:Cx} {O W W1 W2:List Nat} {st:ba} {Z6:List ba} {f g:XS} {pos:dj}
theorem PS.imp{t t':TS}(h:PS X st t)(i:∀D a H,t' D a H->t D a H):PS X st t':=λb s a H D I q=>h b s a H D I (i D a H q)
theorem PSs.imp{t t':TS}(h:PSs X Z6 t)(i:∀D a H,t' D a H->t D a H):PSs X Z6 t':=λb s a H D I q=>h b s a H D I (i D a H q)
theorem L5:∀D a H,FE K O W YC D a H->Hg D a H:=λD a H ⟨c,fps,s,b,r,e,k⟩=>by cases e;exact k fps a H r λj _=>⟨rfl,Kep.refl _⟩
theorem Ys:Ln X O [] [] YC:=PSs.imp Jp L5
theorem Zi(h:VS X O W st f):Ln X O W [st] f:=NI h
theorem Zf(x:VS X O W1 st f)(v:Ln X O W2 Z6 g):Ln X O (W1++W2) (st::Z6) (Zr f g):=PSs.imp (Q7 x v) λD C H ⟨q,fps,s,n,r,e,k⟩=>by
 obtain⟨t,y,e⟩:=Zd e;have a:∀j,j∉W1++W2->j∉W1:=λj b z=>b (bO _ z);have d:∀j,j∉W1++W2->j∉W2:=λj b z=>b (aa _ z);refine⟨q,fps,s,t,r,y,?_⟩
 cases t with
 | nx s1=>
  intro h A B w u;exact⟨q,h,s1,n,w,e,k.same (λj b=>u j (a j b)) d⟩
 | bk s1=>cases e;exact λi c p m o=>k i c p m λj b=>o j (a j b)
 | ct s1=>cases e;exact λi c p m o=>k i c p m λj b=>o j (a j b)
 | rt l=>cases e;exact k
theorem Wm{c:ao}{a b:List ba}{m:XT}(o:VT X c m)(p:Ln X O W1 a f)(t:Ln X O W2 b g):VS X O (W1++W2) (.If c a b pos) (RL m f g):=PS.imp (FQ o p t) λD v H ⟨n,fps,s,i,r,e,k⟩=>by
 obtain⟨c,q,e⟩:=Zd e;have h:∀j,j∉W1++W2->j∉W1:=λj l z=>l (bO _ z);have d:∀j,j∉W1++W2->j∉W2:=λj l z=>l (aa _ z);refine⟨λ_=>False,s,c,λ_ z=>z.elim,r.env,q,λu s1=>?_⟩
 cases c with
 | true=>
  exact⟨n,fps,s,i,r.grow s1,e,k.same (λj _=>⟨rfl,Kep.refl _⟩) h⟩
 | false=>
  exact⟨n,fps,s,i,r.grow s1,e,k.same (λj _=>⟨rfl,Kep.refl _⟩) d⟩
theorem Zu{e:ao}{a:XE}(c:VM X e a):VS X O [] (.Return (aA e) pos) (ZV a):=PS.imp (Lx c) λD o H ⟨q,fps,s,j,r,e,k⟩=>by obtain⟨l,h,rfl⟩:=map_some e;exact⟨s,l,r.env,h,λv m g f i d n=>k v g m (r.same.trans f) i d λp b=>⟨Same.off r.same (n p b).1,(n p b).2⟩⟩
theorem Qu{e:ao}{i:Nat}(f:PE X e (Q6 i))(c:i∈O:=by decide):VS X O [] (.Return (aA e) pos) (ZV (Za i)):=PS.imp (Lx f) λD h H ⟨j,fps,s,g,r,e,k⟩=>by obtain⟨l,d,rfl⟩:=map_some e;obtain⟨v,a,b⟩:=r.is i l (RF d);exact⟨v,a,k v _ H r.same b (r.nd i c) (r.own i c)⟩
theorem NX{t:TE}{i:Nat}{c:XE}(f:∀a H Q,tM K c a H Q->t a H Q):∀D a H,FE K O [i] (ZA i c) D a H->Oo t (VB i) D a H:=λD a H ⟨w,fps,s,o,r,e,k⟩=>by
 obtain⟨l,m,rfl⟩:=map_some e;refine f a H _ ⟨s,l,r.env,m,λv q u g is d n=>?_⟩;refine k _ _ q ((r.grow g).set is (λ_=>⟨d,λp b=>⟨Same.off r.same (n p b).1,(n p b).2⟩⟩) λj _ _ p b z=>r.dom j p z (n p b).1) λj h=>?_;have:j≠i:=by simpa using h
 exact⟨by rw[au,jx (ar this)],.inl (ZE this)⟩
theorem GY{i:Nat}{x:ah}{e:ao}{b:XE}{a:dj}(k:X.N.Nodup)(f:X.N[i]?=aA x)(c:Jk X.env.scope x)(j:VM X e b)(d:fT e (aA (.Name x a)) pos.line X.env=pure aB:=by rfl)(g:X.fn x=aC\/X.env.scope.names.lookup x=aA .local:=by first | exact .inl rfl | exact .inr rfl | assumption) :
  VS X O [i] (.Assign [.Name x a] e pos) (ZA i b):=PS.imp (Ge k f c j d g) (NX λ_ _ _ h=>h)
end
noncomputable def Wr(T:Tgt)(fb:XS):List PV->Zy->Option OV
 | [],s=>aA (.nx s)
 | l::r,s=>(YF T l s).bind λs1=>(fb s1).bind λo=>match o with | .nx s2=>Wr T fb r s2 | .ct s2=>Wr T fb r s2 | .bk s2=>aA (.nx s2) | .rt v=>aA (.rt v)
noncomputable def Y7(O:List Nat)(fi:XL)(T:Tgt)(fb:XS):XS:=λs=>(fi (Yn O s)).bind λls=>Wr T fb ls s
theorem Rel.setAll{O:List Nat}{m H:Hp}:∀{is:List Nat}{ls:List PV}{vs:List V}{fs:List aG}{fps:Nat->List aG}{s:Zy}{σ:Tf},Rel K O m fps s σ H->Iss K H ls vs fs->ls.length=is.length->(∀i∈is,i∉O)->(∀i∈O,∀p∈fps i,p∉fs)->
  ∃h,Rel K O m h (VL.setAll is ls s) (Yj is vs σ) H/\∀j,j∉is->(Yj is vs σ)[j]?=σ[j]?/\Kep (h j) (fps j)
 | [],ls,vs,fs,fps,s,σ,r,_,_,_,_=>⟨fps,by unfold VL.setAll Yj;exact r,λj _=>⟨by unfold Yj;rfl,Kep.refl _⟩⟩
 | i::is,[],vs,fs,fps,s,σ,r,_,hl,_,_=>by simp at hl
 | i::is,l::ls,vs,fs,fps,s,σ,r,hi,hl,hO,hd=>by
  obtain⟨x,v,f1,f2,rfl,t,o,rfl⟩:=hi.inv;have g:=hO i a9
  have q:=r.set (i:=i) t (λz=>absurd z g) λj f c p k z=>by
   rcases c with c | c
   ·exact hd j c p z (bO _ k)
   ·exact absurd c g
  obtain⟨h,n,u⟩:=Rel.setAll (is:=is) q o (by simpa using hl) (λj f=>hO j (aU _ f)) λj f p k z=>by have d:j≠i:=λe=>g (by rw[<-e];exact f);rw[ZE d] at k;exact hd j f p k (aa _ z)
  refine⟨h,n,λj f=>?_⟩;have d:j≠i:=λe=>f (e▸a9);obtain⟨a,b⟩:=u j (λz=>f (aU _ z));exact⟨a.trans (by rw[au,jx (ar d)]),b.trans (.inl (ZE d))⟩
section
variable {O W:List Nat} {T:Tgt} {fb:XS}
theorem L6{C:Hp}{fps:Nat->List aG}{s:Zy}{H:Tf}{D:Yv}{J:It}{ls:List PV}{u:OV}(r:Rel K O (Wq C (Ow O fps)) fps s H C)(E:DC K (Ow O fps) C J ls)(e:Wr T fb ls s=aA u)(hT:∀i∈T.slots,i∉O)
  (k:OutOk K O (T.slots++W) (Wq C (Ow O fps)) fps H D u):Dz (gT K T) (FE K O W fb) D H J C:=by
 have w:∀j,j∉T.slots++W->j∉T.slots:=λj a z=>a (bO _ z);have d:∀j,j∉T.slots++W->j∉W:=λj a z=>a (aa _ z)
 refine⟨λi m g I=>m=ls.length-i/\i<=ls.length/\∃S X,Rel K O (Wq C (Ow O fps)) S X g I/\Wr T fb (ls.drop i) X=aA u/\∀j,j∉T.slots++W->g[j]?=H[j]?/\Kep (S j) (fps j),
  ⟨ls.length,by simp,bz _,fps,s,r,e,λj _=>⟨rfl,Kep.refl _⟩⟩,?_⟩
 rintro i m g I ⟨rfl,hi,S,X,U,t,q'⟩;have ab:=λb o h n=>U.same b o (by unfold Wq;rw[jx n];exact h)
 cases q:ls.drop i with
 | nil=>
  have Y:i=ls.length:=by have:=congrArg fF q;simp at this;omega
  subst Y;rw[q] at t;cases t;exact .inl ⟨E.stop I ab,k S g I U q'⟩
 | cons l rr=>
  obtain⟨Z,hr⟩:=T6 q;have L:=(aW.mp Z).1;rw[q] at t;obtain⟨sb,eb,t⟩:=Zd t;obtain⟨o,eo,t⟩:=Zd t
  refine .inr ⟨E.go I i l ab Z,λG R=>∃fps2 s2,Rel K O (Wq C (Ow O fps)) fps2 s2 G R/\Wr T fb (ls.drop (i+1)) s2=aA u/\∀j,j∉T.slots++W->G[j]?=H[j]?/\Kep (fps2 j) (fps j),
   λG R h2=>⟨ls.length-(i+1),by omega,rfl,L,h2⟩,λx R y=>?_⟩
  obtain⟨s2,fx,ix,nx⟩:=E.yld I i l x R ab Z y;obtain⟨bl,bv,bf,rfl,bi,P,Q,N⟩:=OT ix eb;obtain⟨A,r3,q3⟩:=Rel.setAll (U.grow s2) bi P hT λj a p hp z=>by obtain⟨n1,n2⟩:=nx p (Q p z);have:=(U.own j a p hp).1;unfold Wq at this;rw[jx n2] at this;exact n1 this
  refine N _ _ ⟨_,A,_,o,r3,eo,?_⟩;have c:∀j,j∉T.slots++W->(Yj T.slots bv g)[j]?=H[j]?/\Kep (A j) (fps j):=λj a=>⟨(q3 j (w j a)).1.trans (q' j a).1,(q3 j (w j a)).2.trans (q' j a).2⟩
  cases o with
  | nx s4=>exact λf F H4 M B=>⟨f,s4,M,by rw[hr];exact t,λj a=>⟨(B j (d j a)).1.trans (c j a).1,(B j (d j a)).2.trans (c j a).2⟩⟩
  | ct s4=>exact λf F H4 M B=>⟨f,s4,M,by rw[hr];exact t,λj a=>⟨(B j (d j a)).1.trans (c j a).1,(B j (d j a)).2.trans (c j a).2⟩⟩
  | bk s4=>
   cases t;exact λf F H4 M B=>k f F H4 M λj a=>⟨(B j (d j a)).1.trans (c j a).1,(B j (d j a)).2.trans (c j a).2⟩
  | rt v=>
   cases t;exact k
end
section
variable {X:Cx} {O W:List Nat} {tg iter:ao} {body:List ba} {fi:XL} {T:Tgt} {fb:XS} {pos:dj}
theorem GZ(h:iK (model X.prog X.w) X.A X.env X.xe)(d:X.calm=aC)(f:VI X tg iter fi)(m:PG X tg (gT X.K T))(l:Ln X O W body fb)(b:∀i∈T.slots,i∉O:=by decide)
  (c:∀x,bQ iter X.env x=pure x:=by intro _;rfl):VS X O (T.slots++W) (.For tg iter body [] pos) (Y7 O fi T fb):=PS.imp (Gi h d f m l c) λD o H ⟨p,fps,s,j,r,e,k⟩=>by
 obtain⟨ls,g,e⟩:=Zd e;refine⟨Ow O fps,Yn O s,ls,r.owMut,r.envO,g,λJ n s1 a=>?_⟩;exact L6 (r.grow s1).frame a e b (k.less (r.grow s1).under)
end
noncomputable def Yo(c:XT)(fb:XS):Nat->Zy->Option OV
 | 0,_=>none
 | n+1,s=>(c s).bind λk=>if k=aC then(fb s).bind λo=>match o with | .nx s2=>Yo c fb n s2 | .ct s2=>Yo c fb n s2 | .bk s2=>aA (.nx s2) | .rt v=>aA (.rt v) else aA (.nx s)
theorem Wy{c:XT}{fb:XS}:∀{n:Nat}{s:Zy}{o:OV},Yo c fb n s=aA o->Yo c fb (n+1) s=aA o
 | 0,_,_,h=>by cases h
 | n+1,s,o,h=>by
  unfold Yo at h ⊢;obtain⟨k,b,h⟩:=Zd h;rw[b]
  cases k with
  | false=>exact h
  | true=>
   rw[jw rfl] at h;obtain⟨d,a,h⟩:=Zd h;simp only[a0,if_true,a]
   cases d with
   | nx s2=>exact Wy h
   | ct s2=>exact Wy h
   | bk s2=>exact h
   | rt v=>exact h
theorem RM{c:XT}{fb:XS}{n m:Nat}{s:Zy}{o:OV}(h:Yo c fb n s=aA o)(a:n<=m):Yo c fb m s=aA o:=by
 induction m with
 | zero=>
  have:n=0:=by omega
  subst this;exact h
 | succ m ih=>
  by_cases e:n=m+1
  ·subst e;exact h
  ·exact Wy (ih (by omega))
open Classical in
noncomputable def XB(c:XT)(fb:XS):XS:=λs=>if h:∃n,(Yo c fb n s).isSome=aC then Yo c fb h.choose s else none
theorem MO{c:XT}{fb:XS}{n:Nat}{s:Zy}{o:OV}(h:Yo c fb n s=aA o):XB c fb s=aA o:=by
 have a:∃n,(Yo c fb n s).isSome=aC:=⟨n,by rw[h];rfl⟩;unfold XB;rw[dif_pos a];obtain⟨d,e⟩:=bY.mp a.choose_spec;rw[e];rcases Nat.le_total n a.choose with b | b
 ·rw[RM h b] at e;exact e.symm
 ·rw[RM e b] at h;exact h
section
variable {X:Cx} {O W:List Nat} {c:ao} {body:List ba} {fc:XT} {fb:XS} {pos:dj}
theorem T8(M:iK (model X.prog X.w) X.A X.env X.xe)(G:VT X c fc)(N:Ln X O W body fb):VS X O W (.While c body [] pos) (XB fc fb):=PS.imp (Ly M G N) λD C H ⟨B,fps,s,w,r,e,k⟩=>by
 unfold XB at e;split at e
 case isFalse=>cases e
 rename_i J;generalize J.choose=n at e;refine⟨λm g E=>∃u q,Rel X.K O B u q g E/\Yo fc fb m q=aA w/\∀j,j∉W->g[j]?=C[j]?/\Kep (u j) (fps j),⟨n,fps,s,r,e,λj _=>⟨rfl,Kep.refl _⟩⟩,?_⟩;rintro m g E ⟨u,q,A,f,p⟩
 cases m with
 | zero=>cases f
 | succ m=>
  obtain⟨b,L,f⟩:=Zd f;refine⟨λ_=>False,q,b,λ_ z=>z.elim,A.env,L,λx s2=>?_⟩
  cases b with
  | false=>
   cases f;exact k u g x (A.grow s2) p
  | true=>
   obtain⟨o,F,f⟩:=Zd f;refine⟨λl x=>∃fps2 s2,Rel X.K O B fps2 s2 l x/\Yo fc fb m s2=aA w/\∀j,j∉W->l[j]?=C[j]?/\Kep (fps2 j) (fps j),λl x I=>⟨m,gS m,I⟩,B,u,q,o,A.grow s2,F,?_⟩
   cases o with
   | nx s4=>exact λa i y t h=>⟨a,s4,t,f,λj d=>⟨(h j d).1.trans (p j d).1,(h j d).2.trans (p j d).2⟩⟩
   | ct s4=>exact λa i y t h=>⟨a,s4,t,f,λj d=>⟨(h j d).1.trans (p j d).1,(h j d).2.trans (p j d).2⟩⟩
   | bk s4=>
    cases f;exact λa i y t h=>k a i y t λj d=>⟨(h j d).1.trans (p j d).1,(h j d).2.trans (p j d).2⟩
   | rt v=>cases f;exact k
end
end VL
namespace VL
open PySem PySem.Spec PyProof.Rows L2
variable {K:aD}
section
variable {O:List Nat} {H0 H H':Hp} {fps:Nat->List aG} {s:Zy} {σ:Tf}
theorem Rel.lst_at(r:Rel K O H0 fps s σ H){i:Nat}(j:i∈O){m:List PV}(e:s[i]?=aA (aA (.lst m))):∃p c d,σ[i]?=aA (aA (.ref p))/\H p=aA (.lst c)/\Iss K H m c d/\fps i=p::d:=by obtain⟨v,a,b⟩:=r.is i _ e;obtain⟨p,c,d,rfl,g,h,f⟩:=b.lst_inv;exact⟨p,c,d,a,g,h,f⟩
theorem Ux{b:Type}{l:List b}{i:Nat}{a:b}(h:l[i]?=aA a):i<l.length:=(aW.mp h).1
theorem TK.upd'{p:aG}{o:HO}(a:W7 (H p)):JR H (L2.upd H p o):=⟨λb c h=>by
 rw[upd_ne (λz=>by rw[z] at h;rw[h] at a;exact a)];exact h,λb o c h=>by
 rw[upd_ne (λz=>by rw[z] at h;rw[h] at a;exact a)];exact h,λb o x h=>by
 rw[upd_ne (λz=>by rw[z] at h;rw[h] at a;exact a)];exact h⟩
theorem RdK.upd_ne{p q:aG}{o:HO}(ne:q≠p):RdK H (L2.upd H p o) q:=RdK.of λu a=>by rw[L2.upd_ne ne];exact a
theorem Rel.relist(r:Rel K O H0 fps s σ H){i:Nat}(c:i∈O){m t:List PV}(e:s[i]?=aA (aA (.lst m))){p:aG}{n b:List aG}{d:List V}(g:fps i=p::n)(w:σ[i]?=aA (aA (.ref p)))
  (v:Iss K H t d b) (o:(p::b).Nodup) (u:∀q∈b,q∈n\/((H0 q=none/\W7 (H q))/\∀j,q∉fps j)):Rel K O H0 (VQ fps s.length i (p::b)) (s.set i (aA (.lst t))) σ (L2.upd H p (.lst d)):=by
 have f:p∈fps i:=by rw[g];exact a9
 have x:=(r.own i c p f).2;have l:=(bM.mp o).1;refine r.mutate c f w (Ux e) (Is.lst Zn (Iss.tr (TK.upd' x) _ _ _ (λq a=>RdK.upd_ne λz=>l (z▸a)) v)) o (λq a=>?_) (λj k q a z=>?_) cT
 ·rcases af.mp a with rfl | a
  ·exact⟨(r.own i c q f).1,by rw[Zn];exact cT⟩
  ·have ne:q≠p:=λz=>l (z▸a);rw[L2.upd_ne ne];rcases u q a with h | h
   ·exact r.own i c q (by rw[g];exact aU _ h)
   ·exact h.1
 ·rcases af.mp a with rfl | a
  ·exact r.dis i c j k q f z
  ·rcases u q a with h | h
   ·exact r.dis i c j k q (by rw[g];exact aU _ h) z
   ·exact h.2 j z
end
noncomputable def J7(s:Zy)(i:Nat):Option (List PV):=match s[i]? with | some (aA (.lst m))=>aA m | _=>none
noncomputable def Lo:PV->Option Int
 | .int k=>aA k
 | _=>none
noncomputable def EV:PV->Option (List PV)
 | .lst k=>aA k
 | _=>none
theorem T9{s:Zy}{i:Nat}{m:List PV}(h:J7 s i=aA m):s[i]?=aA (aA (.lst m)):=by
 unfold J7 at h;split at h
 ·cases h;assumption
 ·cases h
theorem VR{a:PV}{k:Int}(h:Lo a=aA k):a = .int k:=by
 unfold Lo at h;split at h
 ·cases h;rfl
 ·cases h
theorem L7{a:PV}{k:List PV}(h:EV a=aA k):a = .lst k:=by
 unfold EV at h;split at h
 ·cases h;rfl
 ·cases h
noncomputable def gd(c:Bool):Option Unit:=if c=aC then aA () else none
theorem Qv{c:Bool}{u:Unit}(h:gd c=aA u):c=aC:=by
 unfold gd at h;split at h
 ·assumption
 ·cases h
noncomputable def VU(i:Nat)(fk:XE)(f:XE):XS:=λs=>(fk s).bind λk=>(f s).bind λl=>(Lo k).bind λk=>(J7 s i).bind λm=>(gd (Zv m&&ZS l&&decide (0<=k/\k<=1000000/\m.length<=10000))).bind λ_=>aA (.nx (s.set i (aA (.lst (m.take k.toNat++l::m.drop k.toNat)))))
noncomputable def XC(i:Nat)(fk:XE)(f:XE):XS:=λs=>(f s).bind λl=>(fk s).bind λk=>(Lo k).bind λk=>(J7 s i).bind λm=>(gd (Zv m&&ZS l)).bind λ_=>(Om m.length k).map λj=>.nx (s.set i (aA (.lst (m.set j l))))
section
variable {X:Cx} {O:List Nat} {i:Nat} {st:ba} {f fk:XE}
theorem Cf{H:Hp}{p:aG}{a:List V}(h:H p=aA (.lst a)):Dv K "list" (.ref p) H:=.inl ⟨rfl,_,SqL.of h⟩
theorem L8{s:Zy}{a:Tf}{fps:Nat->List aG}{b:List aG}:∀j,j∉[i]->a[j]?=a[j]?/\Kep (VQ fps s.length i b j) (fps j):=λj c=>⟨rfl,.inl (ZE (by simpa using c))⟩
theorem Iss.pureEq{H:Hp}{l:List PV}{a:List V}{b:List aG}(h:Iss K H l a b)(c:Zv l=aC):Iss K H l a []:=by have:=Iss.pure _ _ _ c h;subst this;exact h
theorem OW{l:List PV}(n:Nat)(h:Zv l=aC):Zv (l.take n)=aC:=by rw[YG,aj] at *;exact λx a=>h x (iC a)
theorem OX{l:List PV}(n:Nat)(h:Zv l=aC):Zv (l.drop n)=aC:=by rw[YG,aj] at *;exact λx a=>h x (List.mem_of_mem_drop a)
theorem MP(h:PS X st (Lw (DS X.K "list" NN (Q6 i) (NK (tF X.K fk) (NK (tF X.K f) F5)))))(w:i∈O:=by decide):VS X O [i] st (VU i fk f):=PS.imp h λD W H ⟨Y,fps,s,N,r,e,k⟩=>by obtain⟨kk,A,e⟩:=Zd e;obtain⟨l,L,e⟩:=Zd e;obtain⟨d,P,e⟩:=Zd e;obtain⟨m,c,e⟩:=Zd e;obtain⟨_,C,e⟩:=Zd e;rw[VR P] at A;have c:=T9 c;have t:=Qv C;simp only[bV,decide_eq_true_eq] at t;obtain⟨⟨j,G⟩,J,Z,u⟩:=t;cases e;obtain⟨p,E,T,x,B,v,M⟩:=r.lst_at w c;refine⟨.ref p,x,Cf B,λ_=>False,s,_,λ_ z=>z.elim,r.env,A,λz Q S s1 F _=>⟨λ_=>False,s,l,λ_ z=>z.elim,r.env.mono s1,L,λy U R s2 o _=>?_⟩⟩;have a:=s1.trans s2;obtain⟨rfl,_⟩:=F.int_inv;have:=Is.pure _ _ _ G o;subst this;refine⟨p,E,d,y,rfl,rfl,a _ _ B,J,by omega,by rw[v.len];exact lt_size (by omega),?_⟩;have b:=(v.mono a).pureEq j;obtain⟨f1,n,_⟩:=b.take d.toNat;obtain⟨f2,g,_⟩:=b.drop d.toNat;have n:=n.pureEq (OW _ j);have g:=g.pureEq (OX _ j);exact k _ _ _ ((r.grow a).relist w c M x (n.append (Iss.cons o g)) (by simp) λq I=>by simp at I) L8
theorem Wz(h:PS X st (Oo (tF X.K f) (Gd (Q6 i) (tF X.K fk) LI)))(o:i∈O:=by decide):VS X O [i] st (XC i fk f):=PS.imp h λD S H ⟨T,fps,s,I,r,e,k⟩=>by obtain⟨l,G,e⟩:=Zd e;obtain⟨kk,v,e⟩:=Zd e;obtain⟨w,L,e⟩:=Zd e;obtain⟨m,b,e⟩:=Zd e;obtain⟨_,x,e⟩:=Zd e;rw[VR L] at v;have b:=T9 b;have c:=Qv x;simp only[bV] at c;obtain⟨t,g⟩:=c;obtain⟨j,C,rfl⟩:=map_some e;obtain⟨p,B,Q,u,J,n,F⟩:=r.lst_at o b;refine⟨λ_=>False,s,l,λ_ z=>z.elim,r.env,G,λy M N s1 d _=>?_⟩;refine⟨.ref p,u,λ_=>False,s,_,λ_ z=>z.elim,r.env.mono s1,v,λz R P s2 A _=>?_⟩;have a:=s1.trans s2;obtain⟨rfl,_⟩:=A.int_inv;have:=Is.pure _ _ _ g d;subst this;refine⟨p,B,w,j,rfl,rfl,a _ _ J,by rw[n.len];exact C,?_⟩;exact k _ _ _ ((r.grow a).relist o b F u (Iss.setP j t g ((n.mono a).pureEq t) (d.mono s2)) (by simp) λq E=>by simp at E) L8
end
theorem Iss.setRow{H:Hp}{o:List V}:∀{m:List PV}{xs:List V}{fq:List aG}{j:Nat}{n n':List PV}{q:aG},Iss K H m xs fq->m[j]?=aA (.lst n)->xs[j]?=aA (.ref q)->fq.Nodup->W7 (H q)->Zv n=aC->Iss K (L2.upd H q (.lst o)) n' o []->
  Iss K (L2.upd H q (.lst o)) (m.set j (.lst n')) xs fq
 | [],_,_,_,_,_,_,_,e,_,_,_,_,_=>by simp at e
 | a::m,xs,fq,0,n,n',q,h,e,ex,nd,mu,pn,h'=>by obtain⟨x,r,f1,f2,rfl,i,d,rfl⟩:=h.inv;simp at e ex;subst e ex;obtain⟨u,w,s,e,B,c,rfl⟩:=i.lst_inv;cases e;have:=Iss.pure _ _ _ pn c;subst this;have g:q∉f2:=(bM.mp nd).1;exact Iss.cons (Is.lst Zn h') (Iss.tr (TK.upd' mu) _ _ _ (λz c=>RdK.upd_ne λe=>g (e▸c)) d)
 | a::m,xs,fq,j+1,n,n',q,h,e,ex,nd,mu,pn,h'=>by obtain⟨x,r,f1,f2,rfl,i,d,rfl⟩:=h.inv;simp at e ex;obtain⟨p,k,f⟩:=jC.mp nd;obtain⟨y,A,l,v,b⟩:=d.get e;rw[ex] at l;cases l;obtain⟨u,w,s,t,_,_,rfl⟩:=v.lst_inv;cases t;have g:q∉f1:=λz=>f q z q (b q a9) rfl;exact Iss.cons (Is.tr (TK.upd' mu) _ _ _ (λz c=>RdK.upd_ne λe=>g (e▸c)) i) (Iss.setRow d e ex k mu pn h')
noncomputable def X6(i:Nat)(fa fb:XE)(f:XE):XS:=λs=>(f s).bind λl=>(fa s).bind λa=>(fb s).bind λb=>(Lo a).bind λa=>(Lo b).bind λb=>(J7 s i).bind λm=>(Om m.length a).bind λj=>(m[j]?).bind λr=>(EV r).bind λn=>
 (gd (Zv n&&ZS l)).bind λ_=>(Om n.length b).map λc=>.nx (s.set i (aA (.lst (m.set j (.lst (n.set c l))))))
end VL
namespace VL
open PySem PySem.Spec PyProof.Rows L2
variable {K:aD}
section
variable {X:Cx} {a b c d:ao} {fa fb fc fd:XE} {pos:dj}
theorem Hr(e:X.A.units+64<iS)(d:VE X a fa)(c:VE X b fb):VE X (.Compare a [.Eq] [b] pos) (Zj (W8 aB) fa fb):=LO (L0 e) (Qp aB) d c (Uj _)
theorem Er(e:X.A.units+64<iS)(d:VE X a fa)(c:VE X b fb):VE X (.Compare a [.NotEq] [b] pos) (Zj (W8 aC) fa fb):=LO (L3 e) (Qp aC) d c (Uj _)
theorem Sa(e:X.A.units+64<iS)(d:VE X a fa)(c:VE X b fb):VT X (.Compare a [.Eq] [b] pos) (xB (Zj (W8 aB) fa fb)):=Qj (L0 e) (Qp aB) d c (Uj _)
theorem Py(e:X.A.units+64<iS)(d:VE X a fa)(c:VE X b fb):VT X (.Compare a [.NotEq] [b] pos) (xB (Zj (W8 aC) fa fb)):=Qj (L3 e) (Qp aC) d c (Uj _)
noncomputable def DY:PV->Option Bool
 | .bl c=>aA c
 | _=>none
end
section
variable {X:Cx} {a b:ao} {fa fb:XE} {pos:dj}
noncomputable def gCat:PV->PV->Option PV
 | .lst m,.lst n=>if m.length+n.length<=10000 then aA (.lst (m++n)) else none
 | _,_=>none
noncomputable def Sd:PV->PV->Option PV
 | .lst m,.lst n=>if m.length+n.length<=10000/\Zv m=aC/\Zv n=aC then aA (.lst (m++n)) else none
 | _,_=>none
theorem Qw(C:VE X a fa)(t:VE X b fb):VM X (.BinOp a .Add b pos) (Zj Sd fa fb):=PE.imp (LA GB C t) λM H Q ⟨s,l,env,e,k⟩=>by
 obtain⟨i,h,E,o,e⟩:=TV e;refine⟨λ_=>False,s,i,λ_ z=>z.elim,env,E,λx I f1 s1 A _=>⟨λ_=>False,s,h,λ_ z=>z.elim,env.mono s1,o,λy L f2 s2 u _=>?_⟩⟩
 cases i with
 | lst m=>cases h with
  | lst n=>
   have e:(if m.length+n.length<=10000/\Zv m=aC/\Zv n=aC then aA (PV.lst (m++n)) else none)=aA l:=e;split at e
   case isFalse=>cases e
   rename_i f;cases e;obtain⟨p,v,J,rfl,F,j,rfl⟩:=A.lst_inv;obtain⟨D,G,B,rfl,d,c,rfl⟩:=u.lst_inv;refine⟨p,D,v,G,rfl,rfl,s2 _ _ F,d,by rw[j.len,c.len];exact cI (lt_size f.1),λq g=>?_⟩;refine k _ _ [q] (s1.trans (s2.trans (Same.new g _))) (Is.lst Zn ((((j.mono s2).pureEq f.2.1).append (c.pureEq f.2.2)).mono (Same.new g _))) (by simp) λr w=>?_;rw[aq.mp w];exact⟨Same.off (s1.trans s2) g,by rw[Zn];exact cT⟩
  | _=>cases e
 | _=>cases e
noncomputable def Pz:PV->PV->Option PV
 | .lst m,.int k=>if Zv m=aC/\-1000000<=k/\k<=1000000/\m.length*k.toNat<=10000 then aA (.lst (aT k.toNat m).flatten) else none
 | _,_=>none
theorem Iss.rep{H:Hp}{m:List PV}{a:List V}(h:Iss K H m a []):∀k:Nat,Iss K H (aT k m).flatten (aT k a).flatten []
 | 0=>Iss.nil
 | k+1=>by rw[ck,ck,dX,dX];exact h.append (Iss.rep h k)
theorem L9(w:VE X a fa)(j:VE X b fb):VM X (.BinOp a .Mult b pos) (Zj Pz fa fb):=PE.imp (LA GC w j) λF H Q ⟨s,l,env,e,k⟩=>by
 obtain⟨f,d,A,i,e⟩:=TV e;refine⟨λ_=>False,s,f,λ_ z=>z.elim,env,A,λx C f1 s1 v _=>⟨λ_=>False,s,d,λ_ z=>z.elim,env.mono s1,i,λy E f2 s2 o _=>?_⟩⟩
 cases f with
 | lst m=>cases d with
  | int n=>
   have e:(if Zv m=aC/\-1000000<=n/\n<=1000000/\m.length*n.toNat<=10000 then aA (PV.lst (aT n.toNat m).flatten) else none)=aA l:=e;split at e
   case isFalse=>cases e
   rename_i h;cases e;obtain⟨p,t,D,rfl,B,g,rfl⟩:=v.lst_inv;refine⟨p,n,t,rfl,o.int_inv.1,s2 _ _ B,by omega,by omega,by rw[g.len];exact cI (lt_size h.2.2.2),λq c=>?_⟩;refine k _ _ [q] (s1.trans (s2.trans (Same.new c _))) (Is.lst Zn ((Iss.rep ((g.mono s2).pureEq h.1) n.toNat).mono (Same.new c _))) (by simp) λr u=>?_;rw[aq.mp u];exact⟨Same.off (s1.trans s2) c,by rw[Zn];exact cT⟩
  | _=>cases e
 | _=>cases e
end
theorem Iss.fps{H:Hp}:∀{ls:List PV}{vs:List V}{fp:List aG},Iss K H ls vs fp->∃fps:Nat->List aG,(∀(i:Nat) l,ls[i]?=aA l->∃v,vs[i]?=aA v/\Is K H l v (fps i))/\∀i,ls.length<=i->fps i=[]
 | [],vs,fp,h=>⟨λ_=>[],λi l e=>by simp at e,λ_ _=>rfl⟩
 | a::ls,vs,fp,h=>by
  obtain⟨x,r,f1,f2,rfl,d,f,rfl⟩:=h.inv;obtain⟨fps,g,p2⟩:=f.fps;refine⟨λi=>match i with | 0=>f1 | k+1=>fps k,λi l e=>?_,λi c=>?_⟩
  ·cases i with
   | zero=>simp at e;subst e;exact⟨x,rfl,d⟩
   | succ k=>
    obtain⟨v,a,b⟩:=g k l (by simpa using e);exact⟨v,by simpa using a,b⟩
  ·cases i with
   | zero=>simp at c
   | succ k=>exact p2 k (by simpa using c)
noncomputable def ZG(m:Nat)(ls:List PV):Zy:=ls.map aA++aT (m-ls.length) none
noncomputable def OY:OV->Option PV
 | .rt v=>aA v
 | .nx _=>aA .non
 | _=>none
noncomputable def YT(m:Nat)(f:XS):List PV->Option PV:=λls=>(f (ZG m ls)).bind OY
theorem NY{N:List ah}{n:Nat}{O W:List Nat}{f:XS}{vs:List V}{H:Hp}{Q:VK}{E:XK}(x:∀i∈O,n<=i)(h:Xj K (YT N.length f) n vs H Q E):FE K O W f { nx:=λ_ s=>Q .non s,rt:=Q } (L2.start N vs) H:=by
 obtain⟨L,ls,y,l,g,e,q⟩:=h;obtain⟨r,G,t⟩:=Zd e;obtain⟨fps,D,p2⟩:=g.fps;have k:=g.len
 have o:∀i:Nat,ls.length<=i->∀l,(ZG N.length ls)[i]?≠aA (aA l):=λi g l z=>by
  unfold ZG at z;rw[bS (by simpa using g),b6] at z;split at z<;>cases z
 have u:Rel K O H fps (ZG N.length ls) (L2.start N vs) H:=by
  refine⟨Same.refl H,?_,λi a z=>?_,λi w=>?_,λi g=>?_,λi g p m=>?_,λi g j J p m=>?_⟩
  ·unfold ZG L2.start;simp[k]
  ·by_cases c:i<ls.length
   ·unfold ZG at z;rw[aw (by simpa using c),aR] at z
    cases q:ls[i]? with
    | none=>rw[q] at z;cases z
    | some b=>
     rw[q] at z;cases z;obtain⟨v,F,A⟩:=D i a q;refine⟨v,?_,A⟩;unfold L2.start;rw[aw (by simpa [k] using c),aR,F];rfl
   ·exact absurd z (o i (by omega) a)
  ·by_cases c:i<ls.length
   ·exact absurd (by unfold ZG;rw[aw (by simpa using c),aR,aN c];rfl) (w ls[i])
   ·exact p2 i (by omega)
  ·rw[p2 i (by have:=x i g;omega)];exact cY
  ·rw[p2 i (by have:=x i g;omega)] at m;simp at m
  ·rw[p2 i (by have:=x i g;omega)] at m;simp at m
 refine⟨H,fps,ZG N.length ls,r,u,G,?_⟩
 cases r with
 | nx s'=>
  cases t;exact λM C s I _=>q .non s [] I.same Is.non cY λp m=>by simp at m
 | rt v=>
  cases t;exact λv y s B i d n=>q v s y B i d n
 | bk s'=>cases t
 | ct s'=>cases t
section
variable {P:bI} {w:br} {mg:ah->Option aF} {base:bR}
theorem OZ{x:ah}{st:ba}{N d:List ah}{k n:Nat}{O W:List Nat}(m:Nat)(f:XS)(D:Def K mg x st)(S:Zl N d (Ze st))
  (p:∀(kV doc pm:aF)(an:Option aG)(b ct:aF)(us:List aF),us.length=d.length->gQ (cM x x (YM st) (Z7 st) (Ze st) .none kV doc pm an b ct) ⟨us,[]⟩=pure (d.zip us))
  (j:d.length=n) (l:N.length=m) (o:∀i∈O,n<=i)
  (c:∀(e:aG)(b:aF)(A:bc)(a:List jH)(s:aL)(H:Hp)(E:XK),Room k (A.deeper (fA x (Ze st) s.heap.objs.size e b))->Ln (TJ OD P w K mg base N x (Ze st) e b A a s H E).nox O W (Z7 st) f) :
  Xx P w K mg base x d (Xj K (YT m f) n) (k+1):=by
 subst l;refine D.cal S p (λvs H Q E h=>by rw[j];exact h.1) λe b A a s H vs Q E g h=>⟨_,c e b A a s H E g,NY o h⟩
end
end VL
namespace VL
open PySem PySem.Spec PyProof.Rows L2
variable {K:aD}
section
variable {X:Cx} {O:List Nat} {tg ju iter:ao} {jt:List ao} {scope:cx} {pos:dj} {fi:XL} {T:Tgt} {ft:XT} {fe:XE}
theorem Qx(own fr:List ah)(ix:List Nat){i:Nat}{y:ah}{f b:dj}(n:X.N.Nodup)(l:X.N[i]?=aA y)(d:X.env.scope.names.lookup y=aA .local)(c:X.calm=aC)(m:VI X tg iter fi)(S:Wu X.N X.env.scope scope own fr ix=aC)
  (o:∀cl C s H a,PG (Zt X (own++fr) scope cl C s H a) tg (gT X.K T)) (h:∀cl C s H a,FD (Zt X (own++fr) scope cl C s H a) jt ft) (k:∀cl C s H a,VM (Zt X (own++fr) scope cl C s H a) ju fe)
  (g:∀i∈T.slots,i<own.length:=by decide)
  (e:fT (.ListComp ju [⟨tg,iter,jt,0⟩] scope pos) (aA (.Name y f)) b.line X.env=pure aC:=by rfl)
  (j:∀x,bQ iter X.env x=pure x:=by intro _;rfl):VS X O [i] (.Assign [.Name y f] (.ListComp ju [⟨tg,iter,jt,0⟩] scope pos) b) (ZA i (Zs own.length ix fi T ft fe)):=
 PS.imp (LM own fr ix n l d c m S o (λcl C s H a=>(show OE (Zt X (own++fr) scope cl C s H a) jt (Pk X.K ft) from h cl C s H a)) (λcl C s H a=>(show PE (Zt X (own++fr) scope cl C s H a) ju (tM X.K fe) from k cl C s H a)) e j) (NX (Qr g))
end
section
variable {P:bI} {w:br} {mg:ah->Option aF} {base:bR}
theorem G0{x:ah}{st:ba}{N e:List ah}{k n:Nat}{O W:List Nat}{d:aG}{g:dN}(m:Nat)(f:XS)(F:Fun K x x st d g)(S:Zl N e (Ze st))
  (l:e.length=n) (o:N.length=m) (p:∀i∈O,n<=i)
  (c:∀(d:aG)(b:aF)(A:bc)(a:List jH)(s:aL)(H:Hp)(E:XK),Room k (A.deeper (fA x (Ze st) s.heap.objs.size d b))->Ln (TJ OD P w K mg base N x (Ze st) d b A a s H E).nox O W (Z7 st) f) :
  Tb P w K mg base OD (k+1) d g e (Xj K (YT m f) n):=by
 subst o;refine F.ok S (λvs H Q E h=>by rw[l];exact h.1) λb A a s H vs Q E j h=>⟨_,c d b A a s H E j,?_⟩;exact NY p h
theorem Ka{st:ba}{x:ah}{D:List PV->Option PV}{k:Nat}{d:aG}(l:Def K mg "law" st)(g:mg "law" = aA (.ref d))
  (q:∀(kV b h:aF)(i:Option aG)(c ct u:aF),gQ (cM "law" "law" (YM st) (Z7 st) (Ze st) .none kV b h i c ct) ⟨[u],[]⟩=pure [(x,u)])
  (H:∀(base:bR)(f:aG)(a:dN),K.In base->base.Ns cD mg->Fun K "law" "law" st f a->Tb P w K mg base OD k f a [x] (Xj K D 1)) :
  ∃a:dN,(∀(s:aL)(u:aF),ir s a ⟨[u],[]⟩ [(x,u)])/\∀base:bR,K.In base->base.Ns cD mg->Tb P w K mg base OD k d a [x] (Xj K D 1):=by
 obtain⟨f,a,n,F⟩:=l.ex;have e:=g.symm.trans n;cases e;refine⟨a,?_,λbase p m=>H base d a p m F⟩;obtain⟨r,v,kV,b,h,i,c,ct,j,rfl,t,o⟩:=F.ex;exact λs u=>.of_eq (q kV b h i c ct u)
end
theorem G1{H:Hp}{a:aG}{b:List Int}{D:List PV->Option PV}{E:XK}(e:D [.cst (iL b)]=aA (.bl aC))(d:GD H)(f:SqL K H a (b.map V.int)):Xj K D 1 [.ref a] H (λv _=>v = .bl aC) E:=by
 have c:CsK K H a (b.map V.int):=by
  rcases f with h | h
  ·rcases h with h | ⟨o,h⟩
   ·rcases d a with z | ⟨o,g,z⟩
    ·rw[h] at z;cases z
    ·rw[h] at z;cases z
   ·exact .inl ⟨o,h⟩
  ·exact .inr h
 exact⟨rfl,[.cst (iL b)],[],.bl aC,Iss.one (Is.cst c (Iss.ofInts b)),e,λv j k _ i _ _=>i.bl_inv.1⟩
end VL
namespace VL
open PySem L2
noncomputable def G3(K:aD):Bool:=K.all λp=>match p.2.data with
 | .fields vs=>(match vs.toList with
  | _::.str n _::_=>!(Mq n)
  | _=>aC)
 | _=>aC
theorem noLam{K:aD}(g:G3 K=aC):∀(q:ah)(c:aG),Mq q=aC->cH K (.ref c) q=aC->False:=λq c h a=>by
 have a:(match K.lookup c with
   | some ⟨_,_,.fields vs,_⟩=>(match vs.toList with | _::.str n _::_=>n==q | _=>aB)
   | _=>aB)=aC:=a
 split at a
 ·rename_i j i vs k b;split at a
  ·rename_i y n t r d;have f:n=q:=beq_iff_eq.mp a;subst f;have e:=aj.mp g (c,_) (PySem.W.mem_of_lookupK b);simp only[d,h,Bool.not_true] at e;cases e
  ·cases a
 ·cases a
@[simp] theorem eVar_def(i:Nat)(s:Zy):Za i s=(s[i]?).join:=rfl
@[simp] theorem eC_def(l:PV)(s:Zy):eC l s=aA l:=rfl
@[simp] theorem Qy(g:PV->PV->Option PV)(a b:XE)(s:Zy):Zj g a b s=(a s).bind λx=>(b s).bind λy=>g x y:=rfl
@[simp] theorem eUn_def(g:PV->Option PV)(a:XE)(s:Zy):GQ g a s=(a s).bind g:=rfl
@[simp] theorem O0(f:XE)(s:Zy):eP f s=(f s).bind λl=>if ZS l=aC then aA l else none:=rfl
@[simp] theorem evs_nil(s:Zy):TZ [] s=aA []:=rfl
@[simp] theorem ZL(f:XE)(fs:List XE)(s:Zy):TZ (f::fs) s=(f s).bind λx=>(TZ fs s).map (x::·):=rfl
@[simp] theorem XU(D:List PV->Option PV)(fs:List XE)(s:Zy):Zc D fs s=(TZ fs s).bind D:=rfl
@[simp] theorem Kb(fs:List XE)(s:Zy):MJ fs s=(TZ fs s).map .tup:=rfl
@[simp] theorem eLst_def(fs:List XE)(s:Zy):Qm fs s=(TZ fs s).map .lst:=rfl
@[simp] theorem X7(g:PV->Option Int->Option Int->Option PV)(a:XE)(lo hi:XO)(s:Zy):Rc g a lo hi s=(a s).bind λx=>(lo s).bind λl=>(hi s).bind λu=>g x l u:=rfl
@[simp] theorem NZ(s:Zy):OU s=aA none:=rfl
@[simp] theorem gI_ii(g:Int->Int->Int)(i j:Int):gI g (.int i) (.int j)=aA (.int (g i j)):=rfl
@[simp] theorem gB_ii(g:Int->Int->Bool)(i j:Int):gB g (.int i) (.int j)=aA (.bl (g i j)):=rfl
@[simp] theorem G4(C:Int->Int->Prop)[∀i j,Decidable (C i j)](g:Int->Int->Int)(i j:Int):MI C g (.int i) (.int j)=if C i j then aA (.int (g i j)) else none:=rfl
@[simp] theorem gIx_ti(l:List PV)(i:Int):ZX (.tup l) (.int i)=Tq l i:=rfl
@[simp] theorem gIx_li(l:List PV)(i:Int):ZX (.lst l) (.int i)=Tq l i:=rfl
@[simp] theorem gIx_ci(l:List PV)(i:Int):ZX (.cst l) (.int i)=Tq l i:=rfl
@[simp] theorem G5(f:XE)(s:Zy):xB f s=(f s).bind DY:=by
 unfold xB
 cases f s with
 | none=>rfl
 | some a=>cases a<;>rfl
@[simp] theorem blO_bl(b:Bool):DY (.bl b)=aA b:=rfl
@[simp] theorem xAnd_def(a b:XT)(s:Zy):OL a b s=(a s).bind λc=>if c=aC then b s else aA aB:=rfl
@[simp] theorem J8(a b:XT)(s:Zy):Lm a b s=(a s).bind λc=>if c=aC then aA aC else b s:=rfl
@[simp] theorem Kc(a:XT)(s:Zy):Pm a s=(a s).map not:=rfl
@[simp] theorem Kd(a b:XE)(s:Zy):TX a b s=(xB a s).bind λc=>if c=aC then b s else aA (.bl aB):=rfl
@[simp] theorem eOr_def(a b:XE)(s:Zy):Cc a b s=(xB a s).bind λc=>if c=aC then aA (.bl aC) else b s:=rfl
@[simp] theorem eNot_def(a:XE)(s:Zy):JZ a s=(xB a s).map λc=>.bl !c:=rfl
@[simp] theorem N0(c:XT)(a b:XE)(s:Zy):GO c a b s=(c s).bind λk=>if k=aC then a s else b s:=rfl
@[simp] theorem eIsN_def(neg:Bool)(a:XE)(s:Zy):LU neg a s=(a s).bind (Em neg):=rfl
@[simp] theorem sNext_def(s:Zy):YC s=aA (.nx s):=rfl
@[simp] theorem PB(f g:XS)(s:Zy):Zr f g s=(f s).bind λo=>match o with | .nx s'=>g s' | r=>aA r:=rfl
@[simp] theorem YD(c:XT)(f g:XS)(s:Zy):RL c f g s=(c s).bind λk=>if k=aC then f s else g s:=rfl
@[simp] theorem Ke(f:XE)(s:Zy):ZV f s=(f s).map .rt:=rfl
@[simp] theorem PD(i:Nat)(f:XE)(s:Zy):ZA i f s=(f s).map λl=>.nx (s.set i (aA l)):=rfl
@[simp] theorem retO_rt(v:PV):OY (.rt v)=aA v:=rfl
@[simp] theorem pureV_int(i:Int):ZS (.int i)=aC:=rfl
@[simp] theorem pureV_bl(i:Bool):ZS (.bl i)=aC:=rfl
@[simp] theorem pureV_str(i:ah):ZS (.str i)=aC:=rfl
@[simp] theorem pureV_non:ZS .non=aC:=rfl
@[simp] theorem WV(l:List PV):ZS (.tup l)=Zv l:=by rw[ZS]
@[simp] theorem pureL_nil:Zv []=aC:=rfl
@[simp] theorem pureL_cons(a:PV)(l:List PV):Zv (a::l)=(ZS a&&Zv l):=rfl
theorem MQ{b:Type}{l:List b}{f:b->PV}(h:∀a∈l,ZS (f a)=aC):Zv (l.map f)=aC:=by rw[YG,List.all_map,aj];exact h
@[simp] theorem pureL_iL(l:List Int):Zv (l.map PV.int)=aC:=Yd l
abbrev pP(l:List Int):PV:=.tup (iL l)
abbrev wP(W:List (List Int)):PV:=.tup (W.map pP)
@[simp] theorem VV(W:List (List Int)):Zv (W.map pP)=aC:=MQ λa _=>by simp
theorem O1{l:List Int}{k:Nat}(h:k<l.length):(iL l)[k]?=aA (.int (Yq l k)):=by simp[Yq,aN h]
theorem WA{l:List Int}{k:Nat}(h:k<l.length):Tq (iL l) (k:Int)=aA (.int (Yq l k)):=X0 (O1 h)
theorem N1{W:List (List Int)}{k:Nat}(h:k<W.length):Tq (W.map pP) (k:Int)=aA (pP (Zx W k)):=by refine X0 ?_;rw[aR,Ph h];rfl
@[simp] theorem G6(l:List Int):Ti [.tup (l.map PV.int)]=aA (.int l.sum):=by simp[Ti,Th,YS l]
@[simp] theorem O2(l:List Int):Ti [.lst (l.map PV.int)]=aA (.int l.sum):=by simp[Ti,Th,YS l]
@[simp] theorem Kf(l:List Bool):S8 [.lst (l.map PV.bl)]=aA (.bl (l.all id)):=by simp[S8,Th,Xz l]
@[simp] theorem G7(l:List Bool):LY [.lst (l.map PV.bl)]=aA (.bl (l.any id)):=by simp[LY,Th,Xz l]
@[simp] theorem Kg(l:List PV):YH [.tup l]=aA (.int l.length):=rfl
@[simp] theorem O3(l:List PV):YH [.lst l]=aA (.int l.length):=rfl
@[simp] theorem gLen_c(l:List PV):YH [.cst l]=aA (.int l.length):=rfl
@[simp] theorem Xk(l:List PV):ZY [.lst l]=aA (.tup l):=rfl
@[simp] theorem gTuple_t(l:List PV):ZY [.tup l]=aA (.tup l):=rfl
@[simp] theorem Kh(l:List PV):Ur [.tup l]=if Zv l=aC then aA (.lst l) else none:=rfl
@[simp] theorem PF(l:List PV):Ur [.lst l]=if Zv l=aC then aA (.lst l) else none:=rfl
@[simp] theorem gMin2_ii(i j:Int):Pq [.int i,.int j]=aA (.int (if j<i then j else i)):=rfl
@[simp] theorem gMax2_ii(i j:Int):Ep [.int i,.int j]=aA (.int (if j>i then j else i)):=rfl
@[simp] theorem gInt1_b(c:Bool):Ho [.bl c]=aA (.int (if c then 1 else 0)):=rfl
@[simp] theorem gInt1_i(c:Int):Ho [.int c]=aA (.int c):=rfl
@[simp] theorem gInst_ii(i:Int):Wl [.int i,.ty "int"]=aA (.bl aC):=rfl
@[simp] theorem gInst_ib(i:Int):Wl [.int i,.ty "bool"]=aA (.bl aB):=rfl
@[simp] theorem gInst_tt(l:List PV):Wl [.tup l,.ty "tuple"]=aA (.bl aC):=rfl
@[simp] theorem gInst_ll(l:List PV):Wl [.lst l,.ty "list"]=aA (.bl aC):=rfl
theorem J9(n:Nat)(i j:Int):T2 (n+1) (.int i) (.int j)=aC:=rfl
@[simp] theorem Uy(neg:Bool)(i j:Int):W8 neg (.int i) (.int j)=aA (.bl (if neg then !decide (i=j) else decide (i=j))):=by
 unfold W8;rw[jw (J9 7 i j)];congr 2;cases neg<;>simp
theorem RN{e:Type}{T:Tgt}{d:XT}{c:XE}{f:Zy}{q g:e->PV}:∀{ls:List e},(∀a∈ls,∃s1,YF T (q a) f=aA s1/\d s1=aA aC/\c s1=aA (g a))->Xt T d c f (ls.map q)=aA (ls.map g)
 | [],_=>rfl
 | a::r,h=>by obtain⟨s1,j,l,m⟩:=h a a9;have k:=RN (ls:=r) λb i=>h b (aU _ i);rw[gO,gO];unfold Xt;rw[j];simp only[a0,l,if_true,m,k,dU]
theorem VY{d:Type}{T:Tgt}{f:XT}{e:XE}{j:Zy}{q g:d->PV}{c:d->Bool}:∀{ls:List d},(∀a∈ls,∃s1,YF T (q a) j=aA s1/\f s1=aA (c a)/\(c a=aC->e s1=aA (g a)))->Xt T f e j (ls.map q)=aA ((ls.filter c).map g)
 | [],_=>rfl
 | a::r,h=>by
  obtain⟨s1,l,m,n⟩:=h a a9;have i:=VY (ls:=r) λb k=>h b (aU _ k);rw[gO];unfold Xt;rw[l];simp only[a0,m]
  cases hc:c a with
  | true=>simp[n hc,i,hc]
  | false=>simp[i,hc]
theorem Z8{e:Type}{n:Nat}{ix:List Nat}{f:XL}{T:Tgt}{d:XT}{c:XE}{s:Zy}(ls:List e)(q g:e->PV)(b:f s=aA (ls.map q))(i:ls.length<=10000)
  (h:∀a∈ls,∃s1,YF T (q a) (ZO n ix s)=aA s1/\d s1=aA aC/\c s1=aA (g a)):Zs n ix f T d c s=aA (.lst (ls.map g)):=by
 unfold Zs;rw[b];simp only[a0,aQ,jw i,RN h,dU]
theorem VZ{d:Type}{n:Nat}{ix:List Nat}{i:XL}{T:Tgt}{f:XT}{e:XE}{s:Zy}(ls:List d)(q g:d->PV)(c:d->Bool)(b:i s=aA (ls.map q))(j:ls.length<=10000)
  (h:∀a∈ls,∃s1,YF T (q a) (ZO n ix s)=aA s1/\f s1=aA (c a)/\(c a=aC->e s1=aA (g a))):Zs n ix i T f e s=aA (.lst ((ls.filter c).map g)):=by
 unfold Zs;rw[b];simp only[a0,aQ,jw j,VY h,dU]
theorem XW{T:Tgt}{fb:XS}:∀{ls:List PV}{s:Zy}(Jv:Nat->Zy->Prop),Jv 0 s->(∀(i:Nat) l st,ls[i]?=aA l->Jv i st->∃s1 s2,YF T l st=aA s1/\fb s1=aA (.nx s2)/\Jv (i+1) s2)->
  ∃f,Wr T fb ls s=aA (.nx f)/\Jv ls.length f
 | [],s,Jv,h0,_=>⟨s,rfl,h0⟩
 | l::r,s,Jv,h0,h=>by obtain⟨s1,s2,a,b,c⟩:=h 0 l s rfl h0;obtain⟨f,d,e⟩:=XW (ls:=r) (s:=s2) (λi=>Jv (i+1)) c λi l' st j g=>h (i+1) l' st (by simpa using j) g;refine⟨f,?_,e⟩;unfold Wr;rw[a];simp only[a0,b];exact d
theorem V0{n i:Nat}{l:PV}(h:(Uu n)[i]?=aA l):i<n/\l = .int (i:Int):=by have a:=(aW.mp h).1;unfold Uu at a h;rw[aQ,b7] at a;rw[aR,bB a] at h;exact⟨a,(ak h).symm⟩
theorem Ki{lo:Int}{n i:Nat}{l:PV}(h:(Vn lo n)[i]?=aA l):i<n/\l = .int (lo+(i:Int)):=by have a:=(aW.mp h).1;unfold Vn at a h;rw[aQ,b7] at a;rw[aR,bB a] at h;exact⟨a,(ak h).symm⟩
@[simp] theorem Se(n:Nat):(Uu n).length=n:=by unfold Uu;simp
@[simp] theorem Kj(lo:Int)(n:Nat):(Vn lo n).length=n:=by unfold Vn;simp
@[simp] theorem bindT_one(i:Nat)(l:PV)(s:Zy):YF (.one i) l s=aA (s.set i (aA l)):=rfl
theorem U6(m:List PV):Wx m=(aJ m.length).map λ(i:Nat)=>.tup [.int (i:Int),m.getD i .non]:=by
 apply cO;intro i;rw[aR];by_cases h:i<m.length
 ·have:(Wx m)[i]?=aA (.tup [.int (i:Int),m[i]]):=by unfold Wx;simp
  rw[this,bB h];simp[aN h]
 ·rw[bJ (by rw[RJ];omega),bJ (by simpa using h)];rfl
theorem Xl(m n:List PV)(h:n.length=m.length):W9 m n=(aJ m.length).map λ(i:Nat)=>.tup [m.getD i .non,n.getD i .non]:=by
 apply cO;intro i;rw[aR];by_cases a:i<m.length
 ·have:(W9 m n)[i]?=aA (.tup [m[i],n[i]]):=by unfold W9;rw[aR,gE (z:=(m[i],n[i])) |>.mpr ⟨aN a,aN (by omega)⟩];rfl
  rw[this,bB a];simp[aN a,aN (show i<n.length by omega)]
 ·rw[bJ (by rw[Pw];omega),bJ (by simpa using a)];rfl
theorem Y8(l:List Int)(i:Nat)(h:i<l.length):(iL l).getD i .non = .int (Yq l i):=by rw[aM,O1 h];rfl
@[simp] theorem Ia(f:XE)(s:Zy):ZW [f] s=(f s).bind λa=>(Lo a).bind λj=>if -1000000<=j/\j<=1000000 then aA (Uu j.toNat) else none:=by
 unfold ZW
 cases h:f s with
 | none=>simp[h]
 | some a=>cases a<;>simp[h,Lo]
@[simp] theorem Ib(f g:XE)(s:Zy):Ww [f,g] s=(f s).bind λa=>(g s).bind λb=>(Lo a).bind λi=>(Lo b).bind λj=>if -1000000<=i/\i<=1000000/\-1000000<=j/\j<=1000000 then aA (Vn i (j-i).toNat) else none:=by
 unfold Ww
 cases h:f s with
 | none=>simp[h]
 | some a=>cases h2:g s with
  | none=>simp[h,h2]
  | some b=>cases a<;>cases b<;>simp[h,h2,Lo]
@[simp] theorem V1(i:Int):Lo (.int i)=aA i:=rfl
@[simp] theorem Ic(i:List PV):EV (.lst i)=aA i:=rfl
@[simp] theorem Sf(b1 b2:Bool)(f g:XE)(s:Zy):Ra b1 b2 [f,g] s=(f s).bind λl=>(g s).bind λr=>(seqB b1 l).bind λm=>(seqB b2 r).map λn=>W9 m n:=by
 unfold Ra;cases h:f s<;>cases h2:g s<;>simp[h,h2]
@[simp] theorem seqB_f(l:List PV):seqB aB (.tup l)=aA l:=rfl
@[simp] theorem seqB_t(l:List PV):seqB aC (.lst l)=aA l:=rfl
@[simp] theorem seqB_c(l:List PV):seqB aC (.cst l)=aA l:=rfl
@[simp] theorem xLst_def(f:XE)(s:Zy):Ut f s=(f s).bind FC:=rfl
@[simp] theorem asS_l(l:List PV):FC (.lst l)=aA l:=rfl
@[simp] theorem asS_c(l:List PV):FC (.cst l)=aA l:=rfl
theorem Sg{f:XE}{s:Zy}{l:List PV}(h:f s=aA (.tup l)):Tj f s=aA l:=by unfold Tj;rw[h]
@[simp] theorem sFor_def(O:List Nat)(fi:XL)(T:Tgt)(fb:XS)(s:Zy):Y7 O fi T fb s=(fi (Yn O s)).bind λls=>Wr T fb ls s:=rfl
@[simp] theorem xTrue_def(s:Zy):ZH s=aA aC:=rfl
theorem ZZ{f:XE}{s:Zy}{n:Nat}(h:f s=aA (.int (n:Int)))(a:n<=10000):ZW [f] s=aA (Uu n):=by rw[Ia,h];simp only[a0,V1];rw[jw ⟨by omega,by omega⟩,eV]
theorem Uz{f g:XE}{s:Zy}{i j:Int}(h:f s=aA (.int i))(a:g s=aA (.int j))(b : -10000<=i/\i<=10000)(c : -10000<=j/\j<=10000):Ww [f,g] s=aA (Vn i (j-i).toNat):=by rw[Ib,h,a];simp only[a0,V1];rw[jw ⟨by omega,by omega,by omega,by omega⟩]
theorem G8{i j:Int}(a : -10000<=i)(h:i<=10000):CMul i j:=by
 refine .inl ?_;have e:(2^64:Int)=18446744073709551616:=by decide
 rw[e];omega
theorem Qz{c:Bool}(h:c=aC):gd c=aA ():=by unfold gd;rw[jw h]
theorem O4{i:Nat}{a f:XE}{s:Zy}{m:List PV}{l:PV}{k:Int}(b:a s=aA (.int k))(h:f s=aA l)(o:J7 s i=aA m)(d:Zv m=aC)(n:ZS l=aC)(j:0<=k)(e:k<=1000000)(g:m.length<=10000) :
  VU i a f s=aA (.nx (s.set i (aA (.lst (m.take k.toNat++l::m.drop k.toNat))))):=by
 unfold VU;rw[b,h];have c:(Zv m&&ZS l&&decide (0<=k/\k<=1000000/\m.length<=10000))=aC:=by rw[d,n,decide_eq_true ⟨j,e,g⟩];rfl
 simp only[a0,V1,o,Qz c]
theorem MR{i:Nat}{a f:XE}{s:Zy}{m:List PV}{l:PV}{k:Int}{j:Nat}(h:f s=aA l)(b:a s=aA (.int k))(n:J7 s i=aA m)(d:Zv m=aC)(g:ZS l=aC)(e:Om m.length k=aA j) :
  XC i a f s=aA (.nx (s.set i (aA (.lst (m.set j l))))):=by
 unfold XC;rw[b,h];have c:(Zv m&&ZS l)=aC:=by rw[d,g];rfl
 simp only[a0,V1,n,Qz c,e,dU]
theorem Sh{i:Nat}{d fb f:XE}{s:Zy}{m n:List PV}{l:PV}{a b:Int}{j c:Nat}(h:f s=aA l)(p:d s=aA (.int a))(u:fb s=aA (.int b))(o:J7 s i=aA m)(g:Om m.length a=aA j)(k:m[j]?=aA (.lst n))(t:Zv n=aC)(q:ZS l=aC)(e:Om n.length b=aA c) :
  X6 i d fb f s=aA (.nx (s.set i (aA (.lst (m.set j (.lst (n.set c l))))))):=by
 unfold X6;rw[h,p,u];have r:(Zv n&&ZS l)=aC:=by rw[t,q];rfl
 simp only[a0,V1,Ic,o,g,k,Qz r,e,dU]
theorem V2{n k:Nat}(h:k<n):Om n (k:Int)=aA k:=by unfold Om;rw[jw (by omega),jw (by omega)];rfl
@[simp] theorem CMul_l{i j:Int}(h : -(2^64)<i/\i<2^64):CMul i j:=.inl h
end VL
namespace VL
open PySem PySem.Spec PyProof.Rows L2
variable {K:aD}
noncomputable def Hs(K:aD):R2:=λx y H Q=>∃a b xs ys,x = .ref a/\y = .ref b/\SqT K H a xs/\SqT K H b ys/\xs.length+ys.length<=sizeLine/\
 (xs=[]->Q (.ref b) H)/\(ys=[]->Q (.ref a) H)/\∀p,H p=none->Q (.ref p) (upd H p (.tup (xs++ys)))
theorem Ie{X:Cx}:Uh X (cX .Add) (Hs X.K):=by
 intro R s S H x y v u Q I l p h;obtain⟨a,b,o,O,rfl,rfl,q,t,M,w,A,L⟩:=h;by_cases f:o=[]
 ·cases l;cases p;obtain⟨G,J,D,_⟩:=I.tuple q;obtain⟨c,P,p2,_⟩:=I.tuple t;obtain⟨⟨F,C,k,E⟩,r,B,n,z⟩:=id D;obtain⟨⟨m,j,data2,i⟩,d,e,N,g⟩:=id p2;subst B z e g
  exact iz ⟨_,r,rfl⟩ ⟨_,d,rfl⟩ gR iT eQ eJ (dy _ _)
   (tuple_addW0 a b G.toArray c.toArray n N C j E i (by simp[J.nil_iff.mpr f])) ⟨r,d,.ref b,H,I,rfl,w f⟩
 ·exact JE _ _ _ _ _ _ _ _ _ I l p ⟨a,b,o,O,rfl,rfl,q,t,f,M,A,λ_=>L⟩
noncomputable def N2:PV->PV->Option PV
 | .tup m,.tup n=>if m.length+n.length<=10000 then aA (.tup (m++n)) else none
 | _,_=>none
theorem Ig:RB K (Hs K) N2:=λH x y a b l h fb i o e Q k=>by
 cases a with
 | tup m=>cases b with
  | tup n=>
   have e:(if m.length+n.length<=10000 then aA (PV.tup (m++n)) else none)=aA l:=e;split at e
   case isFalse=>cases e
   rename_i u;cases e;obtain⟨p,s,rfl,v,g⟩:=i.tup_inv;obtain⟨t,w,rfl,f,c⟩:=o.tup_inv;refine⟨p,t,s,w,rfl,rfl,SqT.of v,SqT.of f,by rw[g.len,c.len];exact cI (lt_size u),λz=>?_,λz=>?_,λq j=>?_⟩
   ·have:=eM.mp (by rw[<-g.len,z];rfl);subst this;exact k _ _ fb (Same.refl _) o λr d=>.inr (.inl d)
   ·have:=eM.mp (by rw[<-c.len,z];rfl);subst this;rw[cg] at k;exact k _ _ h (Same.refl _) i λr d=>.inl d
   ·exact k _ _ (h++fb) (Same.new j _) (Is.tup Zn ((g.append c).mono (Same.new j _))) λr d=>(bj.mp d).elim .inl λz=>.inr (.inl z)
  | _=>cases e
 | _=>cases e
end VL
namespace VL
open PySem
open PySem.Sem (wp)
open PySem.Builtin
theorem UA:fillsNumberSlot (.type "tuple") "mul" = pure aB:=rfl
theorem QA:seqRepeat? (.type "tuple")=pure (aA (.builtin "tuple.__mul__")):=rfl
theorem Si(a:Int)(t:Tok)(l:aG)(b:Array aF)(n:Nat)(c:Option aG)(e:Array (Option aF)) :
  Meets (iN.«int.__rmul__» ⟨[.int a t,.ref l],[]⟩) (λ_ R s=>s.heap.get? l=aA { cls:=.type "tuple",dict:=c,data:=.seq b n,slots:=e }/\R (.ok (.ret aF.notImplemented)) s):=
 .of_wp λprog w A R s h=>by obtain⟨i,g,d,tk,os⟩:=s;obtain⟨f,h⟩:=h;wp_walk;exact⟨_,rfl,h⟩
theorem Sj(l:aG)(a:Array aF)(n:Nat)(i:Option aG)(j:Array (Option aF))(x:Int)(u:Tok)(t:1<x)(r:x<2^63)(c:a.isEmpty=aB)(m:a.size*x.toNat<=sizeLine)
  (b:Array aF) (o:i5 (λk p=>k++p) #[] (aT x.toNat a)=b) (q:b.size<=sizeLine) :
  Meets (iN.«tuple.__mul__» ⟨[.ref l,.int x u],[]⟩) (λ_ R s=>s.heap.get? l=aA { cls:=.type "tuple",dict:=i,data:=.seq a n,slots:=j }/\R (.ok (.ret (jG s.heap.objs.size))) { s with heap:=s.heap.push { cls:=j2 "tuple",data:=Data.seq b },toks:=s.toks }):=
 .of_wp λprog w A R s h=>by
  obtain⟨y,g,d,tk,os⟩:=s;obtain⟨v,h⟩:=h;have e:a.size*x.toNat<=2^40:=by rw[gy] at m;omega
  have f:(a.size:Int)*x=((a.size*x.toNat:Nat):Int):=by rw[Int.natCast_mul,Int.toNat_of_nonneg (by omega)]
  wp_walk
  refine eG (by simp;omega) ?_
  wp_walk
  refine eG (by simp[c];omega) ?_
  wp_walk
  refine eG (by simp[c];omega) ?_
  wp_walk
  refine eG (decide_eq_false (by omega)) ?_
  wp_walk
  refine eG (decide_eq_false (by rw[f];unfold Tuple.tupleTooMany;simp only[decide_eq_true_eq];omega)) ?_
  wp_walk
  rw[o];exact⟨_,rfl,h⟩
theorem Rf(l:aG)(a:Array aF)(n:Nat)(b:Option aG)(c:Array (Option aF))(u:Tok) :
  Meets (iN.«tuple.__mul__» ⟨[.ref l,.int 1 u],[]⟩) (λ_ R s=>s.heap.get? l=aA { cls:=.type "tuple",dict:=b,data:=.seq a n,slots:=c }/\R (.ok (.ret (jG l))) s):=
 .of_wp λprog w A R s h=>by
  obtain⟨f,g,d,tk,os⟩:=s;obtain⟨e,h⟩:=h
  wp_walk
  exact⟨_,rfl,h⟩
end VL
namespace VL
open PySem PySem.Spec PyProof.Rows L2
noncomputable def Ht(K:aD):R2:=λx y H Q=>∃a k xs,x = .ref a/\y = .int k/\SqT K H a xs/\xs≠[]/\1<=k/\k<2^62/\xs.length*k.toNat<=sizeLine/\
 (k=1->Q (.ref a) H)/\∀p,H p=none->Q (.ref p) (upd H p (.tup (aT k.toNat xs).flatten))
theorem Ih{X:Cx}:Uh X (cX .Mult) (Ht X.K):=by
 intro T s Z H x y v u Q I w J h;obtain⟨a,k,S,rfl,rfl,N,B,W,U,l,C,O⟩:=h;cases w;obtain⟨t,rfl⟩:=J;obtain⟨c,j,G,_⟩:=I.tuple N;obtain⟨⟨M,f,m,i⟩,d,D,n,A⟩:=id G;subst D A;have p:=j.length
 refine gC rfl ⟨_,d,rfl⟩ (λr=>g9 r k t) UA F.fills_int_mul F.slot_int_rmul QA F.slot_int_index.lookup
  (fC F.slot_int_rmul (g9 s k t) F.entry_int_rmul (F.args_int_rmul_2 _ _) (Si k t a c.toArray n f i) ⟨d,rfl,⟨_,d,rfl⟩,?_⟩)
 by_cases E:k=1
 ·subst E;exact fC F.slot_tuple_mul ⟨_,d,rfl⟩ F.entry_tuple_mul (F.args_tuple_mul_2 _ _) (Rf a c.toArray n f i t) ⟨d,.ref a,H,I,rfl,C rfl⟩
 ·have g:c.toArray.isEmpty=aB:=by
   cases c with
   | nil=>exact absurd (j.nil_iff.mp rfl) B
   | cons _ _=>rfl
  have P:i5 (λL R=>L++R) #[] (aT k.toNat c.toArray)=(aT k.toNat c).flatten.toArray:=by have:=Ul c k.toNat [];exact this
  have z:(aT k.toNat c).flatten.length<=sizeLine:=by rw[Qd,cN,<-p];exact l
  refine fC F.slot_tuple_mul ⟨_,d,rfl⟩ F.entry_tuple_mul (F.args_tuple_mul_2 _ _) (Sj a c.toArray n f i k t (by omega) (by omega) g (by rw[aO,<-p];exact l) _ P (by rw[aO];exact z)) ⟨d,?_⟩;refine⟨.ref s.heap.objs.size,_,I.laid (λb Y q=>aE _ q) (aH _) ?_,rfl,O _ (I.hok.fresh (aH _))⟩;exact⟨⟨by rw[Qd,cN];exact l,λo e=>TC e⟩,_,j.rep k.toNat,jK _ _⟩
noncomputable def PH:PV->PV->Option PV
 | .tup m,.int k=>if Zv m=aC/\m≠[]/\1<=k/\k<=1000000/\m.length*k.toNat<=10000 then aA (.tup (aT k.toNat m).flatten) else none
 | _,_=>none
theorem Ii{K:aD}:RB K (Ht K) PH:=λH x y a b l i fb g t e Q k=>by
 cases a with
 | tup m=>cases b with
  | int n=>
   unfold PH at e;simp only at e;split at e
   case isFalse=>cases e
   rename_i c;cases e;obtain⟨p,j,rfl,s,f⟩:=g.tup_inv;refine⟨p,n,j,rfl,t.int_inv.1,SqT.of s,λz=>c.2.1 (eM.mp (by rw[<-f.len,z];rfl)),c.2.2.1,by omega,by rw[f.len];exact cI (lt_size c.2.2.2.2),λz=>?_,λq h=>?_⟩
   ·subst z;have o:(aT (Int.toNat 1) m).flatten=m:=by simp
    rw[o] at k;exact k _ _ i (Same.refl _) g λr d=>.inl d
   ·exact k _ _ [] (Same.new h _) (Is.tup Zn ((Iss.rep (f.pureEq c.1) n.toNat).mono (Same.new h _))) λr d=>by simp at d
  | _=>cases e
 | _=>cases e
end VL
namespace PW
open PySem L2 VL
noncomputable def RO:XS:=(ZV (eP (Zc Ti [Zj ZX (Za 0) (Za 1)])))
noncomputable def WW:List PV->Option PV:=YT 2 RO
noncomputable def N3:XS:=(ZV (eP (Zc Ti [Za 0])))
noncomputable def Tr:List PV->Option PV:=YT 1 N3
noncomputable def RP:XS:=(ZV (eP (TX (Zc Wl [Za 0,eC (.ty "int")]) (JZ (Zc Wl [Za 0,eC (.ty "bool")])))))
noncomputable def Xf:List PV->Option PV:=YT 1 RP
noncomputable def RQ:XS:=(ZV (eP (TX (Zc Wl [Za 0,eC (.ty "tuple")]) (TX (Zj (W8 aB) (Zc YH [Za 0]) (Za 1)) (Zc S8 [Zs 1 [] (Tj (Za 0)) (.one 0) ZH (Zc Xf [Za 0])])))))
noncomputable def RS:List PV->Option PV:=YT 2 RQ
end PW
set_option maxHeartbeats 1000000
namespace VL
open PySem PySem.Spec PyProof.Rows L2
variable {K:aD}
noncomputable def FF(K:aD)(D:List PV->Option PV)(n:Nat):Sp:=λvs H Q _=>vs.length=n/\∃v0 vr l0 ls fp0 l',vs=v0::vr/\Is K H l0 v0 fp0/\fp0.Nodup/\(∀p∈fp0,W7 (H p))/\Iss K H ls vr []/\D (l0::ls)=aA l'/\
 ∀H' fq,Same (Wq H (·∈fp0)) H'->Is K H' l' v0 fq->fq.Nodup->(∀p∈fq,Wq H (·∈fp0) p=none/\W7 (H' p))->Q .non H'
noncomputable def G9(K:aD)(O W:List Nat)(H0:Hp)(fps:Nat->List aG)(σ:Tf)(D:Yv):OV->Prop
 | .nx s'=>∀js σ' H',Rel K O H0 js s' σ' H'->σ'[0]?=σ[0]?->D.nx σ' H'
 | _=>True
noncomputable def Fb(K:aD)(O W:List Nat)(f:XS):TS:=λD σ H=>∃H0 fps s s',Rel K O H0 fps s σ H/\f s=aA (.nx s')/\G9 K O W H0 fps σ D (.nx s')
noncomputable def EW(X:Cx)(O W:List Nat)(st:ba)(f:XS):Prop:=PS X st (Fb X.K O W f)
noncomputable def Ij(X:Cx)(O W:List Nat)(st:List ba)(f:XS):Prop:=PSs X st (Fb X.K O W f)
section
variable {X:Cx} {O W W1 W2:List Nat} {st:ba} {Z6:List ba} {f g:XS} {pos:dj}
theorem VS.vs0(h:VS X O W st f)(d:0∉W:=by decide):EW X O W st f:=PS.imp h λD l H ⟨g,fps,s,b,r,e,k⟩=>⟨g,fps,s,.nx b,r,e,λj a i c q=>k j a i c (q 0 d).1⟩
theorem Kk(h:EW X O W st f):Ij X O W [st] f:=NI h
theorem RU(m:EW X O W1 st f)(i:Ij X O W2 Z6 g):Ij X O (W1++W2) (st::Z6) (Zr f g):=PSs.imp (Q7 m i) λD x H ⟨c,fps,s,d,r,e,k⟩=>by
 obtain⟨v,o,e⟩:=Zd e
 cases v with
 | nx s1=>exact⟨c,fps,s,s1,r,o,λa p w j h=>⟨c,a,s1,d,j,e,λn b u q t=>k n b u q (t.trans h)⟩⟩
 | bk s1=>cases e
 | ct s1=>cases e
 | rt l=>cases e
theorem Sk{S Z fb:XE}(h:PS X st (Oo (tF X.K S) (Gd (FA (Gx X.K) (Q6 0) (tF X.K Z)) (tF X.K fb) LI)))(v:0∈O:=by decide):EW X O [0] st (X6 0 Z fb S):=PS.imp h λD σ H ⟨H0,fps,s,s',r,e,k⟩=>by
 obtain⟨l,e0,e⟩:=Zd e;obtain⟨a,T,e⟩:=Zd e;obtain⟨b,Y,e⟩:=Zd e;obtain⟨ai,ea,e⟩:=Zd e;obtain⟨bi,eb,e⟩:=Zd e;obtain⟨m,G,e⟩:=Zd e;obtain⟨j,ej,e⟩:=Zd e;obtain⟨ZQ,I,e⟩:=Zd e;obtain⟨n,er,e⟩:=Zd e;obtain⟨_,eg,e⟩:=Zd e;rw[VR ea] at T;rw[VR eb] at Y;rw[L7 er] at I;have G:=T9 G;have hc:=Qv eg;simp only[bV] at hc;obtain⟨N,pl⟩:=hc;obtain⟨c,ec,e⟩:=map_some e;cases e;obtain⟨p,xs,fq,R,U,P,C⟩:=r.lst_at v G;refine⟨λ_=>False,s,l,λ_ z=>z.elim,r.env,e0,λy H1 fy s1 i1 _=>?_⟩;refine⟨.ref p,R,λ_=>False,s,_,λ_ z=>z.elim,r.env.mono s1,T,λz H2 fz s2 i2 _=>?_⟩;obtain⟨rfl,_⟩:=i2.int_inv;have t:=s1.trans s2;obtain⟨q,f1,g,iq,u⟩:=(P.mono t).get I;obtain⟨f,A,fz',rfl,J,hz,rfl⟩:=id iq.lst_inv;refine⟨p,xs,ai,.ref f,rfl,rfl,SqL.of (t _ _ U),?_,λ_=>False,s,_,λ_ z=>z.elim,r.env.mono t,Y,λw Q fw E i3 _=>?_⟩
 ·unfold Tq;rw[P.len,ej];exact g
 obtain⟨rfl,_⟩:=i3.int_inv;have d:=t.trans E;have L:=r.grow d;have B:f∈fps 0:=by rw[C];exact aU _ (u f a9)
 have W:=(L.own 0 v f B).2;have x:Q f=aA (.lst A):=E _ _ J;have:=Is.pure _ _ _ pl i1;subst this;refine⟨f,A,bi,c,rfl,rfl,x,by rw[hz.len];exact ec,?_⟩;have F:=r.nd 0 v;rw[C] at F;have M:f≠p:=λz=>(bM.mp F).1 (z▸u f a9);have i:Iss X.K (L2.upd Q f (.lst (A.set c y))) (n.set c l) (A.set c y) []:=Iss.tr (TK.upd' W) _ _ _ (λq g=>by simp at g) (Iss.setP c N pl ((hz.mono E).pureEq N) (i1.mono (s2.trans E)));have rows:=Iss.setRow (P.mono d) I g (bM.mp F).2 W N i;refine k _ _ _ (L.mutate (o:=.lst (A.set c y)) (l':=.lst (m.set j (.lst (n.set c l)))) (fp':=p::fq) v B R (Ux G) (Is.lst (by rw[L2.upd_ne (ar M)];exact d _ _ U) rows) F (λq g=>?_) (λj hj q g z=>r.dis 0 v j hj q (by rw[C];exact g) z) cT) rfl;refine⟨(r.own 0 v q (by rw[C];exact g)).1,?_⟩;by_cases e:q=f
 ·subst e;rw[Zn];exact cT
 ·rw[L2.upd_ne e];exact(L.own 0 v q (by rw[C];exact g)).2
end
noncomputable def Es:OV->Option PV
 | .nx s=>match s[0]? with | some (aA l)=>aA l | _=>none
 | _=>none
noncomputable def FG(m:Nat)(f:XS):List PV->Option PV:=λls=>if Zv (ls.drop 1)=aC then(f (ZG m ls)).bind Es else none
theorem Kl{N:List ah}{n:Nat}{W:List Nat}{f:XS}{vs:List V}{H:Hp}{Q:VK}{E:XK}(h:FF K (FG N.length f) n vs H Q E):Fb K [0] W f { nx:=λ_ I=>Q .non I,rt:=Q } (L2.start N vs) H:=by
 obtain⟨Z,w,D,l0,L,g,l',rfl,J,F,B,u,e,q⟩:=h;unfold FG at e;split at e
 case isFalse=>cases e
 obtain⟨G,X,k⟩:=Zd e;have d:Iss K H (l0::L) (w::D) (g++[]):=Iss.cons J u;have m:=d.len;generalize o:l0::L=ls at *
 have t:∀i:Nat,ls.length<=i->∀l,(ZG N.length ls)[i]?≠aA (aA l):=λi d l z=>by
  unfold ZG at z;rw[bS (by simpa using d),b6] at z;split at z<;>cases z
 have A:Rel K [0] (Wq H (·∈g)) (λi=>if i=0 then g else []) (ZG N.length ls) (L2.start N (w::D)) H:=by
  refine⟨RK,?_,λi a z=>?_,λi C=>?_,λi d=>?_,λi d p s=>?_,λi d j P p s=>?_⟩
  ·have hq:D.length+1=ls.length:=m;unfold ZG L2.start;simp;omega
  ·by_cases c:i<ls.length
   ·unfold ZG at z;rw[aw (by simpa using c),aR] at z
    cases q:ls[i]? with
    | none=>rw[q] at z;cases z
    | some b=>
     rw[q] at z;cases z
     cases i with
     | zero=>
      rw[<-o] at q;simp at q;subst q;exact⟨w,by unfold L2.start;simp,by simpa using J⟩
     | succ i=>
      rw[<-o] at q;obtain⟨v,f1,U,M,R⟩:=u.get (i:=i) (a:=a) (by simpa using q);have:f1=[]:=by cases f1 with | nil=>rfl | cons x r=>exact absurd (R x a9) (by simp)
      subst this;refine⟨v,?_,by simpa using M⟩;unfold L2.start;rw[aw (by rw[aQ,m];exact c),aR];simp[U]
   ·exact absurd z (t i (by omega) a)
  ·by_cases c:i<ls.length
   ·exact absurd (by unfold ZG;rw[aw (by simpa using c),aR,aN c];rfl) (C ls[i])
   ·have:i≠0:=by rw[<-o] at c;simp at c;omega
    simp[this]
  ·simp at d;subst d;simpa using F
  ·simp at d;subst d;have s:p∈g:=by simpa using s
   exact⟨by unfold Wq;rw[jw s],B p s⟩
  ·simp at d;subst d;simp[P]
 cases G with
 | nx s'=>
  have k:(match s'[0]? with | some (aA l)=>aA l | _=>none)=aA l':=k;split at k
  case h_2=>cases k
  rename_i l O;cases k;refine⟨_,_,_,s',A,X,λT S I y Y=>?_⟩;obtain⟨v,a,b⟩:=y.is 0 _ O;rw[Y] at a;have:v=w:=by unfold L2.start at a;simp at a;exact a.symm
  subst this;exact q I (T 0) y.same b (y.nd 0 (by simp)) λp s=>y.own 0 (by simp) p s
 | rt v=>cases k
 | bk s'=>cases k
 | ct s'=>cases k
section
variable {P:bI} {w:br} {mg:ah->Option aF} {base:bR}
theorem Ik{x:ah}{st:ba}{N d:List ah}{k n:Nat}{W:List Nat}(m:Nat)(f:XS)(D:Def K mg x st)(S:Zl N d (Ze st))
  (l:∀(kV doc pm:aF)(an:Option aG)(b ct:aF)(us:List aF),us.length=d.length->gQ (cM x x (YM st) (Z7 st) (Ze st) .none kV doc pm an b ct) ⟨us,[]⟩=pure (d.zip us))
  (i:d.length=n) (j:N.length=m)
  (c:∀(e:aG)(b:aF)(A:bc)(a:List jH)(s:aL)(H:Hp)(E:XK),Room k (A.deeper (fA x (Ze st) s.heap.objs.size e b))->Ij (TJ OD P w K mg base N x (Ze st) e b A a s H E).nox [0] W (Z7 st) f) :
  Xx P w K mg base x d (FF K (FG m f) n) (k+1):=by
 subst j;refine D.cal S l (λvs H Q E h=>by rw[i];exact h.1) λe b A a s H vs Q E g h=>⟨_,c e b A a s H E g,Kl h⟩
end
noncomputable def PJ(i:Nat)(D:List PV->Option PV)(fs:List XE):XS:=λs=>match s[i]? with
 | some (aA l0)=>(TZ fs s).bind λls=>if Zv ls=aC then(D (l0::ls)).map λl'=>.nx (s.set i (aA l')) else none
 | _=>none
theorem Km{X:Cx}{O:List Nat}{i:Nat}{st:ba}{D:List PV->Option PV}{n:Nat}{fs:List XE}(h:PS X st (Lw (LD (FF X.K D n) [] E0 (NK (Q6 i) (EU X.K fs)))))(Z:fs.length+1=n:=by rfl)(t:i∈O:=by decide):VS X O [i] st (PJ i D fs):=PS.imp h λD' σ H ⟨H0,fps,s,out,r,e,k⟩=>by
 unfold PJ at e;split at e
 case h_2=>cases e
 rename_i l0 S;obtain⟨ls,R,e⟩:=Zd e;split at e
 case isFalse=>cases e
 rename_i F;obtain⟨l',C,rfl⟩:=map_some e;obtain⟨E,Q,Y⟩:=r.is i _ S;refine⟨E,Q,λ_=>False,s,ls,λ_ z=>z.elim,r.env,R,λvs x fp s1 J _=>?_⟩;have:=Iss.pure _ _ _ F J;subst this;show FF X.K D n ((E::vs)++[]) x _ E0;rw[cg];have g:=r.grow s1;refine⟨by rw[bW,J.len,WS R];exact Z,E,vs,l0,ls,fps i,l',rfl,Y.mono s1,r.nd i t,λp B=>(g.own i t p B).2,J,C,λM A T iq L P=>?_⟩;have v:i<s.length:=Ux S;have c:∀b o,b∉fps i->x b=aA o->M b=aA o:=λb o l W=>T b o (by unfold Wq;rw[jx l];exact W);have tk:JR x M:=⟨λb N l=>c b _ (λz=>by have:=(g.own i t b z).2;rw[l] at this;exact this) l,λb o N l=>c b _ (λz=>by have:=(g.own i t b z).2;rw[l] at this;exact this) l,λb o N l=>c b _ (λz=>by have:=(g.own i t b z).2;rw[l] at this;exact this) l⟩
 have y:∀p∈A,p∈fps i\/x p=none:=λp B=>by
  have:=(P p B).1;unfold Wq at this;split at this
  ·exact .inl (by assumption)
  ·exact .inr this
 have fr:∀j,j≠i->∀p∈A,p∉fps j:=λj d p B z=>by
  rcases y p B with h | h
  ·exact g.dis i t j d p h z
  ·exact g.dom j p z h
 have m:VQ fps s.length i A i=A:=Qt v;refine k (VQ fps s.length i A) σ M ⟨λb u l=>c b u (λz=>by rw[(g.own i t b z).1] at l;cases l) (g.same b u l),by rw[cQ];exact r.len,λj a e=>?_,λj h=>?_,λj d=>?_,λj d q f=>?_,λj d k' I q f=>?_⟩ L8
 ·rw[au] at e;by_cases d:i=j
  ·subst d;rw[jw rfl,jw v] at e;cases e;rw[m];exact⟨E,Q,iq⟩
  ·rw[jx d] at e;obtain⟨w,h1,h2⟩:=g.is j a e;rw[ZE (ar d)];refine⟨w,h1,Is.tr tk _ _ _ (λq f=>RdK.of λu hu=>?_) h2⟩;exact c q u (λz=>g.dis i t j (ar d) q z f) hu
 ·by_cases d:i=j
  ·subst d;exact absurd (by rw[au,jw rfl,jw v]) (h l')
  ·rw[ZE (ar d)];exact r.emp j λa z=>h a (by rw[au,jx d];exact z)
 ·by_cases e:j=i
  ·subst e;rw[m];exact L
  ·rw[ZE e];exact r.nd j d
 ·by_cases e:j=i
  ·subst e;rw[m] at f;refine⟨?_,(P q f).2⟩;rcases y q f with h | h
   ·exact(g.own j d q h).1
   ·exact Same.off g.same h
  ·rw[ZE e] at f;refine⟨(r.own j d q f).1,?_⟩;have U:=(g.own j d q f).2;have G:q∉fps i:=λz=>g.dis j d i (ar e) q f z
   cases hh:x q with
   | none=>exact absurd hh (g.dom j q f)
   | some o=>rw[c q o G hh,<-hh];exact U
 ·by_cases e:j=i
  ·subst e;rw[m] at f;rw[ZE I];exact fr k' I q f
  ·rw[ZE e] at f;by_cases C:k'=i
   ·subst C;rw[m];exact λz=>fr j e q z f
   ·rw[ZE C];exact r.dis j d k' I q f
end VL
namespace VL
open PySem PySem.Spec PyProof.Rows L2
variable {K:aD}
noncomputable def CMulW(i j:Int):Prop:=i.natAbs.log2<67108863/\j.natAbs.log2<67108863
noncomputable def Sl(i j:Int):Prop:=j≠0/\j.natAbs.log2<9000
instance (i j:Int):Decidable (CMulW i j):=by unfold CMulW;infer_instance
instance (i j:Int):Decidable (Sl i j):=by unfold Sl;infer_instance
theorem N4(i:Int):dw i<=i.natAbs.log2+1:=by
 unfold dw;split
 ·exact bz _
 ·exact aH _
theorem CMulW.ok{i j:Int}(h:CMulW i j):IntMulOk i j:=by
 unfold IntMulOk iN.Int.intTooBig;have b:=N4 i;have c:=N4 j;have d:=h.1;have a:=h.2
 have:decide (((dw i:Int)+(dw j:Int))>(bitsLine:Int))=aB:=decide_eq_false (by
  have e:(bitsLine:Int)=134217728:=rfl;rw[e];omega)
 rw[this];simp
section
variable {X:Cx} {a b:ao} {fa fb:XE} {pos:dj}
theorem Il:Uh X (cX .Mult) (rI CMulW λi j=>.int (i*j)):=Gk λ_ _ _ _ _ _ _ a q=>mul_int q a.ok
theorem Kn:Uh X (cX .FloorDiv) (rI Sl λi j=>.int (i.fdiv j)):=Gk λ_ _ _ _ _ _ _ a q=>ik a.1 q (.inl (PyProof.noPylong_of_log2 a.2))
abbrev Sm:=MI CMulW (· * ·)
abbrev N5:=MI Sl jb
theorem WX(d:VE X a fa)(c:VE X b fb):VE X (.BinOp a .Mult b pos) (Zj Sm fa fb):=Wk Il (U4 _ _) d c
theorem Sn(d:VE X a fa)(c:VE X b fb):VE X (.BinOp a .FloorDiv b pos) (Zj N5 fa fb):=Wk Kn (U4 _ _) d c
end
theorem So:∀{ns:List Int}{n:Int},n∈ns->n.natAbs.log2<=gV (ns.map .int)
 | m::r,n,h=>by
  rw[gO];simp only[gV,PySem.W.WData.weight];rcases af.mp h with rfl | h
  ·by_cases a:n=0
   ·subst a;have:Nat.log2 (Int.natAbs 0)=0:=by decide +kernel
    omega
   ·rw[jx (by simpa using a)];omega
  ·have:=So h;omega
open PySem.W PySem.Calls in
theorem law_walkB{l:PySem.W.OpenLaw}{q:bI}{i:List ah}{XP:(ah->Option aF)->bR->Prop}{P:br->bR->Prop}{d:DefRec}{KK:Params->aD}{x:ah}{D:List PV->Option PV}(k:Nat)(hn:l.most=aA 63)(O:d.params.defaults=[])
  (hr:Room k jB) (t:∀(w:br)(q:ah)(c:aG),Mq q=aC->cH (KK w.params) (.ref c) q=aC->False) (hD:∀b:List Int,b.length<=63->(∀n∈b,n.natAbs.log2<=1048576)->D [.cst (iL b)]=aA (.bl aC))
  (X:∀(w:br)(h:bR),P w h->(KK w.params).In h)
  (F:∀(w:br)(m:ah->Option aF)(G:aG)(h:bR),(KK w.params).In h->h.Ns cD m->m d.name=aA (.ref G)->
   ∃L:dN,(∀(s:aL)(u:aF),ir s L ⟨[u],[]⟩ [(x,u)])/\∀base:bR,(KK w.params).In base->base.Ns cD m->Tb l.prog w (KK w.params) m base OD k G L [x] (Xj (KK w.params) D 1)) (y:PyProof.Rows.importsNone q=aC:=by decide +kernel) :
  PySem.W.WalkO q i XP P l.row.toRowW d [] (λf vs=>PySem.call f vs):=by
 intro w Q S m mb p yy G o pm cd doc dv kv ho hd hcd B N v W R as A C hrd J hlo;obtain rfl:dv = .none:=Dflts.none B O;obtain rfl:kv = .none:=Dflts.noKw B;obtain⟨a,vs,b,rfl,rfl,E,j,g⟩:=Att.script_of hn A J
 have hw:∀n∈b,n.natAbs.log2<=1048576:=λn h=>by
  have T:(WData.list (b.map jM)).layable=aC:=aj.mp C _ (aq.mpr rfl);unfold WData.layable at T;have I:=of_decide_eq_true (Bool.and_eq_true_iff.mp T).2;have M:WData.weightAll (b.map jM)<=1048576:=by simpa [WData.weight] using I
  exact aV (So h) M
 have U:=X w _ yy;obtain⟨L,hb,hF⟩:=F w m G _ U p.T.g N;refine enter_call (iu (L2.law_call (t w) U p.T.g p.T.b p.T.builtins p.T.nolimit (p.T.seer y) v E j (aV g (by decide)) hr hF hb (λH hO hS=>G1 (hD b g hw) hO hS) λH e Y z=>z) λr Y hq=>?_);obtain⟨rfl,I,M,Z⟩:=hq;exact⟨.inl ⟨.bool aC,.bool aC,[],rfl,λ_=>rfl,.bool aC,Att.post_true l _,λ_=>⟨List.Pairwise.nil,λ_ hm=>(nomatch hm)⟩⟩,I,M,Z⟩
end VL
namespace PW
open PySem L2 VL
noncomputable def V3:XS:=(Zr (RL (xB (Zj JW (Za 1) (Zc YH [Za 0]))) (ZV (eP (Zj ZX (Za 0) (Za 1)))) YC)
  (ZV (eP (Zj YU (Zj Qh (Zj Yc (Zj Yc (Zj Qh (Za 1) (Za 1)) (Zj Qh (eC (.int 3)) (Za 1))) (eC (.int 1))) (eC (.int 5003))) (eC (.int 1999))))))
noncomputable def ZP:List PV->Option PV:=YT 2 V3
noncomputable def Sq:XS:=(Zr (ZA 3 (eP (Zj OG (Za 0) (eC (.int 2)))))
  (Zr (RL (OL (xB (Zj (W8 aB) (Zj YU (Za 0) (eC (.int 2))) (eC (.int 1)))) (xB (Zj Ll (Za 0) (Zj OH (eC (.int 10)) (eC (.int 9)))))) (Zr (Y7 [] (ZW [Za 1]) (.one 4) (ZA 3 (eP (Zj OG (Za 3) (eC (.int 1000))))))
  (ZV (eP (Zj YU (Za 3) (Za 2))))) YC)
  (Zr (ZA 3 (eP (Zj Yc (Zj YU (Za 3) (eC (.int 999979))) (Zj Qh (eC (.int 1009)) (Za 1)))))
  (Zr (ZA 3 (eP (Zj YU (Zj Yc (Zj Qh (Za 3) (Za 3)) (Zj Qh (eC (.int 40503)) (Za 3))) (eC (.int 999983)))))
  (ZV (eP (Zj YU (Zj OG (Zj YU (Zj Yc (Zj Qh (Za 3) (Za 3)) (Zj Qh (eC (.int 7)) (Za 1))) (eC (.int 999961))) (eC (.int 11))) (Za 2))))))))
noncomputable def Zq:List PV->Option PV:=YT 5 Sq
noncomputable def Ts:XS:=(Zr (ZA 4 (eP (Zc Pq [eC (.int 9),Zj Yc (Zj ZX (Zj ZX (Za 0) (Za 1)) (Za 2)) (Za 3)])))
  (Zr (X6 0 (Za 1) (Za 2) (Za 4))
  (X6 0 (Za 2) (Za 1) (Za 4))))
noncomputable def X8:List PV->Option PV:=FG 5 Ts
noncomputable def QB:XS:=(Zr (ZA 2 (Zc ZP [Za 0,eC (.int 0)]))
  (Zr (ZA 3 (eP (Zj Yc (eC (.int 1)) (Zc Zq [Za 2,eC (.int 0),Za 1]))))
  (Zr (ZA 4 (Zs 1 [3] (ZW [Za 3]) (.one 0) ZH (Zj Pz (Qm [eC (.int 0)]) (Za 1))))
  (Zr (ZA 5 (Qm []))
  (Zr (Y7 [4,5] (ZW [Za 3]) (.one 6) (VU 5 (Zc Zq [Zc ZP [Za 0,Zj Yc (eC (.int 6)) (Za 6)],eC (.int 10),Zj Yc (Za 6) (eC (.int 1))]) (Za 6)))
  (Zr (Y7 [4,5] (Ww [eC (.int 1),Za 3]) (.one 6) (Zr (ZA 7 (Zc ZP [Za 0,Za 6]))
  (PJ 4 X8 [Zj ZX (Za 5) (Za 6),Zj ZX (Za 5) (Zc Zq [Za 7,eC (.int 1),Za 6]),Zj Yc (eC (.int 1)) (Zc Zq [Za 7,eC (.int 2),eC (.int 3)])])))
  (Zr (RL (xB (Zj Ll (Za 3) (eC (.int 1)))) (Y7 [4,5] (ZW [Zc Zq [Za 2,eC (.int 3),eC (.int 6)]]) (.one 6) (Zr (ZA 7 (Zc ZP [Za 0,Zj Yc (eC (.int 7)) (Za 6)]))
  (Zr (ZA 8 (Zc Zq [Za 7,eC (.int 4),Za 3]))
  (Zr (ZA 9 (eP (Zj YU (Zj Yc (Zj Yc (Za 8) (eC (.int 1))) (Zc Zq [Za 7,eC (.int 5),Zj Tg (Za 3) (eC (.int 1))])) (Za 3))))
  (PJ 4 X8 [Za 8,Za 9,Zj Yc (eC (.int 1)) (Zc Zq [Za 7,eC (.int 6),eC (.int 2)])]))))) YC)
  (ZV (eP (Zc ZY [Zs 1 [] (Ut (Za 4)) (.one 0) ZH (Zc ZY [Za 0])]))))))))))
noncomputable def QC:List PV->Option PV:=YT 10 QB
noncomputable def UB:XS:=(Zr (RL (xB (Zj (W8 aB) (Zj YU (Za 0) (eC (.int 5))) (eC (.int 4)))) (ZV (eP (Zj Tg (Zj YU (Zj Sm (Za 0) (Za 0)) (Zj Sm (eC (.int 2)) (Zj OH (eC (.int 10)) (eC (.int 29))))) (Zj OH (eC (.int 10)) (eC (.int 29)))))) YC)
  (Zr (RL (xB (Zj (W8 aB) (Zj YU (Za 0) (eC (.int 5))) (eC (.int 3)))) (ZV (eP (Zj Tg (Zj YU (Zj N5 (Za 0) (eC (.int 5))) (eC (.int 2001))) (eC (.int 1000))))) YC)
  (ZV (eP (Zj Tg (Zj YU (Zj N5 (Za 0) (eC (.int 5))) (eC (.int 13))) (eC (.int 6)))))))
noncomputable def WY:List PV->Option PV:=YT 1 UB
noncomputable def RV:XS:=(ZV (eP (Zc ZY [Zs 1 [0,1] (ZW [Za 2]) (.one 0) ZH (Zc WY [Zc ZP [Za 1,Zj Yc (Za 2) (Za 0)]])])))
noncomputable def XX:List PV->Option PV:=YT 3 RV
noncomputable def Ko:XS:=(ZV (eP (Zc ZY [Zs 1 [1,0] (Ut (Za 2)) (.one 0) ZH (GO (xB (Zj (W8 aB) (Za 0) (Za 1))) (Zc WW [Za 2,Za 1]) (GQ J2 (Zj ZX (Zj ZX (Za 2) (Za 1)) (Za 0))))])))
noncomputable def Sr:List PV->Option PV:=YT 3 Ko
noncomputable def UC:XS:=(Zr (ZA 2 (Zs 1 [1] (ZW [Zc YH [Za 0]]) (.one 0) (xB (Zj (W8 aC) (Za 0) (Za 1))) (eP (Za 0))))
  (ZV (eP (Zc ZY [Zs 1 [0,2] (Ut (Za 2)) (.one 0) ZH (Zc Sr [Za 1,Za 0,Za 2])]))))
noncomputable def YI:List PV->Option PV:=YT 3 UC
noncomputable def Im:XS:=(ZV (eP (TX (Zc Wl [Za 0,eC (.ty "tuple")]) (TX (Zj (W8 aB) (Zc YH [Za 0]) (Za 1)) (Zc S8 [Zs 1 [] (Tj (Za 0)) (.one 0) ZH (Zc Xf [Za 0])])))))
noncomputable def V4:List PV->Option PV:=YT 2 Im
end PW
namespace L2
open PySem PySem.Spec PyProof.Rows
abbrev WJ:=aG->cj->List (List S3×V)->It
end L2
namespace VL
open PySem PySem.Spec PyProof.Rows L2
variable {K:aD}
instance (x:ah) (n:Int):Decidable (MulOk x n):=by unfold MulOk;infer_instance
end VL
set_option maxHeartbeats 3200000
namespace VX
open PySem PySem.Spec PyProof.Rows L2 VL
abbrev XR:=Zy->Option ah
noncomputable def Cg(K:aD)(O:List Nat)(fx:XR)(E:XK):TS:=λ_ σ H=>∃H0 fps s n,Rel K O H0 fps s σ H/\fx s=aA n/\∀C H',gg K cD n=aA (aA (.ref C))->Same H0 H'->E (.ref C) none H'
noncomputable def VX(X:Cx)(O:List Nat)(E:XK)(st:ba)(fx:XR):Prop:=PS X st (Cg X.K O fx E)
abbrev XF:=Zy->Option (ah×PV)
end VX
namespace VL
open PySem PySem.Spec PyProof.Rows L2
theorem Inv.freezeL{X:Cx}{i:List (aG×cj)}{j:Tf}{H:Hp}{s:aL}{d:aG}{f:List V}{o:cj}(I:L2.Inv X i j H s)(g:H d=aA (.lst f))(m:s.heap.get? d=aA o) :
  L2.Inv X i j (upd H d (.frz o (.lst f))) s:=by
 have ne:∀b u,H b=aA u->(∀k,u≠.lst k)->b≠d:=λb u q n z=>by rw[z,g] at q;exact n _ (ak q).symm
 have p:∀b,H b=none->b≠d:=λb q z=>by rw[z,g] at q;cases q
 have un:Un X.fs [] H (upd H d (.frz o (.lst f))) s.heap s.heap:=
  ⟨λb o q _ _ _=>q,λb o q _ _ _=>⟨o.slots,q⟩,λb o q n _=>by rw[upd_ne (p b n)];exact n,λb o q _=>⟨o,q⟩,
   λb f q=>by rw[upd_ne (ne b _ q λ_ z=>nomatch z)];exact q,λb o u q=>by rw[upd_ne (ne b _ q λ_ z=>nomatch z)];exact q,λb r q=>⟨#[],by rw[upd_ne (ne b _ q λ_ z=>nomatch z),q];simp⟩⟩
 have h:HOk X.prog X.w (upd H d (.frz o (.lst f))) s.heap:=λb u q=>by
  have a:∀c y,H c=aA (.own y)->upd H d (.frz o (.lst f)) c=aA (.own y):=λc y z=>by rw[upd_ne (ne c _ z λ_ z=>nomatch z)];exact z
  have e:∀c xs',H c=aA (.tup xs')->upd H d (.frz o (.lst f)) c=aA (.tup xs'):=λc y z=>by rw[upd_ne (ne c _ z λ_ z=>nomatch z)];exact z
  by_cases l:b=d
  ·subst l;rw[Zn] at q;cases q;exact⟨m,(I.hok b _ g).stay (λ_ _ _ z=>z) (λc z=>a c _ z) e λc u z=>by rw[upd_ne (ne c _ z λ_ z=>nomatch z)];exact z⟩
  ·rw[upd_ne l] at q;exact(I.hok b u q).stay (λ_ _ _ z=>z) (λc z=>a c _ z) e λc u z=>by rw[upd_ne (ne c _ z λ_ z=>nomatch z)];exact z
 have:=I.un (t':=s.toks) un h;exact this
noncomputable def Rg(f:XE):XE:=λs=>(f s).bind λl=>match l with
 | .lst m=>(Xy m).map λns=>.cst (iL ns)
 | _=>none
theorem UD{X:Cx}{e:ao}{f:XE}(h:VM X e f):VE X e (Rg f):=by
 intro B s G H Q I ⟨P,st,l,M,env,D,k⟩;obtain⟨m,F,g⟩:=Zd (D)
 cases m with
 | lst ms=>
  obtain⟨j,t,x⟩:=map_some (g);subst x;have J:=Xs t;subst J;refine Ym (h B s G H (λv c=>∃p,v = .ref p/\c p=aA (.lst (j.map V.int))/\Same H c/\H p=none) I ⟨st,.lst (iL j),env.free,F,λv W N d is U L=>?_⟩) λu s1 ⟨v,c,i,y,p,E,a,d,A⟩=>?_
  ·obtain⟨p,O,R,rfl,a,C,rfl⟩:=is.lst_inv;obtain⟨rfl,rfl⟩:=C.iL;exact⟨p,rfl,a,d,(L p (by simp)).1⟩
  ·subst E;obtain⟨z,S,n,r,T,e⟩:=i.lstM a;refine⟨.ref p,_,Inv.freezeL i a e,y,k _ _ [] (λb o q=>?_) ?_ (by simp)⟩
   ·rw[upd_ne (λw=>by rw[w,A] at q;cases q)];exact d b o q
   ·unfold Is;exact⟨p,_,rfl,.inl ⟨_,Zn⟩,Iss.ofInts _⟩
 | _=>cases g
end VL
namespace L2
open PySem PySem.Spec PyProof.Rows
abbrev N6(x:ah):ah->Bool:=λy=>y==x
structure CellF(N:List ah)(around scope:cx)(x:ah)(fr:List ah)(ix:List Nat):Prop where
 kind:scope.kind = .function
 cf:∀n acc,fU n scope.names acc=(x,n)::acc
 pc:∀h,jO h scope.names=h.push { cls:=.type "cell",data:=.cell none }
 cells:∀y∈scope.names,y.2 = .cell->y.1=x
 names:∀y∈scope.names,y.2 = .local->scope.names.lookup y.1=aA .local
 frees:∀y∈scope.names,y.2 = .free->(around.names.lookup y.1=aA .cell\/around.names.lookup y.1=aA .free)
 slots:fr.map aA=ix.map (λi=>N[i]?)
 outs:∀z∈fr,(z,bC)∈scope.names
 apart:∀z∈fr,scope.names.lookup z=aA .free
 ne:∀z∈fr,z≠x
theorem CellF.clos{X:Cx}{f:List (aG×cj)}{b:St}{H:Hp}{s:aL}{a:cx}{x:ah}{fr:List ah}{ix:List Nat}(S:CellF X.N X.env.scope a x fr ix)(I:Inv X f b H s):∀y∈a.names,y.2 = .free->(X.env.cells.lookup y.1).isSome=aC:=λy g d=>by obtain⟨c,e⟩:=I.ok.has y.1 (S.frees y g d);rw[e];rfl
theorem MS{M:Model}{A:bc}{E:aF->aL->Prop}{s:aL}{N:List ah}{d b:cx}{a:aG}{f:ah}{c:jH}{x:ah}{fr:List ah}{ix:List Nat}{cl:List (ah×aG)}{Q:jH->aL->Prop}(S:CellF N d b x fr ix)
  (i:Q (newEnv b s.heap.objs.size a ((x,s.heap.objs.size+1)::cl) f none .none (aA c) iV) { s with heap:=(s.heap.push { cls:=.type "dict",data:=.dict #[] }).push { cls:=.type "cell",data:=.cell none } }) :
  ay M A (fZ b a cl [] f none .none (aA c)) Q E s:=by
 simp only[fZ,Option.isSome_some,if_true];refine aI (wpAny_alloc ?_);refine aI (wpAny_layCells _ (λh g cells=>by cases hkc:g==b0<;>simp[hkc]) _ _ _ _ ?_);refine aI (ag (ag ?_));have e:(s.heap.push { cls:=.type "dict",data:=.dict #[] }).objs.size=s.heap.objs.size+1:=bg ..;rw[S.pc];simp only[S.cf,e];exact i
theorem Yh{x y:ah}{a c:aG}{cl:List (ah×aG)}(h:((x,a)::cl).lookup y=aA c):(y=x/\c=a)\/(y≠x/\cl.lookup y=aA c):=by
 rw[bG] at h
 cases q:y==x with
 | true=>rw[q] at h;exact .inl ⟨by simpa using q,by simpa using h.symm⟩
 | false=>rw[q] at h;exact .inr ⟨by simpa using q,h⟩
section
variable {X:Cx} {tg ju iter:ao} {jt:List ao} {scope:cx} {pos:dj} {x:ah} {fr:List ah} {ix:List Nat} {wi:TI} {g:TG} {tt:TT} {te:TE}
abbrev DD(X:Cx)(scope:cx)(x:ah)(C:aG):List (ah×aG):=(x,C+1)::YQ X.env.cells scope.names []
theorem O5{jq:List (aG×cj)}{G:St}{H:Hp}{s2:aL}{L:List aG}{h₁:bR}{tk:Nat}{C:aG}(S:CellF X.N X.env.scope scope x fr ix)(a:Inv X jq G H s2)(f2:∀b∈L,XY X jq H b)(I:∀b∈L,b<s2.heap.objs.size)
  (B:s2.heap.objs.size<=C) (P:h₁.Ns C λ_=>none) (N:h₁.IsCell (C+1) none) (t:∀b o,s2.heap.get? b=aA o->h₁.get? b=aA o) :
  Inv (Q4 (N6 x) X (x::fr) scope (DD X scope x C) C s2 H L) [] (ZF 1 ix G) H { s2 with heap:=h₁,toks:=tk }:=by
 have stk:=a.stkSub;have cs:=S.clos a;have sub:∀y c,(YQ X.env.cells scope.names []).lookup y=aA c->X.env.cells.lookup y=aA c:=λy c e=>XN scope.names [] cs (λh=>by simp at h) e;have lt:∀y c,(YQ X.env.cells scope.names []).lookup y=aA c->c<s2.heap.objs.size:=λy c e=>by obtain⟨v,q⟩:=a.cell y c (sub y c e);exact q.lt
 have Y:(Q4 (N6 x) X (x::fr) scope (DD X scope x C) C s2 H L).Ok:=by
  refine⟨a.ok.mod,S.kind,a.ok.glob,a.ok.blt,B,λy z c w f=>?_,λy T=>?_,λy c Z e=>?_,a.ok.hd,a.ok.frames,.inl rfl,λb A=>⟨?_,λy c e=>?_⟩,a.bs,?_,λb o e A=>?_,λb A z=>?_,a.stack,a.stkFree,a.ok.tab.un a.base,λ_ z=>absurd rfl z⟩
  ·rcases Yh w with⟨s,d⟩ | ⟨s,d⟩<;>rcases Yh f with⟨b1,M⟩ | ⟨b1,M⟩
   ·rw[s,b1]
   ·have h:=lt z c M;rw[d] at h;exact absurd (aZ h B) (f9.mpr (iA C))
   ·have h:=lt y c d;rw[M] at h;exact absurd (aZ h B) (f9.mpr (iA C))
   ·exact a.ok.inj y z c (sub y c d) (sub z c M)
  ·have T:=T
   have:∃k',(relabel scope X.env).names.lookup y=aA k'/\(k' = .cell\/k' = .free):=by
    rcases T with h | h
    ·exact⟨_,h,.inl rfl⟩
    ·exact⟨_,h,.inr rfl⟩
   obtain⟨k',e,Q⟩:=this;obtain⟨k,e0⟩:=Y5 e;have W:=Yi (env:=X.env) e0;have e:(scope.names.map λ(n,k)=>if(k==bC&&X.env.scope.kind==.function&&X.env.kindOf n==aA .cell) then(n,b0) else(n,k)).lookup y=aA k':=e;rw[W] at e;have m:=cP e0;by_cases D:y=x
   ·subst D;exact⟨C+1,by show((y,C+1)::_:List (ah×aG)).lookup y=_;simp[bG]⟩
   cases k with
   | free=>
    obtain⟨c,R⟩:=bY.mp (XQ (cells:=X.env.cells) _ [] m);refine⟨c,?_⟩;show((x,C+1)::_:List (ah×aG)).lookup y=_;rw[bG,show(y==x)=aB by simpa using D];exact R
   | cell=>exact absurd (S.cells _ m rfl) D
   | _=>simp at e;subst e;rcases Q with z | z<;>cases z
  ·show s2.heap.objs.size<=c;have Z:(y==x)=aC:=Z;rcases Yh e with⟨s,d⟩ | ⟨s,d⟩
   ·rw[d];exact eZ B
   ·exact absurd (by simpa using Z) s
  ·exact av (aZ (I b A) B)
  ·rcases Yh e with⟨s,d⟩ | ⟨s,d⟩
   ·rw[d];exact dk (aZ (I b A) (eZ B))
   ·exact(f2 b A).2.2.2.2.1 y c (sub y c d)
  ·exact aV a.ok.bsz a.sz
  ·rcases(f2 b A).2.2.2.1 with z | z
   ·exact a.ok.noex b o e z
   ·exact absurd (aZ (aP (a.ok.bs b o e).1) z) (bh _)
  ·rcases af.mp (stk b z) with e | e
   ·exact(f2 b A).2.1 e
   ·exact(f2 b A).2.2.1 e
 have sl:fr.length=ix.length:=by simpa using congrArg fF S.slots
 refine⟨Y,rfl,a.bare,Un.kept t,⟨_,P,λi y v w f g=>?_⟩,λy c e=>?_,a.hok.fresh B,λy c e=>?_,λp hp=>absurd (show p∈([]:List (aG×cj)) from hp) (by simp),a.hok.kept t,?_⟩
 ·have w:(x::fr)[i]?=aA y:=w;unfold ZF at f
  cases i with
  | zero=>simp at f
  | succ i=>
   have w:fr[i]?=aA y:=by simpa using w
   have f:(ix.map λi=>(G[i]?).join)[i]?=aA (aA v):=by simpa using f
   rw[aR] at f
   cases ej:ix[i]? with
   | none=>rw[ej] at f;cases f
   | some j=>
    rw[ej] at f;have f:(G[j]?).join=aA v:=by simpa using f
    have f:G[j]?=aA (aA v):=by
     cases q:G[j]? with
     | none=>rw[q] at f;cases f
     | some z=>rw[q] at f;exact congrArg aA f
    have hN:X.N[j]?=aA y:=by have q:=congrArg (λl=>l[i]?) S.slots;simp only[aR,w,ej] at q;exact(ak q).symm
    have F:=dc w;have hm:=S.outs y F;have hk:=S.frees _ hm rfl;obtain⟨m,hn,hl⟩:=a.loc;obtain⟨u,r,l⟩:=hl j y v hN f (by rcases hk with k | k;exact .inr (.inl k);exact .inr (.inr k));refine⟨u,r,?_⟩;rcases l with⟨k,_⟩ | ⟨_,c,R,E⟩
    ·have k:X.env.scope.names.lookup y=aA .local:=k;rcases hk with q | q<;>rw[k] at q<;>cases q
    ·obtain⟨c',J⟩:=bY.mp (XQ _ [] hm);have ec:=sub y c' J;rw[R] at ec;cases ec;refine .inr ⟨?_,c,?_,?_⟩
     ·have g:=g;rcases g with g | g
      ·have W:=Yi (env:=X.env) (S.apart y F);have g:(scope.names.map λ(n,k)=>if(k==bC&&X.env.scope.kind==.function&&X.env.kindOf n==aA .cell) then(n,b0) else(n,k)).lookup y=aA .local:=g;rw[W] at g;exfalso;split at g<;>cases g
      ·exact g
     ·show((x,C+1)::_:List (ah×aG)).lookup y=_;rw[bG,show(y==x)=aB by simpa using S.ne y F];exact J
     ·obtain⟨o,U,O⟩:=E;exact⟨o,t _ _ U,O⟩
 ·rcases Yh e with⟨s,d⟩ | ⟨s,d⟩
  ·rw[d];exact⟨_,N⟩
  ·obtain⟨v,o,U,O⟩:=a.cell y c (sub y c d);exact⟨v,o,t _ _ U,O⟩
 ·rcases Yh e with⟨s,d⟩ | ⟨s,d⟩
  ·rw[d];exact a.hok.fresh (by omega)
  ·exact a.freeC y c (sub y c d)
 ·show(ZF 1 ix G).length=(x::fr).length;unfold ZF;rw[bZ,cS,aQ,bW,sl];omega
theorem QD{M:List (aG×cj)}{O:St}{w:Hp}{s2:aL}{Q:List aG}{it:aG}{tn:Nat->bR->Prop}{J:It}{Fin:List V->Hp->Prop}{RR:aF->aG->jl->aL->Prop}{E:aF->aL->Prop}
  (p:X.calm=aC) (S:CellF X.N X.env.scope scope x fr ix)
  (hg:∀cl C s H ex,PG (Q4 (N6 x) X (x::fr) scope cl C s H ex) tg g) (ht:∀cl C s H ex,OE (Q4 (N6 x) X (x::fr) scope cl C s H ex) jt tt) (he:∀cl C s H ex,PE (Q4 (N6 x) X (x::fr) scope cl C s H ex) ju te)
  (L:Inv X M O w s2) (T:R8 X.prog X.w X.K tg J Q it tn) (u:tn 0 s2.heap) (f2:∀b∈Q,XY X M w b)
  {W:Nat->Nat->List V->Hp->Prop} {m0:Nat} (w0:W 0 m0 [] w)
  (turn:∀i m ys H,W i m ys H->ys.length<=sizeLine/\
   ((J.stop i H/\Fin ys H)\/
    (J.go i H/\∃N:List V->Hp->Prop,(∀ys' H',N ys' H'->∃m',m'<m/\W (i+1) m' ys' H')/\
     ∀x H',J.yld i H x H'->g x (ZF 1 ix O) H' λn w=>n.drop 1=(ZF 1 ix O).drop 1/\tt n w λb Z=>if b=aC then te n Z λy H4=>N (ys++[y]) H4 else N ys Z)))
  (R:∀(D C:aG)(oC:cj)(m:ah->Option aF)(s':aL)(H':Hp)(ys:List V),Inv X (M++[(C,oC)]) O (upd H' D (.lst ys)) s'->s'.heap.get? C=aA oC->s'.heap.Ns C m->XY X M (upd H' D (.lst ys)) C->H' D=none->Fin ys H'->RR (.ref D) C (.ok .next) s') :
  ay (model X.prog X.w) X.A (newList []) (λA I=>ay (model X.prog X.w) X.A (fZ scope X.env.globals (YQ X.env.cells scope.names []) [] X.env.qual none .none (aA X.env)) (λf t=>
   gZ (model X.prog X.w) X.A (.compStart (.ListComp ju [⟨tg,iter,jt,0⟩] scope pos) 0 (.ref it) A { f with scope:=relabel scope X.env }) (RR A f.locals) t) E I) E s2:=by
 have F:∀b∈Q,b<s2.heap.objs.size:=λb P=>by obtain⟨o,e,_⟩:=T.obj 0 s2.heap u b P;exact aP e
 refine cb (MS S ?_)
 dsimp only
 generalize l:s2.heap.push { cls:=.type "list",dict:=none,data:=.seq ([]:List aF).toArray }=G2;have U:G2.objs.size=s2.heap.objs.size+1:=by rw[<-l,bg]
 have a:=(bR.Ns.new G2 (.type "dict")).push { cls:=.type "cell",data:=.cell none };generalize d:(G2.push { cls:=.type "dict",data:=.dict #[] }).push { cls:=.type "cell",data:=.cell none }=h₁ at a ⊢;have ext:∀b o,G2.get? b=aA o->h₁.get? b=aA o:=λb o e=>d▸aE _ (aE _ e);have r:h₁.IsCell (G2.objs.size+1) none:=by refine⟨{ cls:=.type "cell",data:=.cell none },?_,rfl⟩;rw[<-d,show G2.objs.size+1=(G2.push { cls:=.type "dict",data:=.dict #[] }).objs.size from(bg ..).symm];exact aX _ rfl
 generalize hCC:G2.objs.size=C at a U r ⊢;generalize k:s2.heap.objs.size=D at U ⊢;have hDC:D≠C:=by omega
 have j:∀b,b<s2.heap.objs.size->b≠C/\b≠D:=λb P=>by rw[k] at P;exact⟨av (by omega),av P⟩
 have G:∀b o,s2.heap.get? b=aA o->h₁.get? b=aA o:=λb o e=>ext b o (l▸aE _ e)
 have B:h₁.get? D=aA { cls:=.type "list",data:=.seq ([]:List aF).toArray 0 }:=by
  have e0:G2.get? D=aA { cls:=.type "list",data:=.seq ([]:List aF).toArray 0 }:=by rw[<-l,<-k];exact aX _ rfl
  exact ext _ _ e0
 have I0:=λtk=>O5 (tk:=tk) S L f2 F (C:=C) (by omega) a r G;refine Rz (s2:=s2) (h₁:=h₁) (fv:=N6 x) (N:=x::fr) (C:=C) (D:=D) (cl:=DD X scope x C) (kk:=1) (ix:=ix) p (hg _ _ _ _ _) (ht _ _ _ _ _) (he _ _ _ _ _) L T u f2 w0 turn R F U k G B I0 λy c e z=>?_;rcases Yh e with⟨a1,Y⟩ | ⟨a1,Y⟩
 ·have q:C+1=D:=Y.symm.trans z;omega
 ·obtain⟨v,q⟩:=L.cell y c (XN scope.names [] (S.clos L) (λh=>by simp at h) Y);exact(j c q.lt).2 z
theorem MT(c:X.calm=aC)(w:PI X tg iter wi)(S:CellF X.N X.env.scope scope x fr ix)
  (G:∀cl C s H ex,PG (Q4 (N6 x) X (x::fr) scope cl C s H ex) tg g) (j:∀cl C s H ex,OE (Q4 (N6 x) X (x::fr) scope cl C s H ex) jt tt) (l:∀cl C s H ex,PE (Q4 (N6 x) X (x::fr) scope cl C s H ex) ju te)
  (k:∀x,bQ iter X.env x=pure x:=by intro _;rfl):PE X (.ListComp ju [⟨tg,iter,jt,0⟩] scope pos) (TN 1 ix wi g tt te):=by
 intro q s B H Q I h;refine eA rfl k (Xw (S.clos I)) S.kind S.names (Ym (w q s B H _ I h) λv s1 y=>Ym y λE s2 r=>?_);obtain⟨O,P,R,J,U,e,n,T,i,f2,W,⟨Y,t⟩,turn⟩:=r;subst e;refine QD c S G j l n T i f2 t turn ?_;intro D C oC m N M L z A p a u d;refine⟨m,p,λZ f=>⟨.ref D,upd M D (.lst L),?_,rfl,d D u⟩⟩;exact(z.unpinned).turned (λb o F e=>f.extBut b o F e) a.1 a.2.1 a.2.2.2.1 a.2.2.2.2.1 a.2.2.2.2.2
noncomputable def O6(N:List ah)(around scope:cx)(x:ah)(fr:List ah)(ix:List Nat):Bool:=
 (match scope.kind with | .function=>aC | _=>aB)&&(scope.names.filter (λy=>y.2==.cell)==[(x,.cell)])&&scope.names.all (λy=>y.2 != .local || scope.names.lookup y.1==aA .local)&&
 scope.names.all (λy=>y.2 != .free || (around.names.lookup y.1==aA .cell || around.names.lookup y.1==aA .free))&&(fr.map aA==ix.map (λi=>N[i]?))&&
 fr.all (λz=>scope.names.contains (z,bC))&&fr.all (λz=>scope.names.lookup z==aA .free)&&fr.all (λz=>z != x)
theorem Hu{x:ah}:∀(names:List (ah×cy))(n:Nat)(a:List (ah×aG)),(names.filter (λy=>y.2==.cell)=[(x,.cell)]->fU n names a=(x,n)::a)/\(names.filter (λy=>y.2==.cell)=[]->fU n names a=a)
 | [],n,a=>⟨λh=>by simp at h,λ_=>rfl⟩
 | (y,k)::r,n,a=>by
  have b:=λn a=>Hu (x:=x) r n a;unfold fU
  cases q:k==b0 with
  | true=>
   rw[jw rfl,fD,show((y,k).2==b0)=aC from q,jw rfl];refine⟨λh=>?_,λh=>by simp at h⟩;injection h with h1 h2;cases h1;exact(b _ _).2 h2
  | false=>
   rw[jx bK,fD,show((y,k).2==b0)=aB from q,jx bK];exact b n a
theorem Hv{x:ah}:∀(names:List (ah×cy))(h:bR),(names.filter (λy=>y.2==.cell)=[(x,.cell)]->jO h names=h.push { cls:=.type "cell",data:=.cell none })/\(names.filter (λy=>y.2==.cell)=[]->jO h names=h)
 | [],h=>⟨λh=>by simp at h,λ_=>rfl⟩
 | (y,k)::r,h=>by
  have a:=λh=>Hv (x:=x) r h;unfold jO
  cases q:k==b0 with
  | true=>
   rw[jw rfl,fD,show((y,k).2==b0)=aC from q,jw rfl];refine⟨λh=>?_,λh=>by simp at h⟩;injection h with h1 h2;exact(a _).2 h2
  | false=>
   rw[jx bK,fD,show((y,k).2==b0)=aB from q,jx bK];exact a h
theorem MU{N:List ah}{b a:cx}{x:ah}{fr:List ah}{ix:List Nat}(h:O6 N b a x fr ix=aC):CellF N b a x fr ix:=by
 unfold O6 at h;simp only[bV] at h;obtain⟨⟨⟨⟨⟨⟨⟨i,d⟩,l⟩,j⟩,m⟩,o⟩,p⟩,k⟩:=h;have d:a.names.filter (λy=>y.2==.cell)=[(x,.cell)]:=by simpa using d
 refine⟨?_,λn g=>(Hu _ n g).1 d,λh=>(Hv _ h).1 d,λy c e=>?_,λy c e=>?_,λy c e=>?_,by simpa using m,λz f=>?_,λz f=>?_,λz f=>?_⟩
 ·split at i
  ·assumption
  ·cases i
 ·have:y∈a.names.filter (λy=>y.2==.cell):=fK.mpr ⟨c,by rw[e];rfl⟩;rw[d] at this;rw[aq.mp this]
 ·have:=aj.mp l y c;rw[e] at this;simpa using this
 ·have:=aj.mp j y c;rw[e] at this;simpa using this
 ·simpa using aj.mp o z f
 ·simpa using aj.mp p z f
 ·simpa using aj.mp k z f
end
end L2
namespace VL
open PySem PySem.Spec PyProof.Rows L2
section
variable {X:Cx} {tg ju iter:ao} {jt:List ao} {scope:cx} {pos:dj} {fi:XL} {T:Tgt} {ft:XT} {fe:XE}
theorem MV(x:ah)(fr:List ah)(ix:List Nat)(b:X.calm=aC)(f:VI X tg iter fi)(S:O6 X.N X.env.scope scope x fr ix=aC)
  (h:∀cl C s H a,PG (Q4 (N6 x) X (x::fr) scope cl C s H a) tg (gT X.K T)) (d:∀cl C s H a,FD (Q4 (N6 x) X (x::fr) scope cl C s H a) jt ft) (g:∀cl C s H a,VM (Q4 (N6 x) X (x::fr) scope cl C s H a) ju fe)
  (c:∀i∈T.slots,i<1:=by decide) (e:∀x,bQ iter X.env x=pure x:=by intro _;rfl):VM X (.ListComp ju [⟨tg,iter,jt,0⟩] scope pos) (Zs 1 ix fi T ft fe):=
 PE.imp (MT b f (MU S) h (λcl C s H a=>(show OE (Q4 (N6 x) X (x::fr) scope cl C s H a) jt (Pk X.K ft) from d cl C s H a)) (λcl C s H a=>(show PE (Q4 (N6 x) X (x::fr) scope cl C s H a) ju (tM X.K fe) from g cl C s H a)) e) (Qr c)
end
end VL
namespace L2
open PySem PySem.Spec PyProof.Rows
theorem MW{X:Cx}(y:X.calm=aC):Y3 X (.builtin "any") (λl H Q=>∃(b:Bool) (p:aG) (ns:List Int),l=[.ref p]/\Td b X.K H p (ns.map V.int)/\Q (.bl (ns.any λz=>z != 0)) H):=by
 intro N s S H l M Q I r h;obtain⟨b,p,bs,rfl,E,q⟩:=h;obtain⟨u,rfl,w⟩:=U2 r;cases w;obtain⟨j,m,a,O⟩:=I.seqB E;have G:p<s.heap.objs.size:=let⟨_,e⟩:=a.has;aP e;have k:=m.length;rw[aQ] at k;refine call_any_walk (Z2 a ?_);refine⟨_,_,_,_,_,_,λi=>bs.getD i 0 != 0,rfl,Walks.seqB (A:=X.A.in1) b (I.ok.hd y) s.heap.objs.size p (av G) j.toArray,⟨IterB.new (aX _ rfl),a.at λo e=>aE _ e⟩,λi v L T R g J=>?_,λP tk C=>?_⟩
 ·have g:j.toArray[i]?=aA v:=g;have g:j[i]?=aA v:=by simpa using g
  have d:i<bs.length:=by rw[k];exact(aW.mp g).1
  obtain⟨u,n,F⟩:=m.get (i:=i) (x:=.int bs[i]) (by rw[aR,aN d];rfl);rw[g] at n;cases n;obtain⟨t,rfl⟩:=F;refine PyProof.Rows.truthy_int ?_;have e:bs.getD i 0=bs[i]:=by rw[aM,aN d];rfl
  rw[<-e];exact J
 ·have e:(aJ j.toArray.size).any (λi=>bs.getD i 0 != 0)=bs.any λz=>z != 0:=by
   rw[aO,<-k,gp,dq,dq];constructor
   ·rintro⟨i,d,h⟩;have d:=aY.mp d;rw[aM,aN d] at h;exact⟨_,cw d,h⟩
   ·rintro⟨x,B,h⟩;obtain⟨i,d,rfl⟩:=fH.mp B;refine⟨i,aY.mpr d,?_⟩;rw[aM,aN d];exact h
  rw[e];refine⟨.bl (bs.any λz=>z != 0),H,I.kept (λc o f=>C c o ?_ (aE _ f)),rfl,q⟩;intro D;rw[aq.mp D] at f;exact absurd (aP f) (bh _)
end L2
namespace VL
open PySem PySem.Spec PyProof.Rows L2
variable {K:aD}
noncomputable def Ss:List PV->Option PV
 | [l]=>(Th l).bind λm=>(Xy m).map λns=>.bl (ns.any λz=>z != 0)
 | _=>none
theorem Io:RC K (λd H Q=>∃(b:Bool) (p:aG) (a:List Int),d=[.ref p]/\Td b K H p (a.map V.int)/\Q (.bl (a.any λz=>z != 0)) H) Ss:=λH vs ls l s h e Q k=>by
 unfold Ss at e;split at e
 ·obtain⟨m,n,f⟩:=Zd e;obtain⟨a,g,rfl⟩:=map_some f;obtain⟨v,rfl,i⟩:=h.one_inv;obtain⟨p,d,t,rfl,c,j,r⟩:=WT (K:=K) i n;have o:=Xs g;subst o;obtain⟨rfl,rfl⟩:=j.iL;obtain⟨b,q⟩:=Qn c;exact⟨b,p,a,rfl,q,k _ H [] (Same.refl H) (Is.bl _) λp c=>by simp at c⟩
 ·cases e
abbrev Hw:=MI (λ_ j=>j≠0) Int.fmod
theorem Ip{X:Cx}{a b:ao}{d fb:XE}{c:dj}(e:VE X a d)(f:VE X b fb):VE X (.BinOp a .Mod b c) (Zj Hw d fb):=Wk Js (U4 _ _) e f
end VL
namespace VL
open PySem PySem.Spec PyProof.Rows L2
section
variable {X:Cx} {a b:ao} {fa fb:XE} {pos:dj}
theorem Kp(d:X.prog.given.tree=none)(g:Room 35 X.A)(c:X.stack=X.env::X.outer)(a:X.env.scope.isGenerator=aB)(b:X.env.scope.isCoroutine=aB):Uh X (cX .FloorDiv) (rI (λ_ j=>j≠0) λi j=>.int (i.fdiv j)):=by
 intro l s m H x y v u Q I e k h;obtain⟨i,j,rfl,rfl,f,q⟩:=h;obtain⟨t,rfl⟩:=e;obtain⟨t',rfl⟩:=k;refine ik f ⟨.int (i.fdiv j),H,I.tok _,⟨_,rfl⟩,q⟩ (.inr (jo I.nolimit ?_ ?_))
 ·have:=g.dp;show X.A.depth+100<hU;omega
 ·exact PySem.SeerAt.of (I.ok.mod.seer.keeps I.bk) d (by rw[I.ok.frames,c]) a b I.ok.blt I.ok.glob
abbrev Kq:=MI (λ_ j=>j≠0) jb
theorem Kr(h:X.prog.given.tree=none)(g:Room 35 X.A)(f:VE X a fa)(i:VE X b fb)(e:X.stack=X.env::X.outer:=by rfl)(c:X.env.scope.isGenerator=aB:=by rfl)(d:X.env.scope.isCoroutine=aB:=by rfl):VE X (.BinOp a .FloorDiv b pos) (Zj Kq fa fb):=Wk (Kp h g e c d) (U4 _ _) f i
end
end VL
namespace PW
open PySem L2 VL
noncomputable def PK:XS:=(ZV (Zc YI [Za 0,eC (.int 0)]))
noncomputable def WB:List PV->Option PV:=YT 1 PK
noncomputable def O7:XS:=(ZV (Zs 1 [1] (ZW [Za 0]) (.one 0) ZH (eP (GO (xB (Zj (W8 aB) (Za 0) (Za 1))) (eC (.int 1)) (eC (.int 0))))))
noncomputable def X9:List PV->Option PV:=YT 2 O7
noncomputable def O8:XS:=(Zr (ZA 1 (eP (Zc YH [Za 0])))
  (Zr (ZA 2 (Zs 2 [1] (NU aB [Za 0]) (.many [0,1]) ZH (eP (Rg (Zj Sd (Zc Ur [Za 1]) (Zc X9 [Za 2,Za 0]))))))
  (Zr (ZA 3 (Zs 1 [1] (ZW [Za 1]) (.one 0) ZH (eP (Rg (Zj Sd (Zc X9 [Za 1,Za 0]) (Zj Pz (Qm [eC (.int 0)]) (Za 1)))))))
  (ZV (Zj Sd (Za 2) (Za 3))))))
noncomputable def Vo:List PV->Option PV:=YT 4 O8
noncomputable def Tn:XS:=(ZV (Zs 1 [2,0] (Ww [Zj Yc (Za 2) (eC (.int 1)),Za 1]) (.one 0) (xB (Zj (W8 aC) (Zj ZX (Zj ZX (Za 2) (Za 0)) (Za 1)) (eC (.int 0)))) (eP (Za 0))))
noncomputable def Yt:List PV->Option PV:=YT 3 Tn
noncomputable def Fc:XS:=(ZV (Zs 2 [2] (Ra aC aC [Za 0,Za 1]) (.many [0,1]) ZH (eP (Zj Tg (Za 0) (Zj Sm (Za 2) (Za 1))))))
noncomputable def UE:List PV->Option PV:=YT 3 Fc
noncomputable def Wn:XS:=(Zr (ZA 3 (Zc Ur [Za 0]))
  (Zr (ZA 4 (Zc Yt [Za 3,Za 1,Za 2]))
  (Zr (XB (xB (Zj Ll (Zc YH [Za 4]) (eC (.int 0)))) (Zr (ZA 5 (eP (Zj ZX (Za 4) (eC (.int 0)))))
  (Zr (RL (Lm (xB (Zj (W8 aB) (Zj ZX (Zj ZX (Za 3) (Za 2)) (Za 2)) (eC (.int 0)))) (xB (Zj JW (Zc OQ [Zj ZX (Zj ZX (Za 3) (Za 5)) (Za 2)]) (Zc OQ [Zj ZX (Zj ZX (Za 3) (Za 2)) (Za 2)])))) (Zr (ZA 6 (eP (Zj ZX (Za 3) (Za 2))))
  (Zr (XC 3 (Za 2) (Zj ZX (Za 3) (Za 5)))
  (XC 3 (Za 5) (Za 6)))) YC)
  (Zr (Y7 [3] (Ut (Za 4)) (.one 7) (XC 3 (Za 7) (Rg (Zc UE [Zj ZX (Za 3) (Za 7),Zj ZX (Za 3) (Za 2),Zj Kq (Zj ZX (Zj ZX (Za 3) (Za 7)) (Za 2)) (Zj ZX (Zj ZX (Za 3) (Za 2)) (Za 2))]))))
  (ZA 4 (Zc Yt [Za 3,Za 1,Za 2]))))))
  (ZV (Za 3)))))
noncomputable def Zz:List PV->Option PV:=YT 8 Wn
noncomputable def Rh:XS:=(ZV (Zs 1 [0] (ZW [Zc YH [Za 0]]) (.one 0) ZH (eP (Rg (Zs 1 [0] (Ut (Za 1)) (.one 0) ZH (eP (Zj ZX (Za 0) (Za 1))))))))
noncomputable def Yf:List PV->Option PV:=YT 1 Rh
noncomputable def XD:XS:=(Zr (ZA 3 (Zc Zz [Za 0,Za 1,Za 2]))
  (Zr (XB (xB (Zc Ss [Rc VP (Zj ZX (Za 3) (Za 2)) (U5 (Zj Yc (Za 2) (eC (.int 1)))) (U5 (Za 1))])) (Zr (ZA 3 (Zc Yf [Zc Zz [Zc Yf [Za 3],Za 1,Za 2]]))
  (ZA 3 (Zc Zz [Za 3,Za 1,Za 2]))))
  (ZV (Za 3))))
noncomputable def Yr:List PV->Option PV:=YT 4 XD
noncomputable def PL:XS:=(Zr (ZA 3 (eP (Zj ZX (Zj ZX (Za 0) (Za 2)) (Za 2))))
  (Zr (Y7 [] (Ww [Zj Yc (Za 2) (eC (.int 1)),Za 1]) (.one 4) (RL (xB (Zc LY [Zs 1 [3] (Ut (Rc VP (Zj ZX (Za 0) (Za 4)) OU (U5 (Za 1)))) (.one 0) ZH (Zj (W8 aC) (Zj Hw (Za 0) (Za 1)) (eC (.int 0)))])) (ZV (eP (Za 4))) YC))
  (ZV (eP (eC .non)))))
noncomputable def Xv:List PV->Option PV:=YT 5 PL
noncomputable def V5:XS:=(Zr (ZA 3 (Zc Yr [Za 0,Za 1,Za 2]))
  (Zr (ZA 4 (Zc Xv [Za 3,Za 1,Za 2]))
  (Zr (XB (xB (LU aC (Za 4))) (Zr (XC 3 (Za 2) (Rg (Zc UE [Zj ZX (Za 3) (Za 2),Zj ZX (Za 3) (Za 4),eC (.int 1)])))
  (Zr (ZA 3 (Zc Yr [Za 3,Za 1,Za 2]))
  (ZA 4 (Zc Xv [Za 3,Za 1,Za 2])))))
  (Zr (RL (xB (Zj JW (Zj ZX (Zj ZX (Za 3) (Za 2)) (Za 2)) (eC (.int 0)))) (XC 3 (Za 2) (Rg (Zs 1 [] (Ut (Zj ZX (Za 3) (Za 2))) (.one 0) ZH (eP (GQ J2 (Za 0)))))) YC)
  (ZV (Za 3))))))
noncomputable def YE:List PV->Option PV:=YT 5 V5
noncomputable def MX:XS:=(ZV (eP (Zc ZY [Zs 2 [] (Ra aB aB [Za 0,Za 1]) (.many [0,1]) ZH (Zj N5 (Za 0) (Za 1))])))
noncomputable def WZ:List PV->Option PV:=YT 2 MX
noncomputable def To:XS:=(ZV (eP (Zc Ti [Zs 2 [2,1] (NU aB [Za 0]) (.many [0,1]) ZH (Zj Sm (Za 1) (Zj ZX (Zj ZX (Za 3) (Za 0)) (Za 2)))])))
noncomputable def YV:List PV->Option PV:=YT 3 To
noncomputable def PN:XS:=(ZV (eP (Zc ZY [Zs 1 [0,1] (ZW [Zc YH [Za 0]]) (.one 0) ZH (Zc YV [Za 1,Za 2,Za 0])])))
noncomputable def WC:List PV->Option PV:=YT 2 PN
noncomputable def QE:XS:=(ZV (eP (Zc ZY [Zs 1 [1] (Tj (Za 0)) (.one 0) ZH (Zc WC [Za 0,Za 1])])))
noncomputable def Yk:List PV->Option PV:=YT 2 QE
noncomputable def N7:XS:=(Zr (ZA 1 (Zc WB [Za 0]))
  (Zr (ZA 2 (eP (Zc YH [Za 1])))
  (Zr (ZA 3 (Zc Vo [Za 1]))
  (Zr (Y7 [] (ZW [Za 2]) (.one 4) (ZA 3 (Zc YE [Za 3,Za 2,Za 4])))
  (Zr (ZA 5 (eP (Zc ZY [Zs 1 [3] (ZW [Za 2]) (.one 0) ZH (Zj ZX (Zj ZX (Za 1) (Za 0)) (Za 0))])))
  (Zr (ZA 6 (eP (Zc ZY [Zs 1 [2] (Ut (Rc VP (Za 3) OU (U5 (Za 2)))) (.one 0) ZH (Zc ZY [Rc VP (Za 0) (U5 (Za 1)) OU])])))
  (Zr (ZA 7 (eP (Zc ZY [Zs 1 [2] (Ut (Rc VP (Za 3) (U5 (Za 2)) OU)) (.one 0) ZH (Zc ZY [Rc VP (Za 0) OU (U5 (Za 1))])])))
  (Zr (ZA 8 (eP (Zc ZY [Zs 1 [5] (Tj (Zc Yk [Za 1,Za 7])) (.one 0) ZH (Zc WZ [Za 0,Za 1])])))
  (Zr (ZA 9 (eP (Zc ZY [Zs 2 [2] (Ra aB aB [Zc Yk [Za 6,Za 1],Za 5]) (.many [0,1]) ZH (Zc WZ [Za 0,Zj PH (MJ [Za 1]) (Za 2)])])))
  (ZV (eP (MJ [Za 6,Za 8,Za 7,Za 9,Za 5]))))))))))))
noncomputable def W0:List PV->Option PV:=YT 10 N7
noncomputable def Ks:XS:=(ZV (eP (Zc Ti [Zs 2 [] (Ra aB aB [Za 0,Za 1]) (.many [0,1]) ZH (Zj Sm (Za 0) (Za 1))])))
noncomputable def Su:List PV->Option PV:=YT 2 Ks
noncomputable def Iq:XS:=(Zr (ZA 2 (eP (Zj ZX (Za 0) (eC (.int 0)))))
  (ZV (eP (Zc ZY [Zs 2 [1] (Ra aB aB [Za 2,Zj ZX (Za 0) (eC (.int 4))]) (.many [0,1]) ZH (Zj YU (Zc Su [Za 0,Rc Qs (Za 2) (U5 (eC (.int 1))) OU]) (Za 1))]))))
noncomputable def QF:List PV->Option PV:=YT 3 Iq
noncomputable def O9:XS:=(ZV (eP (Zj N2 (MJ [Zc Tr [Za 1]]) (Zc QF [Zc W0 [Za 0],Za 1]))))
noncomputable def Vp:List PV->Option PV:=YT 2 O9
noncomputable def Na:XS:=(ZV (eP (TX (Zc Wl [Za 0,eC (.ty "tuple")]) (TX (Zj (W8 aB) (Zc YH [Za 0]) (Za 1)) (Zc S8 [Zs 1 [1] (Tj (Za 0)) (.one 0) ZH (Zc V4 [Za 0,Za 1])])))))
noncomputable def Vq:List PV->Option PV:=YT 2 Na
noncomputable def Kt:XS:=(Zr (RL (Lm (Pm (xB (Zc Wl [Za 0,eC (.ty "tuple")]))) (Lm (xB (Zj (W8 aC) (Zc YH [Za 0]) (eC (.int 5)))) (Pm (xB (Zc V4 [Zj ZX (Za 0) (eC (.int 4)),Za 1]))))) (ZV (eP (eC (.bl aB)))) YC)
  (ZV (eP (Zc S8 [Zs 1 [1] (Tj (Rc Qs (Za 0) OU (U5 (eC (.int 4))))) (.one 0) ZH (Zc Vq [Za 0,Za 1])]))))
noncomputable def Sv:List PV->Option PV:=YT 2 Kt
noncomputable def Hx:XS:=(Zr (ZA 1 (Zc QC [Za 0,eC (.int 7)]))
  (Zr (ZA 2 (Zc XX [Za 0,eC (.int 13),Zc YH [Za 1]]))
  (Zr (ZA 3 (Zc W0 [Za 1]))
  (Zr (ZA 4 (Zc Vp [Za 1,Za 2]))
  (Zr (RL (xB (Zj (W8 aB) (Zc Zq [Zc ZP [Za 0,eC (.int 12)],eC (.int 7),eC (.int 2)]) (eC (.int 0)))) (ZA 3 (Zc W0 [Za 1])) YC)
  (Zr (RL (Lm (Pm (xB (Zc Sv [Za 3,Zj Tg (Zc YH [Za 1]) (eC (.int 1))]))) (Lm (Pm (xB (Zc V4 [Za 4,Zc YH [Za 1]]))) (xB (Zj (W8 aC) (Zj ZX (Za 4) (eC (.int 0))) (Zc Ti [Za 2]))))) (ZV (eP (eC (.bl aB)))) YC)
  (Zr (Y7 [] (ZW [Zj Tg (Zc YH [Za 1]) (eC (.int 1))]) (.one 5) (Zr (ZA 6 (eP (Zc Ti [Zs 2 [] (Ra aB aB [Zj ZX (Zj ZX (Za 3) (eC (.int 0))) (Za 5),Rc Qs (Za 2) (U5 (eC (.int 1))) OU]) (.many [0,1]) ZH (Zj Sm (Za 0) (Za 1))])))
  (RL (Lm (xB (Zj JW (Zj ZX (Zj ZX (Za 3) (eC (.int 4))) (Za 5)) (eC (.int 1)))) (xB (Zj (W8 aC) (Zj ZX (Za 4) (Zj Yc (Za 5) (eC (.int 1)))) (Zj YU (Za 6) (Zj ZX (Zj ZX (Za 3) (eC (.int 4))) (Za 5)))))) (ZV (eP (eC (.bl aB)))) YC)))
  (ZV (eP (eC (.bl aC)))))))))))
noncomputable def D_law:List PV->Option PV:=YT 7 Hx
end PW
namespace VL
open PySem PySem.Spec PyProof.Rows L2
theorem Va{N P:List ah}{h:cx}(a:h.kind = .function:=by rfl)(b:h.isCoroutine=aB:=by rfl)(c:h.isGenerator=aB:=by rfl)(d:N.Nodup:=by decide +kernel)(e:N.take P.length=P:=by rfl)
  (f:∀x∈P,h.names.lookup x=aA .local\/h.names.lookup x=aA .cell:=by decide +kernel) (g:∀y∈h.names,y.2≠.free:=by decide +kernel):Zl N P h:=⟨a,b,c,d,e,f,g⟩
section
variable {X:Cx} {e e1 e2 e3 e4 e5:ao} {f f1 f2 f3 f4 f5:XE} {es:List ao} {fs:List XE} {x:ah} {p pos pos':dj} {k k' n:Nat} {O W:List Nat}
theorem vo(i:Nat)(c:X.N[i]?=aA x:=by rfl)(d:EL X.env.scope x:=by first | exact i6 rfl | exact hV (i6 rfl) | exact hV (hV rfl))(b:(x==("__debug__" : ah))=aB:=by decide)
  (a:(x==("__classdict__" : ah))=aB:=by decide):VE X (.Name x pos) (Za i):=Eh (pv i c d b a)
theorem Y4(a:VE X e1 f1)(b:aS [e1] X.env=(aB,eval e1 X.env)::aS [] X.env:=by rfl):VA X [e1] [f1]:=VH a GR b
theorem Wo(a:VE X e1 f1)(b:VE X e2 f2)(c:aS [e1,e2] X.env=(aB,eval e1 X.env)::aS [e2] X.env:=by rfl)(d:aS [e2] X.env=(aB,eval e2 X.env)::aS [] X.env:=by rfl):VA X [e1,e2] [f1,f2]:=VH a (Y4 b d) c
theorem UG(a:VE X e1 f1)(b:VE X e2 f2)(c:VE X e3 f3)(d:aS [e1,e2,e3] X.env=(aB,eval e1 X.env)::aS [e2,e3] X.env:=by rfl)(e:aS [e2,e3] X.env=(aB,eval e2 X.env)::aS [e3] X.env:=by rfl)(f:aS [e3] X.env=(aB,eval e3 X.env)::aS [] X.env:=by rfl):VA X [e1,e2,e3] [f1,f2,f3]:=VH a (Wo b c e f) d
theorem Ci(a:VE X e1 f1)(b:VE X e2 f2)(c:VE X e3 f3)(d:VE X e4 f4)(f:aS [e1,e2,e3,e4] X.env=(aB,eval e1 X.env)::aS [e2,e3,e4] X.env:=by rfl)(g:aS [e2,e3,e4] X.env=(aB,eval e2 X.env)::aS [e3,e4] X.env:=by rfl)(h:aS [e3,e4] X.env=(aB,eval e3 X.env)::aS [e4] X.env:=by rfl)(e:aS [e4] X.env=(aB,eval e4 X.env)::aS [] X.env:=by rfl):VA X [e1,e2,e3,e4] [f1,f2,f3,f4]:=VH a (UG b c d g h e) f
theorem Tt{j:List ah}{D:List PV->Option PV}(C:Xx X.prog X.w X.K X.mg X.base x j (Xj X.K D n) k)(d:Room k' X.A)(c:VA X (e::es) fs)(h:k<=k':=by decide)(i:Gl X x:=by rfl)(g:fs.length=n:=by rfl)
  (a:(x==("__debug__" : ah))=aB:=by decide) (f:aS (e::es) X.env=(aB,eval e X.env)::aS es X.env:=by rfl) (b:(dZ pos (aS es X.env)).any (·.1)=aB:=by rfl) :
  VM X (.Call (.Name x p) (e::es) [] pos) (Zc D fs):=NS C (d.mono h) i c g a f b
theorem W3{j:List ah}{D:List PV->Option PV}(C:Xx X.prog X.w X.K X.mg X.base x j (Xj X.K D n) k)(d:Room k' X.A)(c:VA X (e::es) fs)(h:k<=k':=by decide)(i:Gl X x:=by rfl)(g:fs.length=n:=by rfl)
  (a:(x==("__debug__" : ah))=aB:=by decide) (f:aS (e::es) X.env=(aB,eval e X.env)::aS es X.env:=by rfl) (b:(dZ pos (aS es X.env)).any (·.1)=aB:=by rfl) :
  VE X (.Call (.Name x p) (e::es) [] pos) (Zc D fs):=VM.ve (NS C (d.mono h) i c g a f b)
theorem vb{id:String}{r:List V->Hp->VK->Prop}{g:List PV->Option PV}(d:Y3 X (.builtin id) r)(f:RC X.K r g)(k:X.mg x=none)(c:VA X (e::es) fs)(j:Gl X x:=by rfl)(l:cW x=aA (.builtin id):=by decide +kernel)(i:x≠"__name__":=by decide)(a:(x==("__debug__" : ah))=aB:=by decide)
  (h:aS (e::es) X.env=(aB,eval e X.env)::aS es X.env:=by rfl) (b:(dZ pos (aS es X.env)).any (·.1)=aB:=by rfl):VE X (.Call (.Name x p) (e::es) [] pos) (Zc g fs):=Po d f j k l c i a h b
theorem N8(g:X.mg "len" = none)(c:VE X e f)(d:Gl X "len":=by rfl)(b:aS [e] X.env=(aB,eval e X.env)::aS [] X.env:=by rfl)(a:(dZ pos (aS [] X.env)).any (·.1)=aB:=by rfl):VE X (.Call (.Name "len" p) [e] [] pos) (Zc YH [f]):=
 Po LB GU d g (by decide +kernel) (Y4 c b) (by decide) (by decide) b a
theorem XG{a:XE}(i:Nat)(h:X.N.Nodup)(g:VM X e a)(d:X.N[i]?=aA x:=by rfl)(b:Jk X.env.scope x:=by first | exact i6 rfl | exact hV rfl)(c:fT e (aA (.Name x pos')) pos.line X.env=pure aB:=by rfl)(f:X.fn x=aC\/X.env.scope.names.lookup x=aA .local:=by first | exact .inl rfl | exact .inr rfl | assumption) :
  VS X O [i] (.Assign [.Name x pos'] e pos) (ZA i a):=GY h d b g c f
theorem Hy(i:Nat)(d:X.N.Nodup)(b:X.N[i]?=aA x:=by rfl)(a:Jk X.env.scope x:=by first | exact i6 rfl | exact hV rfl)(c:X.fn x=aC\/X.env.scope.names.lookup x=aA .local:=by first | exact .inl rfl | exact .inr rfl | assumption):PG X (.Name x pos) (VB i):=Tp d b a c
theorem Sw(i:Nat){N:List ah}{a:cx}{cl:List (ah×aG)}{C:aG}{s:aL}{H:Hp}{b:List aG}(f:N.Nodup:=by decide +kernel)(d:N[i]?=aA x:=by rfl)(c:Jk (Zt X N a cl C s H b).env.scope x:=by exact i6 rfl)(e:(Zt X N a cl C s H b).env.scope.names.lookup x=aA .local:=by rfl):PG (Zt X N a cl C s H b) (.Name x pos) (VB i):=Tp f d c (.inr e)
end
section
variable {X:Cx} {tg iter ju e1 e2:ao} {fi:XL} {T:Tgt} {ft:XT} {fe f1 f2:XE} {p pos pos':dj} {O W:List Nat} {body:List ba} {fb:XS} {scope:cx}
theorem Hz(d:VI X tg iter fi)(g:PG X tg (gT X.K T))(f:Ln X O W body fb)(e:iK (model X.prog X.w) X.A X.env X.xe:=by exact fN)(b:X.calm=aC:=by rfl)(a:∀i∈T.slots,i∉O:=by decide)
  (c:∀x,bQ iter X.env x=pure x:=by intro _;rfl):VS X O (T.slots++W) (.For tg iter body [] pos) (Y7 O fi T fb):=GZ e b d g f a c
theorem MY(d:X.mg "range" = none)(c:VE X e1 f1)(b:Gl X "range":=by rfl)(a:aS [e1] X.env=[(aB,eval e1 X.env)]:=by rfl):VI X tg (.Call (.Name "range" p) [e1] [] pos) (ZW [f1]):=ML b d (Y4 c (by rw[a];rfl)) a
theorem DE(f:X.mg "range" = none)(c:VE X e1 f1)(d:VE X e2 f2)(e:Gl X "range":=by rfl)(b:aS [e1,e2] X.env=[(aB,eval e1 X.env),(aB,eval e2 X.env)]:=by rfl)(a:aS [e2] X.env=[(aB,eval e2 X.env)]:=by rfl):VI X tg (.Call (.Name "range" p) [e1,e2] [] pos) (Ww [f1,f2]):=MM e f (Wo c d (by rw[b,a]) (by rw[a];rfl)) b a
theorem N9(o:ah)(fr:List ah)(ix:List Nat)(a:VI X (.Name o pos') iter fi)(e:∀{cl C s H ex},VE (Zt X ([o]++fr) scope cl C s H ex) ju fe)(S:Wu X.N X.env.scope scope [o] fr ix=aC:=by kernel_rfl)
  (b:([o]++fr).Nodup:=by decide +kernel) (f:∀cl C s H ex,Jk (Zt X ([o]++fr) scope cl C s H ex).env.scope o:=by intro _ _ _ _ _;exact i6 rfl) (g:∀cl C s H ex,(Zt X ([o]++fr) scope cl C s H ex).env.scope.names.lookup o=aA .local:=by intro _ _ _ _ _;rfl) (c:X.calm=aC:=by rfl) (d:∀x,bQ iter X.env x=pure x:=by intro _;rfl) :
  VE X (.ListComp ju [⟨.Name o pos',iter,[],0⟩] scope pos) (Zs 1 ix fi (.one 0) ZH fe):=X5 [o] fr ix c a S (λ_ _ _ _ _=>Tp (i:=0) b rfl (f _ _ _ _ _) (.inr (g _ _ _ _ _))) (λ_ _ _ _ _=>Yb) (λ_ _ _ _ _=>e) (λi a=>by cases a with | head=>exact Nat.zero_lt_one | tail _ h=>cases h) d
end
section
variable {K:aD} {P:bI} {w:br} {mg:ah->Option aF} {base:bR} {x a b c d e:ah} {st:ba} {N:List ah} {k m:Nat} {O W:List Nat} {f:XS}
abbrev DF(x:ah)(st:ba)(us:List aF)(r:List (ah×aF)):Prop:=∀(kV doc pm:aF)(an:Option aG)(cdv ct:aF),gQ (cM x x (YM st) (Z7 st) (Ze st) .none kV doc pm an cdv ct) ⟨us,[]⟩=pure r
abbrev Fd(P:bI)(w:br)(K:aD)(mg:ah->Option aF)(base:bR)(N:List ah)(x:ah)(st:ba)(k:Nat)(O W:List Nat)(f:XS):Prop:=∀{fa:aG}{cdv:aF}{A:bc}{outer:List jH}{s:aL}{H:Hp}{E:XK},Room k (A.deeper (fA x (Ze st) s.heap.objs.size fa cdv))->Ln (TJ OD P w K mg base N x (Ze st) fa cdv A outer s H E).nox O W (Z7 st) f
theorem Fe(O:List Nat)(D:Def K mg x st)(S:Zl N [a] (Ze st))(q:Fd P w K mg base N x st k O W f)(g:∀t,DF x st [t] [(a,t)]:=by intro _ _ _ _ _ _ _;rfl)(h:N.length=m:=by rfl)(d:∀i∈O,1<=i:=by decide):Xx P w K mg base x [a] (Xj K (YT m f) 1) (k+1):=
 OZ m f D S (λ_ _ _ _ _ _ e c=>match e,c with | [t],_=>g t _ _ _ _ _ _) rfl h d λ_ _ _ _ _ _ _ b=>q b
theorem Ma(O:List Nat)(D:Def K mg x st)(S:Zl N [a,b] (Ze st))(q:Fd P w K mg base N x st k O W f)(h:∀t u,DF x st [t,u] [(a,t),(b,u)]:=by intro _ _ _ _ _ _ _ _;rfl)(j:N.length=m:=by rfl)(e:∀i∈O,2<=i:=by decide):Xx P w K mg base x [a,b] (Xj K (YT m f) 2) (k+1):=
 OZ m f D S (λ_ _ _ _ _ _ g d=>match g,d with | [t,u],_=>h t u _ _ _ _ _ _) rfl j e λ_ _ _ _ _ _ _ c=>q c
theorem Jh(O:List Nat)(D:Def K mg x st)(S:Zl N [a,b,c] (Ze st))(q:Fd P w K mg base N x st k O W f)(j:∀t u v,DF x st [t,u,v] [(a,t),(b,u),(c,v)]:=by intro _ _ _ _ _ _ _ _ _;rfl)(l:N.length=m:=by rfl)(g:∀i∈O,3<=i:=by decide):Xx P w K mg base x [a,b,c] (Xj K (YT m f) 3) (k+1):=
 OZ m f D S (λ_ _ _ _ _ _ h e=>match h,e with | [t,u,v],_=>j t u v _ _ _ _ _ _) rfl l g λ_ _ _ _ _ _ _ d=>q d
end
end VL
namespace PW
open PySem L2 VL
noncomputable def Vb(i:Nat):ba:=iD.main.body.getD i (.Pass ⟨0,0,0,0⟩)
section
variable (P:bI) (w:br) (K:aD) (mg:ah->Option aF) (base:bR)
abbrev WD:Prop:=Xx P w K mg base "_law_cell" ["_law_script","_law_k"] (Xj K ZP 2) 1
abbrev V6:Prop:=Xx P w K mg base "_law_part" ["_law_cell_here","_law_turn","_law_many"] (Xj K Zq 3) 1
abbrev QG:Prop:=Xx P w K mg base "_law_web" ["_law_script","_law_most"] (Xj K QC 2) 2
abbrev UH:Prop:=Xx P w K mg base "_law_coins" ["_law_cell_here"] (Xj K WY 1) 1
abbrev UI:Prop:=Xx P w K mg base "_law_purse" ["_law_script","_law_at","_law_houses"] (Xj K XX 3) 2
abbrev UJ:Prop:=Xx P w K mg base "ties_at" ["web","house"] (Xj K WW 2) 1
abbrev Sx:Prop:=Xx P w K mg base "row_of" ["web","house","others"] (Xj K Sr 3) 2
abbrev YJ:Prop:=Xx P w K mg base "square_without" ["web","base"] (Xj K YI 2) 3
abbrev WE:Prop:=Xx P w K mg base "square_of" ["web"] (Xj K WB 1) 4
abbrev Vr:Prop:=Xx P w K mg base "unit_row" ["many","at"] (Xj K X9 2) 1
abbrev Vs:Prop:=Xx P w K mg base "block_of" ["square"] (Xj K Vo 1) 2
abbrev YW:Prop:=Xx P w K mg base "rows_to_clear" ["rows","many","place"] (Xj K Yt 3) 1
abbrev QH:Prop:=Xx P w K mg base "less" ["row","by","often"] (Xj K UE 3) 1
abbrev YX:Prop:=Xx P w K mg base "cleared_below" ["block","many","place"] (Xj K Zz 3) 36
abbrev XH:Prop:=Xx P w K mg base "turned_over" ["block"] (Xj K Yf 1) 1
abbrev XI:Prop:=Xx P w K mg base "crossed_out" ["block","many","place"] (Xj K Yr 3) 37
abbrev WG:Prop:=Xx P w K mg base "unfit_row" ["block","many","place"] (Xj K Xv 3) 1
abbrev Wa:Prop:=Xx P w K mg base "part_found" ["block","many","place"] (Xj K YE 3) 38
abbrev UK:Prop:=Xx P w K mg base "divided" ["line","row"] (Xj K WZ 2) 1
abbrev YY:Prop:=Xx P w K mg base "row_by_column" ["row","square","column"] (Xj K YV 3) 1
abbrev WH:Prop:=Xx P w K mg base "row_times" ["row","square"] (Xj K WC 2) 2
abbrev Wb:Prop:=Xx P w K mg base "multiplied" ["one","other"] (Xj K Yk 2) 3
abbrev Tu:Prop:=Xx P w K mg base "parts" ["web"] (Xj K W0 1) 39
abbrev Sy:Prop:=Xx P w K mg base "by_row" ["line","coins"] (Xj K Su 2) 1
abbrev QI:Prop:=Xx P w K mg base "rests" ["told","purse"] (Xj K QF 2) 2
abbrev QJ:Prop:=Xx P w K mg base "total" ["purse"] (Xj K Tr 1) 1
abbrev Vt:Prop:=Xx P w K mg base "place_of" ["web","purse"] (Xj K Vp 2) 40
abbrev UL:Prop:=Xx P w K mg base "_law_whole" ["_law_number"] (Xj K Xf 1) 1
abbrev V7:Prop:=Xx P w K mg base "_law_row" ["_law_found","_law_houses"] (Xj K V4 2) 2
abbrev Vu:Prop:=Xx P w K mg base "_law_square" ["_law_found","_law_size"] (Xj K Vq 2) 3
abbrev Sz:Prop:=Xx P w K mg base "_law_told" ["_law_found","_law_size"] (Xj K Sv 2) 4
end
section
variable {P:bI} {w:br} {K:aD} {mg:ah->Option aF} {base:bR}
abbrev SA:ba:=Vb 27
theorem MZ:Zl ["_law_script","_law_k"] ["_law_script","_law_k"] (Ze SA):=Va
theorem M0(a:Def K mg "_law_cell" SA)(B:WR mg):WD P w K mg base:=
 Ma [] a MZ λb=>
  (Zf (Wm (NR (vo 1) (N8 B.len (vo 0))) (Zi (Zu (VE.pure (Zk (vo 0) (vo 1))))) Ys)
  (Zi (Zu (VE.pure (Yu (Wv (Ya (Ya (Wv (vo 1) (vo 1)) (Wv Zg (vo 1))) Zg) Zg) Zg)))))
abbrev SD:ba:=Vb 28
theorem sc_l_part:Zl ["_law_cell_here","_law_turn","_law_many","_law_x","_law_k"] ["_law_cell_here","_law_turn","_law_many"] (Ze SD):=Va
theorem M1(a:Def K mg "_law_part" SD)(B:WR mg):V6 P w K mg base:=
 Jh [] a sc_l_part λb=>
  (Zf (XG 3 sc_l_part.nd (VE.pure (Qi (vo 0) Zg)))
  (Zf (Wm (VW.vt (GN (Sa b.units (Yu (vo 0) Zg) Zg) (JY (LR (vo 0) (OI Zg Zg))))) (Zf (Hz (MY B.range (vo 1)) (Hy 4 sc_l_part.nd) (Zi (XG 3 sc_l_part.nd (VE.pure (Qi (vo 3) Zg)))))
  (Zi (Zu (VE.pure (Yu (vo 3) (vo 2)))))) Ys)
  (Zf (XG 3 sc_l_part.nd (VE.pure (Ya (Yu (vo 3) Zg) (Wv Zg (vo 1)))))
  (Zf (XG 3 sc_l_part.nd (VE.pure (Yu (Ya (Wv (vo 3) (vo 3)) (Wv Zg (vo 3))) Zg)))
  (Zi (Zu (VE.pure (Yu (Qi (Yu (Ya (Wv (vo 3) (vo 3)) (Wv Zg (vo 1))) Zg) Zg) (vo 2)))))))))
abbrev QK:ba:=Vb 29
theorem sc_l_tie:Zl ["_law_times_here","_law_one","_law_other","_law_more","_law_many"] ["_law_times_here","_law_one","_law_other","_law_more"] (Ze QK):=Va
theorem Ku(b:Def K mg "_law_tie" QK)(B:WR mg):Xx P w K mg base "_law_tie" (["_law_times_here","_law_one","_law_other","_law_more"]:List ah) (FF K X8 4) 1:=
 Ik (k:=0) 5 Ts b sc_l_tie (λ_ _ _ _ _ _ e d=>match e,d with | [_,_,_,_],_=>rfl) rfl rfl (λg c A a s H E f=>
  (RU (VS.vs0 (XG 4 sc_l_tie.nd (VE.pure (vb (My rfl) J4 B.min (Wo Zg (Ya (Zk (Zk (vo 0) (vo 1)) (vo 2)) (vo 3)))))))
  (RU (Sk (Vl (vo 4) (Vk (LH ix_list (pv 0) (vo 1) (λ_ _=>rfl)) (vo 2) Xi)))
  (Kk (Sk (Vl (vo 4) (Vk (LH ix_list (pv 0) (vo 2) (λ_ _=>rfl)) (vo 1) Xi)))))))
abbrev QL:ba:=Vb 30
theorem sc_l_web:Zl ["_law_script","_law_most","_law_first","_law_houses","_law_times_here","_law_spots","_law_k","_law_cell_here","_law_one","_law_other"] ["_law_script","_law_most"] (Ze QL):=Va
theorem Kv(e:Def K mg "_law_web" QL)(B:WR mg)(b:WD P w K mg base)(a:V6 P w K mg base)(c:Xx P w K mg base "_law_tie" (["_law_times_here","_law_one","_law_other","_law_more"]:List ah) (FF K X8 4) 1):QG P w K mg base:=
 Ma [4,5] e sc_l_web λd=>
  (Zf (XG 2 sc_l_web.nd (Tt b d (Wo (vo 0) Zg)))
  (Zf (XG 3 sc_l_web.nd (VE.pure (Ya Zg (W3 a d (UG (vo 2) Zg (vo 1))))))
  (Zf (Qx (["_law_k"]:List ah) (["_law_houses"]:List ah) [3] (i:=4) sc_l_web.nd rfl rfl rfl (MY B.range (vo 3)) (by kernel_rfl) (λ_ _ _ _ _=>(Sw 0)) (λ_ _ _ _ _=>Yb) (λ_ _ _ _ _=>(L9 (LX (Y4 Zg)) (vo 1))))
  (Zf (XG 5 sc_l_web.nd (GS J3))
  (Zf (Hz (MY B.range (vo 3)) (Hy 6 sc_l_web.nd) (Zi (MP (R7 (Ea PySem.F.plainAttrs_list PySem.F.slot_list_insert PySem.F.type_list_insert MG (pv 5) (VC (W3 a d (UG (W3 b d (Wo (vo 0) (Ya Zg (vo 6)))) Zg (Ya (vo 6) Zg))) (VC (vo 6) Oy)))))))
  (Zf (Hz (DE B.range Zg (vo 3)) (Hy 6 sc_l_web.nd) (Zf (XG 7 sc_l_web.nd (Tt b d (Wo (vo 0) (vo 6))))
  (Zi (Km (R7 (OF c (d.mono (by decide)) rfl (VC (pv 4) (UG (Zk (vo 5) (vo 6)) (Zk (vo 5) (W3 a d (UG (vo 7) Zg (vo 6)))) (Ya Zg (W3 a d (UG (vo 7) Zg Zg)))))))))))
  (Zf (Wm (LR (vo 3) Zg) (Zi (Hz (MY B.range (W3 a d (UG (vo 2) Zg Zg))) (Hy 6 sc_l_web.nd) (Zf (XG 7 sc_l_web.nd (Tt b d (Wo (vo 0) (Ya Zg (vo 6)))))
  (Zf (XG 8 sc_l_web.nd (Tt a d (UG (vo 7) Zg (vo 3))))
  (Zf (XG 9 sc_l_web.nd (VE.pure (Yu (Ya (Ya (vo 8) Zg) (W3 a d (UG (vo 7) Zg (Vm (vo 3) Zg)))) (vo 3))))
  (Zi (Km (R7 (OF c (d.mono (by decide)) rfl (VC (pv 4) (UG (vo 8) (vo 9) (Ya Zg (W3 a d (UG (vo 7) Zg Zg)))))))))))))) Ys)
  (Zi (Zu (VE.pure (ZK Zp ZT rfl B.tuple (by decide +kernel) (Y4 (N9 "_law_row_here" [] [] (Y6 (vo 4)) (ZK Zp ZT rfl B.tuple (by decide +kernel) (Y4 (vo 0))))))))))))))))
abbrev UM:ba:=Vb 31
theorem Nb:Zl ["_law_cell_here"] ["_law_cell_here"] (Ze UM):=Va
theorem Nc(b:Def K mg "_law_coins" UM)(B:WR mg):UH P w K mg base:=
 Fe [] b Nb λa=>
  (Zf (Wm (Sa a.units (Yu (vo 0) Zg) Zg) (Zi (Zu (VE.pure (Vm (Yu (WX (vo 0) (vo 0)) (WX Zg (OI Zg Zg))) (OI Zg Zg))))) Ys)
  (Zf (Wm (Sa a.units (Yu (vo 0) Zg) Zg) (Zi (Zu (VE.pure (Vm (Yu (Sn (vo 0) Zg) Zg) Zg)))) Ys)
  (Zi (Zu (VE.pure (Vm (Yu (Sn (vo 0) Zg) Zg) Zg))))))
abbrev UN:ba:=Vb 32
theorem Nd:Zl ["_law_script","_law_at","_law_houses"] ["_law_script","_law_at","_law_houses"] (Ze UN):=Va
theorem Nf(d:Def K mg "_law_purse" UN)(B:WR mg)(a:UH P w K mg base)(b:WD P w K mg base):UI P w K mg base:=
 Jh [] d Nd λc=>
  (Zi (Zu (VE.pure (ZK Zp ZT rfl B.tuple (by decide +kernel) (Y4 (N9 "_law_k" ["_law_script","_law_at"] [0,1] (MY B.range (vo 2)) (W3 a c (Y4 (W3 b c (Wo (vo 1) (Ya (vo 2) (vo 0))))))))))))
abbrev UO:ba:=Vb 1
theorem Ng:Zl ["web","house"] ["web","house"] (Ze UO):=Va
theorem Nh(a:Def K mg "ties_at" UO)(B:WR mg):UJ P w K mg base:=
 Ma [] a Ng λb=>
  (Zi (Zu (VE.pure (vb (Xc rfl) Us B.sum (Y4 (Zk (vo 0) (vo 1)))))))
abbrev SE:ba:=Vb 7
theorem M3:Zl ["web","house","others"] ["web","house","others"] (Ze SE):=Va
theorem M4(c:Def K mg "row_of" SE)(B:WR mg)(a:UJ P w K mg base):Sx P w K mg base:=
 Jh [] c M3 λb=>
  (Zi (Zu (VE.pure (ZK Zp ZT rfl B.tuple (by decide +kernel) (Y4 (N9 "other" ["house","web"] [1,0] (Y6 (vo 2)) (Hm (Sa b.units (vo 0) (vo 1)) (W3 a b (Wo (vo 2) (vo 1))) (LW (Zk (Zk (vo 2) (vo 1)) (vo 0))))))))))
abbrev YL:ba:=Vb 6
theorem sc_square_without:Zl ["web","base","others"] ["web","base"] (Ze YL):=Va
theorem V8(c:Def K mg "square_without" YL)(B:WR mg)(a:Sx P w K mg base):YJ P w K mg base:=
 Ma [] c sc_square_without λb=>
  (Zf (XG 2 sc_square_without.nd (WU (["house"]:List ah) (["base"]:List ah) [1] rfl (MY B.range (N8 B.len (vo 0))) (by kernel_rfl) (λ_ _ _ _ _=>(Sw 0)) (λ_ _ _ _ _=>(NW (Py b.units (vo 0) (vo 1)))) (λ_ _ _ _ _=>(VE.pure (vo 0)))))
  (Zi (Zu (VE.pure (ZK Zp ZT rfl B.tuple (by decide +kernel) (Y4 (N9 "house" ["web","others"] [0,2] (Y6 (vo 2)) (W3 a b (UG (vo 1) (vo 0) (vo 2))))))))))
abbrev WI:ba:=Vb 5
theorem QM:Zl ["web"] ["web"] (Ze WI):=Va
theorem QN(c:Def K mg "square_of" WI)(B:WR mg)(a:YJ P w K mg base):WE P w K mg base:=
 Fe [] c QM λb=>
  (Zi (Zu (Tt a b (Wo (vo 0) Zg))))
abbrev Vv:ba:=Vb 14
theorem PQ:Zl ["many","at"] ["many","at"] (Ze Vv):=Va
theorem PR(a:Def K mg "unit_row" Vv)(B:WR mg):Vr P w K mg base:=
 Ma [] a PQ λb=>
  (Zi (Zu (WU (["column"]:List ah) (["at"]:List ah) [1] rfl (MY B.range (vo 0)) (by kernel_rfl) (λ_ _ _ _ _=>(Sw 0)) (λ_ _ _ _ _=>Yb) (λ_ _ _ _ _=>(VE.pure (Hm (Sa b.units (vo 0) (vo 1)) Zg Zg))))))
abbrev Vw:ba:=Vb 13
theorem sc_block_of:Zl ["square","many","upper","lower"] ["square"] (Ze Vw):=Va
theorem PU(c:Def K mg "block_of" Vw)(B:WR mg)(a:Vr P w K mg base):Vs P w K mg base:=
 Fe [] c sc_block_of λb=>
  (Zf (XG 1 sc_block_of.nd (VE.pure (N8 B.len (vo 0))))
  (Zf (Qx (["at","row"]:List ah) (["many"]:List ah) [1] (i:=2) sc_block_of.nd rfl rfl rfl (NV aB rfl B.enumerate (Y4 (vo 0))) (by kernel_rfl) (λ_ _ _ _ _=>(Wt (n:=2) rfl (ZR (Sw 0) (ZR (Sw 1) Xr)))) (λ_ _ _ _ _=>Yb) (λ_ _ _ _ _=>(VE.pure (UD (Qw (VM.ve (RH VD Pp rfl B.list (by decide +kernel) (Y4 (vo 1)))) (W3 a b (Wo (vo 2) (vo 0))))))))
  (Zf (Qx (["at"]:List ah) (["many"]:List ah) [1] (i:=3) sc_block_of.nd rfl rfl rfl (MY B.range (vo 1)) (by kernel_rfl) (λ_ _ _ _ _=>(Sw 0)) (λ_ _ _ _ _=>Yb) (λ_ _ _ _ _=>(VE.pure (UD (Qw (W3 a b (Wo (vo 1) (vo 0))) (VM.ve (L9 (LX (Y4 Zg)) (vo 1))))))))
  (Zi (Zu (Qw (vo 2) (vo 3)))))))
abbrev YZ:ba:=Vb 19
theorem UP:Zl ["rows","many","place"] ["rows","many","place"] (Ze YZ):=Va
theorem UQ(a:Def K mg "rows_to_clear" YZ)(B:WR mg):YW P w K mg base:=
 Jh [] a UP λb=>
  (Zi (Zu (WU (["at"]:List ah) (["place","rows"]:List ah) [2,0] rfl (DE B.range (Ya (vo 2) Zg) (vo 1)) (by kernel_rfl) (λ_ _ _ _ _=>(Sw 0)) (λ_ _ _ _ _=>(NW (Py b.units (Zk (Zk (vo 2) (vo 0)) (vo 1)) Zg))) (λ_ _ _ _ _=>(VE.pure (vo 0))))))
abbrev Ni:ba:=Vb 20
theorem Ir:Zl ["row","by","often"] ["row","by","often"] (Ze Ni):=Va
theorem Iu(a:Def K mg "less" Ni)(B:WR mg):QH P w K mg base:=
 Jh [] a Ir λb=>
  (Zi (Zu (WU (["number","other"]:List ah) (["often"]:List ah) [2] rfl (Uv aC aC rfl B.zip (Wo (vo 0) (vo 1))) (by kernel_rfl) (λ_ _ _ _ _=>(Wt (n:=2) rfl (ZR (Sw 0) (ZR (Sw 1) Xr)))) (λ_ _ _ _ _=>Yb) (λ_ _ _ _ _=>(VE.pure (Vm (vo 0) (WX (vo 2) (vo 1))))))))
abbrev Y0:ba:=Vb 18
theorem sc_cleared_below:Zl ["block","many","place","rows","below","first","kept","at"] ["block","many","place"] (Ze Y0):=Va
theorem UR(d:Def K mg "cleared_below" Y0)(B:WR mg)(T:P.given.tree=none)(a:YW P w K mg base)(b:QH P w K mg base):YX P w K mg base:=
 Jh [3] d sc_cleared_below λc=>
  (Zf (XG 3 sc_cleared_below.nd (RH VD Pp rfl B.list (by decide +kernel) (Y4 (vo 0))))
  (Zf (XG 4 sc_cleared_below.nd (Tt a c (UG (vo 3) (vo 1) (vo 2))))
  (Zf (T8 fN (LR (N8 B.len (vo 4)) Zg) (Zf (XG 5 sc_cleared_below.nd (VE.pure (Zk (vo 4) Zg)))
  (Zf (Wm (VW.vt (RG (Sa c.units (Zk (Zk (vo 3) (vo 2)) (vo 2)) Zg) (Qk (NR (vb Q9 LZ B.abs (Y4 (Zk (Zk (vo 3) (vo 5)) (vo 2)))) (vb Q9 LZ B.abs (Y4 (Zk (Zk (vo 3) (vo 2)) (vo 2)))))))) (Zf (XG 6 sc_cleared_below.nd (VE.pure (Zk (vo 3) (vo 2))))
  (Zf (Wz (Vl (Zk (vo 3) (vo 5)) (Vk (pv 3) (vo 2) Xi)))
  (Zi (Wz (Vl (vo 6) (Vk (pv 3) (vo 5) Xi)))))) Ys)
  (Zf (Hz (Y6 (vo 4)) (Hy 7 sc_cleared_below.nd) (Zi (Wz (Vl (UD (Tt b c (UG (Zk (vo 3) (vo 7)) (Zk (vo 3) (vo 2)) (Kr T (c.mono (by decide)) (Zk (Zk (vo 3) (vo 7)) (vo 2)) (Zk (Zk (vo 3) (vo 2)) (vo 2)))))) (Vk (pv 3) (vo 7) Xi)))))
  (Zi (XG 4 sc_cleared_below.nd (Tt a c (UG (vo 3) (vo 1) (vo 2)))))))))
  (Zi (Qu (pv 3))))))
abbrev XJ:ba:=Vb 21
theorem SF:Zl ["block"] ["block"] (Ze XJ):=Va
theorem SG(a:Def K mg "turned_over" XJ)(B:WR mg):XH P w K mg base:=
 Fe [] a SF λb=>
  (Zi (Zu (MV "at" (["block"]:List ah) [0] rfl (MY B.range (N8 B.len (vo 0))) (by kernel_rfl) (λ_ _ _ _ _=>(Tp (i:=0) (show((["at","block"]:List ah)).Nodup by decide +kernel) rfl (hV rfl) (.inl (beq_self_eq_true _)))) (λ_ _ _ _ _=>Yb) (λ_ _ _ _ _=>(VE.pure (UD (WU (["row"]:List ah) (["at"]:List ah) [0] rfl (Y6 (vo 1)) (by kernel_rfl) (λ_ _ _ _ _=>(Sw 0)) (λ_ _ _ _ _=>Yb) (λ_ _ _ _ _=>(VE.pure (Zk (vo 0) (vo 1)))))))))))
abbrev XM:ba:=Vb 17
theorem sc_crossed_out:Zl ["block","many","place","crossed"] ["block","many","place"] (Ze XM):=Va
theorem SH(d:Def K mg "crossed_out" XM)(B:WR mg)(a:YX P w K mg base)(b:XH P w K mg base):XI P w K mg base:=
 Jh [3] d sc_crossed_out λc=>
  (Zf (XG 3 sc_crossed_out.nd (Tt a c (UG (vo 0) (vo 1) (vo 2))))
  (Zf (T8 fN (Uq (vb (MW rfl) Io B.any (Y4 (Xe (Zk (vo 3) (vo 2)) (YO (Ya (vo 2) Zg)) (YO (vo 1)))))) (Zf (XG 3 sc_crossed_out.nd (Tt b c (Y4 (W3 a c (UG (W3 b c (Y4 (vo 3))) (vo 1) (vo 2))))))
  (Zi (XG 3 sc_crossed_out.nd (Tt a c (UG (vo 3) (vo 1) (vo 2)))))))
  (Zi (Qu (pv 3)))))
abbrev WK:ba:=Vb 16
theorem sc_unfit_row:Zl ["block","many","place","part","at"] ["block","many","place"] (Ze WK):=Va
theorem QO(a:Def K mg "unfit_row" WK)(B:WR mg):WG P w K mg base:=
 Jh [] a sc_unfit_row λb=>
  (Zf (XG 3 sc_unfit_row.nd (VE.pure (Zk (Zk (vo 0) (vo 2)) (vo 2))))
  (Zf (Hz (DE B.range (Ya (vo 2) Zg) (vo 1)) (Hy 4 sc_unfit_row.nd) (Zi (Wm (Uq (vb (MF rfl) GV B.any (Y4 (N9 "number" ["part"] [3] (Y6 (Xe (Zk (vo 0) (vo 4)) Xu (YO (vo 1)))) (Er b.units (Ip (vo 0) (vo 1)) Zg))))) (Zi (Zu (VE.pure (vo 4)))) Ys)))
  (Zi (Zu (VE.pure GK)))))
abbrev Wc:ba:=Vb 15
theorem sc_part_found:Zl ["block","many","place","found","unfit"] ["block","many","place"] (Ze Wc):=Va
theorem Rj(e:Def K mg "part_found" Wc)(B:WR mg)(a:XI P w K mg base)(b:WG P w K mg base)(c:QH P w K mg base):Wa P w K mg base:=
 Jh [3] e sc_part_found λd=>
  (Zf (XG 3 sc_part_found.nd (Tt a d (UG (vo 0) (vo 1) (vo 2))))
  (Zf (XG 4 sc_part_found.nd (Tt b d (UG (vo 3) (vo 1) (vo 2))))
  (Zf (T8 fN (J1 (vo 4)) (Zf (Wz (Vl (UD (Tt c d (UG (Zk (vo 3) (vo 2)) (Zk (vo 3) (vo 4)) Zg))) (Vk (pv 3) (vo 2) Xi)))
  (Zf (XG 3 sc_part_found.nd (Tt a d (UG (vo 3) (vo 1) (vo 2))))
  (Zi (XG 4 sc_part_found.nd (Tt b d (UG (vo 3) (vo 1) (vo 2))))))))
  (Zf (Wm (NR (Zk (Zk (vo 3) (vo 2)) (vo 2)) Zg) (Zi (Wz (Vl (UD (WU (["number"]:List ah) ([]:List ah) [] rfl (Y6 (Zk (vo 3) (vo 2))) (by kernel_rfl) (λ_ _ _ _ _=>(Sw 0)) (λ_ _ _ _ _=>Yb) (λ_ _ _ _ _=>(VE.pure (LW (vo 0)))))) (Vk (pv 3) (vo 2) Xi)))) Ys)
  (Zi (Qu (pv 3)))))))
abbrev US:ba:=Vb 22
theorem Nj:Zl ["line","row"] ["line","row"] (Ze US):=Va
theorem Nk(a:Def K mg "divided" US)(B:WR mg):UK P w K mg base:=
 Ma [] a Nj λb=>
  (Zi (Zu (VE.pure (ZK Zp ZT rfl B.tuple (by decide +kernel) (Y4 (X5 (["number","by"]:List ah) ([]:List ah) [] rfl (Uv aB aB rfl B.zip (Wo (vo 0) (vo 1))) (by kernel_rfl) (λ_ _ _ _ _=>(Wt (n:=2) rfl (ZR (Sw 0) (ZR (Sw 1) Xr)))) (λ_ _ _ _ _=>Yb) (λ_ _ _ _ _=>(Sn (vo 0) (vo 1)))))))))
abbrev Y1:ba:=Vb 10
theorem UT:Zl ["row","square","column"] ["row","square","column"] (Ze Y1):=Va
theorem UU(a:Def K mg "row_by_column" Y1)(B:WR mg):YY P w K mg base:=
 Jh [] a UT λb=>
  (Zi (Zu (VE.pure (vb (Xc rfl) Us B.sum (Y4 (X5 (["at","number"]:List ah) (["column","square"]:List ah) [2,1] rfl (NV aB rfl B.enumerate (Y4 (vo 0))) (by kernel_rfl) (λ_ _ _ _ _=>(Wt (n:=2) rfl (ZR (Sw 0) (ZR (Sw 1) Xr)))) (λ_ _ _ _ _=>Yb) (λ_ _ _ _ _=>(WX (vo 1) (Zk (Zk (vo 3) (vo 0)) (vo 2))))))))))
abbrev WL:ba:=Vb 9
theorem QP:Zl ["row","square"] ["row","square"] (Ze WL):=Va
theorem QQ(b:Def K mg "row_times" WL)(B:WR mg)(a:YY P w K mg base):WH P w K mg base:=
 Ma [] b QP λc=>
  (Zi (Zu (VE.pure (ZK Zp ZT rfl B.tuple (by decide +kernel) (Y4 (N9 "column" ["row","square"] [0,1] (MY B.range (N8 B.len (vo 0))) (W3 a c (UG (vo 1) (vo 2) (vo 0)))))))))
abbrev Wd:ba:=Vb 8
theorem Rk:Zl ["one","other"] ["one","other"] (Ze Wd):=Va
theorem Rl(b:Def K mg "multiplied" Wd)(B:WR mg)(a:WH P w K mg base):Wb P w K mg base:=
 Ma [] b Rk λc=>
  (Zi (Zu (VE.pure (ZK Zp ZT rfl B.tuple (by decide +kernel) (Y4 (N9 "row" ["other"] [1] (T3 (vo 0)) (W3 a c (Wo (vo 0) (vo 1)))))))))
abbrev QR:ba:=Vb 12
theorem sc_parts:Zl ["web","square","many","block","place","row","left","right","back","forth"] ["web"] (Ze QR):=Va
theorem Kw(g:Def K mg "parts" QR)(B:WR mg)(d:WE P w K mg base)(e:Vs P w K mg base)(c:Wa P w K mg base)(b:UK P w K mg base)(a:Wb P w K mg base):Tu P w K mg base:=
 Fe [] g sc_parts λf=>
  (Zf (XG 1 sc_parts.nd (Tt d f (Y4 (vo 0))))
  (Zf (XG 2 sc_parts.nd (VE.pure (N8 B.len (vo 1))))
  (Zf (XG 3 sc_parts.nd (Tt e f (Y4 (vo 1))))
  (Zf (Hz (MY B.range (vo 2)) (Hy 4 sc_parts.nd) (Zi (XG 3 sc_parts.nd (Tt c f (UG (vo 3) (vo 2) (vo 4))))))
  (Zf (XG 5 sc_parts.nd (VE.pure (ZK Zp ZT rfl B.tuple (by decide +kernel) (Y4 (N9 "at" ["block"] [3] (MY B.range (vo 2)) (Zk (Zk (vo 1) (vo 0)) (vo 0)))))))
  (Zf (XG 6 sc_parts.nd (VE.pure (ZK Zp ZT rfl B.tuple (by decide +kernel) (Y4 (N9 "line" ["many"] [2] (Y6 (Xe (vo 3) Xu (YO (vo 2)))) (ZK Zp ZT rfl B.tuple (by decide +kernel) (Y4 (Xe (vo 0) (YO (vo 1)) Xu))))))))
  (Zf (XG 7 sc_parts.nd (VE.pure (ZK Zp ZT rfl B.tuple (by decide +kernel) (Y4 (N9 "line" ["many"] [2] (Y6 (Xe (vo 3) (YO (vo 2)) Xu)) (ZK Zp ZT rfl B.tuple (by decide +kernel) (Y4 (Xe (vo 0) Xu (YO (vo 1))))))))))
  (Zf (XG 8 sc_parts.nd (VE.pure (ZK Zp ZT rfl B.tuple (by decide +kernel) (Y4 (N9 "line" ["row"] [5] (T3 (W3 a f (Wo (vo 1) (vo 7)))) (W3 b f (Wo (vo 0) (vo 1))))))))
  (Zf (XG 9 sc_parts.nd (VE.pure (ZK Zp ZT rfl B.tuple (by decide +kernel) (Y4 (X5 (["line","by"]:List ah) (["many"]:List ah) [2] rfl (Uv aB aB rfl B.zip (Wo (W3 a f (Wo (vo 6) (vo 1))) (vo 5))) (by kernel_rfl) (λ_ _ _ _ _=>(Wt (n:=2) rfl (ZR (Sw 0) (ZR (Sw 1) Xr)))) (λ_ _ _ _ _=>Yb) (λ_ _ _ _ _=>(W3 b f (Wo (vo 0) (Wk Ih Ii (OO (Y4 (vo 1))) (vo 2))))))))))
  (Zi (Zu (VE.pure (OO (VH (vo 6) (Ci (vo 8) (vo 7) (vo 9) (vo 5))))))))))))))))
abbrev SI:ba:=Vb 25
theorem M5:Zl ["line","coins"] ["line","coins"] (Ze SI):=Va
theorem M6(a:Def K mg "by_row" SI)(B:WR mg):Sy P w K mg base:=
 Ma [] a M5 λb=>
  (Zi (Zu (VE.pure (vb (Xc rfl) Us B.sum (Y4 (X5 (["number","each"]:List ah) ([]:List ah) [] rfl (Uv aB aB rfl B.zip (Wo (vo 0) (vo 1))) (by kernel_rfl) (λ_ _ _ _ _=>(Wt (n:=2) rfl (ZR (Sw 0) (ZR (Sw 1) Xr)))) (λ_ _ _ _ _=>Yb) (λ_ _ _ _ _=>(WX (vo 0) (vo 1)))))))))
abbrev QS:ba:=Vb 24
theorem sc_rests:Zl ["told","purse","left"] ["told","purse"] (Ze QS):=Va
theorem Kx(b:Def K mg "rests" QS)(B:WR mg)(a:Sy P w K mg base):QI P w K mg base:=
 Ma [] b sc_rests λc=>
  (Zf (XG 2 sc_rests.nd (VE.pure (Zk (vo 0) Zg)))
  (Zi (Zu (VE.pure (ZK Zp ZT rfl B.tuple (by decide +kernel) (Y4 (X5 (["line","by"]:List ah) (["purse"]:List ah) [1] rfl (Uv aB aB rfl B.zip (Wo (vo 2) (Zk (vo 0) Zg))) (by kernel_rfl) (λ_ _ _ _ _=>(Wt (n:=2) rfl (ZR (Sw 0) (ZR (Sw 1) Xr)))) (λ_ _ _ _ _=>Yb) (λ_ _ _ _ _=>(Yu (W3 a c (Wo (vo 0) (Uw (vo 2) (YO Zg) Xu))) (vo 1))))))))))
abbrev QT:ba:=Vb 3
theorem Ky:Zl ["purse"] ["purse"] (Ze QT):=Va
theorem Kz(a:Def K mg "total" QT)(B:WR mg):QJ P w K mg base:=
 Fe [] a Ky λb=>
  (Zi (Zu (VE.pure (vb (Xc rfl) Us B.sum (Y4 (vo 0))))))
abbrev Vx:ba:=Vb 23
theorem PX:Zl ["web","purse"] ["web","purse"] (Ze Vx):=Va
theorem PY(e:Def K mg "place_of" Vx)(B:WR mg)(c:QJ P w K mg base)(b:QI P w K mg base)(a:Tu P w K mg base):Vt P w K mg base:=
 Ma [] e PX λd=>
  (Zi (Zu (VE.pure (Wk Ie Ig (OO (Y4 (W3 c d (Y4 (vo 1))))) (W3 b d (Wo (W3 a d (Y4 (vo 0))) (vo 1)))))))
abbrev UW:ba:=Vb 33
theorem Nl:Zl ["_law_number"] ["_law_number"] (Ze UW):=Va
theorem Nm(a:Def K mg "_law_whole" UW)(B:WR mg):UL P w K mg base:=
 Fe [] a Nl λb=>
  (Zi (Zu (VE.pure (TY (vb YR VJ B.isinstance (Wo (vo 0) (Pr rfl B.int (by decide +kernel)))) (OM (GP (vb YR VJ B.isinstance (Wo (vo 0) (Pr rfl B.bool (by decide +kernel))))))))))
abbrev QU:ba:=Vb 34
theorem KA:Zl ["_law_found","_law_houses"] ["_law_found","_law_houses"] (Ze QU):=Va
theorem KC(c:Def K mg "_law_row" QU)(B:WR mg)(a:UL P w K mg base):V7 P w K mg base:=
 Ma [] c KA λb=>
  (Zi (Zu (VE.pure (TY (vb YR VJ B.isinstance (Wo (vo 0) (Pr rfl B.tuple (by decide +kernel)))) (TY (Hr b.units (N8 B.len (vo 0)) (vo 1)) (OM (vb (Uo rfl) OP B.all (Y4 (N9 "_law_one" [] [] (T3 (vo 0)) (W3 a b (Y4 (vo 0))))))))))))
abbrev Vy:ba:=Vb 37
theorem PZ:Zl ["_law_found","_law_size"] ["_law_found","_law_size"] (Ze Vy):=Va
theorem P0(c:Def K mg "_law_square" Vy)(B:WR mg)(a:V7 P w K mg base):Vu P w K mg base:=
 Ma [] c PZ λb=>
  (Zi (Zu (VE.pure (TY (vb YR VJ B.isinstance (Wo (vo 0) (Pr rfl B.tuple (by decide +kernel)))) (TY (Hr b.units (N8 B.len (vo 0)) (vo 1)) (OM (vb (Uo rfl) OP B.all (Y4 (N9 "_law_row_here" ["_law_size"] [1] (T3 (vo 0)) (W3 a b (Wo (vo 0) (vo 1))))))))))))
abbrev SJ:ba:=Vb 39
theorem M7:Zl ["_law_found","_law_size"] ["_law_found","_law_size"] (Ze SJ):=Va
theorem M8(d:Def K mg "_law_told" SJ)(B:WR mg)(b:V7 P w K mg base)(a:Vu P w K mg base):Sz P w K mg base:=
 Ma [] d M7 λc=>
  (Zf (Wm (VW.vt (RG (Ql (Uq (vb YR VJ B.isinstance (Wo (vo 0) (Pr rfl B.tuple (by decide +kernel)))))) (RG (Py c.units (N8 B.len (vo 0)) Zg) (Qk (Ql (Uq (W3 b c (Wo (Zk (vo 0) Zg) (vo 1))))))))) (Zi (Zu (VE.pure NP))) Ys)
  (Zi (Zu (VE.pure (vb (Uo rfl) OP B.all (Y4 (N9 "_law_square_here" ["_law_size"] [1] (T3 (Uw (vo 0) Xu (YO Zg))) (W3 a c (Wo (vo 0) (vo 1))))))))))
abbrev KD:ba:=Vb 40
theorem sc_law:Zl ["_law_script","_law_web_here","_law_purse_here","_law_told_here","_law_found","_law_k","_law_number"] ["_law_script"] (Ze KD):=Va
theorem Ff{l:aG}{m:dN}(p:Fun K "law" "law" KD l m)(B:WR mg)(h:QG P w K mg base)(c:UI P w K mg base)(b:Tu P w K mg base)(a:Vt P w K mg base)(f:V6 P w K mg base)(d:WD P w K mg base)(i:V7 P w K mg base)(e:Sz P w K mg base):Tb P w K mg base OD 41 l m (["_law_script"]:List ah) (Xj K D_law 1):=
 G0 (O:=[]) (k:=40) 7 Hx p sc_law rfl rfl (by decide) (λq o A j s H E g=>
  (Zf (XG 1 sc_law.nd (Tt h g (Wo (vo 0) Zg)))
  (Zf (XG 2 sc_law.nd (Tt c g (UG (vo 0) Zg (N8 B.len (vo 1)))))
  (Zf (XG 3 sc_law.nd (Tt b g (Y4 (vo 1))))
  (Zf (XG 4 sc_law.nd (Tt a g (Wo (vo 1) (vo 2))))
  (Zf (Wm (Sa g.units (W3 f g (UG (W3 d g (Wo (vo 0) Zg)) Zg Zg)) Zg) (Zi (XG 3 sc_law.nd (Tt b g (Y4 (vo 1))))) Ys)
  (Zf (Wm (VW.vt (RG (Ql (Uq (W3 e g (Wo (vo 3) (Vm (N8 B.len (vo 1)) Zg))))) (RG (Ql (Uq (W3 i g (Wo (vo 4) (N8 B.len (vo 1)))))) (Qk (Py g.units (Zk (vo 4) Zg) (vb (Xc rfl) Us B.sum (Y4 (vo 2)))))))) (Zi (Zu (VE.pure NP))) Ys)
  (Zf (Hz (MY B.range (Vm (N8 B.len (vo 1)) Zg)) (Hy 5 sc_law.nd) (Zf (XG 6 sc_law.nd (VE.pure (vb (Xc rfl) Us B.sum (Y4 (X5 (["_law_one","_law_other"]:List ah) ([]:List ah) [] rfl (Uv aB aB rfl B.zip (Wo (Zk (Zk (vo 3) Zg) (vo 5)) (Uw (vo 2) (YO Zg) Xu))) (by kernel_rfl) (λ_ _ _ _ _=>(Wt (n:=2) rfl (ZR (Sw 0) (ZR (Sw 1) Xr)))) (λ_ _ _ _ _=>Yb) (λ_ _ _ _ _=>(WX (vo 0) (vo 1))))))))
  (Zi (Wm (VW.vt (RG (NR (Zk (Zk (vo 3) Zg) (vo 5)) Zg) (Qk (Py g.units (Zk (vo 4) (Ya (vo 5) Zg)) (Yu (vo 6) (Zk (Zk (vo 3) Zg) (vo 5))))))) (Zi (Zu (VE.pure NP))) Ys))))
  (Zi (Zu (VE.pure NP)))))))))))
end
end PW
namespace PW
open L2 VL
theorem Nn{W:List (List Int)}{h:Nat}(a:h<W.length):WW [wP W,.int (h:Int)]=aA (.int (Zx W h).sum):=by simp[WW,RO,YT,ZG,N1 a]
theorem KG(l:List Int):Tr [pP l]=aA (.int l.sum):=by simp[Tr,N3,YT,ZG]
theorem KH(i:Int):Xf [.int i]=aA (.bl aC):=by simp[Xf,RP,YT,ZG]
theorem KI{l:List Int}(d:l.length<=1000):RS [pP l,.int (l.length:Int)]=aA (.bl aC):=by
 have b:Zs 1 [] (Tj (Za 0)) (.one 0) ZH (Zc Xf [Za 0]) [aA (pP l),aA (.int (l.length:Int))]=aA (.lst (bL (l.map λ_=>aC))):=by rw[Z8 l PV.int (λ_=>.bl aC) (Sg (by simp)) (by omega) (λi c=>⟨_,rfl,rfl,by simp[ZO,KH]⟩)];simp
 have a:S8 [.lst (bL (l.map λ_=>aC))]=aA (.bl aC):=by rw[Kf];simp
 simp[RS,RQ,YT,ZG,b,a,-cp]
noncomputable def KJ(W:List (List Int))(a b:Nat):List (List Int):=(aJ (ent W a b).toNat).map λ(t:Nat)=>[(a:Int),(b:Int),(t:Int)]
noncomputable def HA(W:List (List Int))(a:Nat):List (List Int):=(aJ (W.length-(a+1))).flatMap λj=>KJ W a (a+1+j)
noncomputable def Ve(W:List (List Int)):List (List Int):=(aJ W.length).flatMap (HA W)
theorem M9{a:Type}(f:Nat->List a)(i:Nat):(aJ (i+1)).flatMap f=(aJ i).flatMap f++f i:=by rw[gq];simp
noncomputable def tk(e:Ca):List S3:=[.inl (e.1:Int),.inl (e.2.1:Int)]
noncomputable def SK(W:List (List Int)):Prop:=∀P:Nat->Prop,(∀a b,a<W.length->b<W.length->0<ent W a b->(P a↔P b))->∀i j,i<W.length->j<W.length->(P i↔P j)
theorem P4:∀{l m:List Int},l.Nodup->(∀x∈l,x∈m)->l.length<=m.length
 | [],m,_,_=>bz _
 | x::r,m,nd,h=>by have b:x∈m:=h x (by simp);have a:=bM.mp nd;have:=P4 (l:=r) (m:=m.erase x) a.2 λy c=>(List.mem_erase_of_ne (show y≠x from λz=>a.1 (by rw[<-z];exact c))).mpr (h y (by simp[c]));rw[List.length_erase_of_mem b] at this;have d:=List.length_pos_of_mem b;rw[bW];omega
theorem DG{n:Nat}{l:List Int}(b:l.Nodup)(h:∀x∈l,∃k:Nat,k<n/\x=(k:Int))(e:l.length=n){j:Nat}(d:j<n):(j:Int)∈l:=by
 by_cases q:(j:Int)∈l
 ·exact q
 ·have:=P4 (bM.mpr ⟨q,b⟩) (λx a=>by
   rcases af.mp a with rfl | a
   ·exact bq.mpr ⟨j,aY.mpr d,rfl⟩
   ·obtain⟨k,c,rfl⟩:=h x a;exact bq.mpr ⟨k,aY.mpr c,rfl⟩)
  rw[bW,aQ,b7] at this;omega
noncomputable def rL(M:List (List Int)):List PV:=M.map λr=>.lst (iL r)
theorem Np{M:List (List Int)}{a:Nat}(h:a<M.length):(rL M)[a]?=aA (.lst (iL (Zx M a))):=by unfold rL;rw[aR,Ph h];rfl
theorem KN{M:List (List Int)}{a b:Nat}{t:Int}:(rL M).set a (.lst ((iL (Zx M a)).set b (.int t)))=rL (Up M a b t):=by unfold rL Up;rw[List.map_set];show _=(jD (λr=>PV.lst (iL r)) M).set a (PV.lst (((Zx M a).set b t).map PV.int));rw[List.map_set]
theorem Fg(l:List Int)(k:Nat)(x:Int):(iL l).take k++PV.int x::(iL l).drop k=iL (l.take k++x::l.drop k):=by simp
theorem Xp{f g:XS}{s s1:Zy}(a:f s=aA (.nx s1)):Zr f g s=g s1:=by simp only[PB,a,a0]
theorem V9{W:List (List Int)}(ok:Yz W){i:Nat}(a:i<W.length):(Zx W i).sum=((aJ W.length).map λj=>ent W i j).sum:=by rw[<-JP (Zx W i),ok.sq i a];rfl
theorem Nq{W:List (List Int)}(ok:Yz W):((Ve W).length:Int)=((aJ W.length).map λa=>((aJ (W.length-(a+1))).map λj=>ent W a (a+1+j)).sum).sum:=by
 have b:∀(f:Nat->List (List Int))(n:Nat),(((aJ n).flatMap f).length:Int)=((aJ n).map λi=>((f i).length:Int)).sum:=by
  intro f n
  induction n with
  | zero=>rfl
  | succ n ih=>rw[M9,bZ,YB];omega
 unfold Ve;rw[b];apply Xd;intro a c;unfold HA;rw[b];apply Xd;intro j d;have:=ok.lo a (a+1+j) c (by omega);unfold KJ;rw[aQ,b7];omega
theorem P5{W:List (List Int)}(ok:Yz W):((aJ W.length).map λi=>(Zx W i).sum).sum=2*((Ve W).length:Int):=by rw[Nq ok,<-LN (λi j=>ent W i j) W.length (λi j a b=>ok.sym i j a b) (λi a=>ok.dia i a)];apply Xd;intro i a;exact V9 ok a
theorem W4{n m:Nat}{ix:List Nat}{d:XL}{c:XT}{b:XE}{s:Zy}(g:Nat->Int)(a:d s=aA (Uu m))(f:m<=1000)(h:∀i:Nat,i<m->∃s1,YF (.one 0) (.int (i:Int)) (ZO n ix s)=aA s1/\c s1=aA aC/\b s1=aA (.int (g i))) :
  Zs n ix d (.one 0) c b s=aA (.lst (iL ((aJ m).map g))):=by
 rw[Z8 (aJ m) (λi=>.int (i:Int)) (λi=>.int (g i)) a (by simp;omega) (λi e=>h i (aY.mp e))];simp
theorem KO(l:List Int)(k:Nat):XA (iL l) none (aA (k:Int))=iL (l.take k):=by
 unfold XA;rw[HT.sIx_none,HT.sIx_nat,aQ,fj,gh,<-jf];congr 1;by_cases h:k<=l.length
 ·rw[dF h]
 ·rw[gU (by omega),bX (aH _),bX (by omega)]
theorem KP(l:List Int)(k:Nat):XA (iL l) (aA (k:Int)) none=iL (l.drop k):=by
 unfold XA;rw[HT.sIx_none,HT.sIx_nat,aQ,<-jg];congr 1;by_cases h:k<=l.length
 ·rw[dF h,bX (by simp)]
 ·rw[gU (by omega),eY (aH _),eY (by omega)];simp
theorem Iv{l:List Int}{i:Nat}(h:i<l.length):Yq l i∈l:=by unfold Yq;rw[aM,aN h];exact cw h
theorem Iw{l:List Int}{x:Int}(h:x∈l):∃i,i<l.length/\Yq l i=x:=by obtain⟨i,a,e⟩:=List.getElem_of_mem h;refine⟨i,a,?_⟩;unfold Yq;rw[aM,aN a,e];rfl
end PW
namespace PW
noncomputable def sN:Nat->(Nat->Int)->Int
 | 0,_=>0
 | n+1,f=>sN n f+f n
theorem Zh{f g:Nat->Int}:∀{n:Nat},(∀i,i<n->f i=g i)->sN n f=sN n g
 | 0,_=>rfl
 | n+1,h=>by show sN n f+f n=sN n g+g n;rw[Zh λi a=>h i (by omega),h n (by omega)]
theorem We{f:Nat->Int}{n:Nat}(h:∀i,i<n->f i=0):sN n f=0:=by
 rw[Zh h];clear h
 induction n with
 | zero=>rfl
 | succ n ih=>show sN n _+0=0;rw[ih];rfl
theorem Yg(f g:Nat->Int):∀n,sN n (λi=>f i+g i)=sN n f+sN n g
 | 0=>rfl
 | n+1=>by show sN n _+(f n+g n)=(sN n f+f n)+(sN n g+g n);rw[Yg f g n];omega
theorem ZI(c:Int)(f:Nat->Int):∀n,sN n (λi=>c*f i)=c*sN n f
 | 0=>by show(0:Int)=c*0;simp
 | n+1=>by show sN n _+c*f n=c*(sN n f+f n);rw[ZI c f n,jT]
theorem QV(f:Nat->Nat->Int)(m:Nat):∀n,sN n (λi=>sN m (f i))=sN m (λj=>sN n λi=>f i j)
 | 0=>by show(0:Int)=sN m λ_=>0;rw[We (λ_ _=>rfl)]
 | n+1=>by show sN n (λi=>sN m (f i))+sN m (f n)=sN m (λj=>(sN n λi=>f i j)+f n j);rw[Yg,QV f m n]
theorem Z3{f:Nat->Int}{k:Nat}:∀{n:Nat},k<n->(∀i,i<n->i≠k->f i=0)->sN n f=f k
 | 0,h,_=>by omega
 | n+1,h,z=>by
  show sN n f+f n=f k;by_cases q:k=n
  ·subst q;rw[We λi a=>z i (by omega) (by omega)];omega
  ·rw[Z3 (n:=n) (by omega) λi a=>z i (by omega),z n (by omega) (by omega)];omega
theorem KQ{f:Nat->Int}{k:Nat}:∀{n:Nat},k+1<n->(∀i,i<n->i≠k->i≠k+1->f i=0)->sN n f=f k+f (k+1)
 | 0,h,_=>by omega
 | n+1,h,z=>by
  show sN n f+f n=_;by_cases q:k+1=n
  ·subst q;rw[Z3 (k:=k) (by omega) λi b a=>z i (by omega) a (by omega)]
  ·rw[KQ (n:=n) (by omega) λi b=>z i (by omega),z n (by omega) (by omega) (by omega)];omega
theorem Y9(f:Nat->Int)(n:Nat):((aJ n).map f).sum=sN n f:=by
 induction n with
 | zero=>rfl
 | succ n ih=>rw[gq,eH,jX,ih];simp[sN]
abbrev Mt:=Nat->Nat->Int
noncomputable def Ws(i:Nat)(A:Mt):Mt:=λr c=>A (if r<i then r else r+1) (c+1)
noncomputable def sg:Nat->Int
 | 0=>1
 | n+1=>- sg n
noncomputable def ZU:Nat->Mt->Int
 | 0,_=>1
 | n+1,A=>sN (n+1) λi=>sg i*A i 0*ZU n (Ws i A)
theorem Z4(n:Nat)(A:Mt):ZU (n+1) A=sN (n+1) λi=>sg i*A i 0*ZU n (Ws i A):=rfl
theorem ZD:∀{n:Nat}{A B:Mt},(∀r c,r<n->c<n->A r c=B r c)->ZU n A=ZU n B
 | 0,_,_,_=>rfl
 | n+1,A,B,h=>by rw[Z4,Z4];refine Zh λi a=>?_;rw[h i 0 a (by omega),ZD (n:=n) (A:=Ws i A) (B:=Ws i B) λr c d b=>?_];unfold Ws;exact h _ _ (by split<;>omega) (by omega)
theorem QW:∀{n:Nat}{A B C:Mt}{k:Nat}{x y:Int},k<n->(∀r c,r<n->c<n->r≠k->A r c=C r c/\B r c=C r c)->(∀c,c<n->C k c=x*A k c+y*B k c)->ZU n C=x*ZU n A+y*ZU n B
 | 0,_,_,_,k,_,_,h,_,_=>by omega
 | n+1,A,B,C,k,x,y,hk,h1,h2=>by
  rw[Z4,Z4,Z4,<-ZI,<-ZI,<-Yg];refine Zh λi j=>?_;by_cases q:i=k
  ·subst q;have g:ZU n (Ws i A)=ZU n (Ws i C):=ZD λr c d a=>by unfold Ws;exact(h1 _ _ (by split<;>omega) (by omega) (by split<;>omega)).1
   have f:ZU n (Ws i B)=ZU n (Ws i C):=ZD λr c d a=>by unfold Ws;exact(h1 _ _ (by split<;>omega) (by omega) (by split<;>omega)).2
   rw[g,f,h2 0 (by omega),jT,jU];simp only[bU,dI]
  ·obtain⟨m,l⟩:=h1 i 0 j (by omega) q
   have e:ZU n (Ws i C)=x*ZU n (Ws i A)+y*ZU n (Ws i B):=QW (k:=if k<i then k else k-1) (by split<;>omega) (λr c d a b=>by
    unfold Ws
    exact h1 _ _ (by split<;>omega) (by omega) (by split at b<;>split<;>omega)) (λc a=>by
    have e:(if(if k<i then k else k-1)<i then(if k<i then k else k-1) else(if k<i then k else k-1)+1)=k:=by split<;>(try split)<;>omega
    unfold Ws;rw[e];exact h2 (c+1) (by omega))
   rw[m,l,e,jT];simp only[bU,dI]
theorem Tv:∀{n:Nat}{A:Mt}{k:Nat},k+1<n->(∀c,c<n->A k c=A (k+1) c)->ZU n A=0
 | 0,_,k,h,_=>by omega
 | n+1,A,k,hk,he=>by
  rw[Z4,KQ hk]
  ·have e:ZU n (Ws k A)=ZU n (Ws (k+1) A):=ZD λr c g b=>by
    unfold Ws;by_cases q:r<k
    ·rw[jw q,jw (by omega)]
    ·rw[jx q];by_cases f:r=k
     ·subst f;rw[jw (by omega)];exact(he (c+1) (by omega)).symm
     ·rw[jx (by omega)]
   rw[e,he 0 (by omega)];show sg k*_*_ + - sg k*_*_=0;rw[bT,bT];omega
  ·intro i j l m;rw[Tv (n:=n) (A:=Ws i A) (k:=if k+1<i then k else k-1) (by split<;>omega) λc b=>?_,b5];have d:(if(if k+1<i then k else k-1)<i then(if k+1<i then k else k-1) else(if k+1<i then k else k-1)+1)=k:=by split<;>(try split)<;>omega
   have a:(if(if k+1<i then k else k-1)+1<i then(if k+1<i then k else k-1)+1 else(if k+1<i then k else k-1)+1+1)=k+1:=by split<;>(try split)<;>omega
   unfold Ws;rw[d,a];exact he (c+1) (by omega)
noncomputable def Yl(k:Nat)(v:Nat->Int)(A:Mt):Mt:=λr=>if r=k then v else A r
theorem ZJ(k:Nat)(v:Nat->Int)(A:Mt):Yl k v A k=v:=by unfold Yl;rw[jw rfl]
theorem Yp{k r:Nat}(v:Nat->Int)(A:Mt)(h:r≠k):Yl k v A r=A r:=by unfold Yl;rw[jx h]
theorem Wf{n k:Nat}{A:Mt}{u v:Nat->Int}{x y:Int}(a:k<n):ZU n (Yl k (λc=>x*u c+y*v c) A)=x*ZU n (Yl k u A)+y*ZU n (Yl k v A):=
 QW a (λr c _ _ h=>by rw[Yp _ _ h,Yp _ _ h,Yp _ _ h];exact⟨rfl,rfl⟩) (λc _=>by rw[ZJ,ZJ,ZJ])
noncomputable def EX(k:Nat)(A:Mt):Mt:=Yl k (A (k+1)) (Yl (k+1) (A k) A)
theorem Iy{n k:Nat}{A:Mt}(d:k+1<n):ZU n (EX k A) = - ZU n A:=by
 have two:∀u v:Nat->Int,ZU n (Yl k (λc=>1*u c+1*v c) (Yl (k+1) (λc=>1*u c+1*v c) A))=0:=λu v=>Tv d λc _=>by rw[ZJ,Yp _ _ (by omega),ZJ]
 have same:∀u:Nat->Int,ZU n (Yl k u (Yl (k+1) u A))=0:=λu=>Tv d λc _=>by rw[ZJ,Yp _ _ (by omega),ZJ]
 have a:∀u v:Nat->Int,Yl k u (Yl (k+1) v A)=Yl (k+1) v (Yl k u A):=λu v=>by
  funext r;unfold Yl;by_cases q:r=k
  ·rw[jw q,jx (by omega),jw q]
  ·rw[jx q];by_cases b:r=k+1
   ·rw[jw b,jw b]
   ·rw[jx b,jx b,jx q]
 have h:=two (A k) (A (k+1));rw[Wf (by omega),a,Wf d,a,Wf d,<-a,<-a,<-a,<-a,same,same] at h
 have e:Yl k (A k) (Yl (k+1) (A (k+1)) A)=A:=by
  funext r;unfold Yl;by_cases q:r=k
  ·rw[jw q,q]
  ·rw[jx q];by_cases b:r=k+1
   ·rw[jw b,b]
   ·rw[jx b]
 rw[e] at h;unfold EX;omega
theorem WM:∀(d:Nat){n i:Nat}{A:Mt},i+1+d<n->(∀c,c<n->A i c=A (i+1+d) c)->ZU n A=0
 | 0,n,i,A,h,e=>Tv h e
 | d+1,n,i,A,h,e=>by
  have a:ZU n (EX (i+1+d) A)=0:=WM d (n:=n) (i:=i) (by omega) λc b=>by unfold EX;rw[Yp _ _ (by omega),Yp _ _ (by omega),ZJ];exact e c b
  rw[Iy (by omega)] at a;omega
theorem WN{n i j:Nat}{A:Mt}(d:i<n)(f:j<n)(b:i≠j)(e:∀c,c<n->A i c=A j c):ZU n A=0:=by
 rcases Nat.lt_or_gt_of_ne b with h | h
 ·exact WM (j-i-1) (i:=i) (by omega) λc a=>by rw[show i+1+(j-i-1)=j by omega];exact e c a
 ·exact WM (i-j-1) (i:=j) (by omega) λc a=>by rw[show j+1+(i-j-1)=i by omega];exact(e c a).symm
theorem P6:∀{n:Nat}{A:Mt},(∀c,c<n->A n c=0)->ZU (n+1) A=A n n*ZU n A
 | 0,A,_=>by show 0+1*A 0 0*1=A 0 0*1;omega
 | n+1,A,h=>by
  rw[Z4 (n+1)];show sN (n+1) _+sg (n+1)*A (n+1) 0*_=_;rw[h 0 (by omega),b5,bb,fQ,Z4 n,<-ZI];refine Zh λi b=>?_;rw[P6 (n:=n) (A:=Ws i A) λc a=>?_]
  ·have e:Ws i A n n=A (n+1) (n+1):=by unfold Ws;rw[jx (by omega)]
   rw[e];simp only[bU,dI]
  ·unfold Ws;rw[jx (by omega)];exact h (c+1) (by omega)
theorem SM{n j:Nat}{A:Mt}{a:Nat->Int}{v:Nat->Nat->Int}(b:j<n):∀m,ZU n (Yl j (λc=>sN m λk=>a k*v k c) A)=sN m λk=>a k*ZU n (Yl j (v k) A)
 | 0=>by have:ZU n (Yl j (λc=>0*(0:Int)+0*(0:Int)) A)=0*ZU n (Yl j (λ_=>0) A)+0*ZU n (Yl j (λ_=>0) A):=Wf (u:=λ_=>0) (v:=λ_=>0) b;simp only[bb,fQ] at this;exact this
 | m+1=>by have:=Wf (n:=n) (A:=A) (u:=λc=>sN m λk=>a k*v k c) (v:=v m) (x:=1) (y:=a m) b;simp only[cu] at this;show ZU n (Yl j (λc=>(sN m λk=>a k*v k c)+a m*v m c) A)=_;rw[this,SM b m];rfl
theorem Iz{n j:Nat}{A:Mt}{a:Nat->Int}(d:j<n):ZU n (Yl j (λc=>sN n λk=>a k*A k c) A)=a j*ZU n A:=by
 rw[SM d n,Z3 d]
 ·have:Yl j (A j) A=A:=by funext r;unfold Yl;split<;>simp_all
  rw[this]
 ·intro i e b;rw[WN e d b λc _=>by rw[Yp _ _ b,ZJ],b5]
noncomputable def Lp(n:Nat)(A:Mt)(i j:Nat):Int:=ZU n (Yl j (λc=>if c=i then 1 else 0) A)
theorem Mb{n:Nat}{A:Mt}{j:Nat}(d:j<n)(v:Nat->Int):sN n (λi=>v i*Lp n A i j)=ZU n (Yl j v A):=by
 unfold Lp;rw[<-SM d n];refine ZD λr c e b=>?_;unfold Yl;split
 ·show sN n (λk=>v k*if c=k then 1 else 0)=v c;rw[Z3 b]
  ·simp
  ·intro i f a;rw[jx (λz=>a z.symm),b5]
 ·rfl
theorem Mc{n:Nat}{A:Mt}{k j:Nat}(b:k<n)(a:j<n):sN n (λi=>A k i*Lp n A i j)=if k=j then ZU n A else 0:=by
 rw[Mb a];split
 ·rename_i h;subst h;have:Yl k (A k) A=A:=by funext r;unfold Yl;split<;>simp_all
  rw[this]
 ·rename_i h;exact WN b a h λc _=>by rw[Yp _ _ h,ZJ]
theorem P7(k:Nat)(A:Mt):Yl k (A k) A=A:=by funext r;unfold Yl;split<;>simp_all
theorem Ua{n k:Nat}{A:Mt}(a:k<n)(h:∀c,c<n->A k c=0):ZU n A=0:=by
 have:=Wf (n:=n) (A:=A) (u:=A k) (v:=A k) (x:=0) (y:=0) a;rw[ZD (B:=A) (n:=n) λr c d b=>?_] at this
 ·simpa using this
 ·unfold Yl;split
  ·rename_i q;subst q;rw[h c b];simp
  ·rfl
theorem La{n k j:Nat}{A:Mt}{u:Nat->Int}(d:k<n)(e:j<n)(a:j≠k)(h:∀c,c<n->u c=A j c):ZU n (Yl k u A)=0:=
 WN d e (ar a) λc b=>by rw[ZJ,Yp _ _ a];exact h c b
theorem SN{n q:Nat}{A B:Mt}{k:Nat->Int}(l:q<n)(f:∀c,c<n->B q c=A q c)(h:∀r c,r<n->c<n->r≠q->B r c=A r c+k r*A q c):ZU n B=ZU n A:=by
 have i:∀t,t<=n->ZU n (λr=>if r<t then B r else A r)=ZU n A:=by
  intro t
  induction t with
  | zero=>intro _;exact ZD λr c _ _=>by simp
  | succ t ih=>
   intro o;rw[<-ih (by omega)];by_cases e:t=q
   ·subst e;refine ZD λr c b a=>?_;by_cases z:r<t
    ·rw[jw (by omega),jw z]
    ·by_cases d:r=t
     ·subst d;rw[jw (by omega),jx (by omega)];exact f c a
     ·rw[jx (by omega),jx z]
   ·have m:ZU n (λr=>if r<t+1 then B r else A r)=ZU n (Yl t (λc=>(1:Int)*A t c+k t*A q c) (λr=>if r<t then B r else A r)):=by
     refine ZD λr c b a=>?_;unfold Yl;by_cases d:r=t
     ·subst d;rw[jw rfl];rw[jw (by omega),h r c b a e,cu]
     ·rw[jx d];show(if r<t+1 then B r else A r) c=(if r<t then B r else A r) c;by_cases z:r<t
      ·rw[jw (by omega),jw z]
      ·rw[jx (by omega),jx z]
    rw[m,Wf (by omega)];have g:Yl t (A t) (λr=>if r<t then B r else A r)=λr=>if r<t then B r else A r:=by have:=P7 t (λr=>if r<t then B r else A r);simp only[bh,if_false] at this;exact this
    rw[g,La (j:=q) (by omega) l (ar e) (λc a=>by
     split
     ·rw[f c a]
     ·rfl)]
    omega
 rw[<-i n (aH n)];exact ZD λr c b _=>by rw[jw b]
abbrev DH:=Nat×Nat
noncomputable def ind(a b:Nat):Int:=if a=b then 1 else 0
noncomputable def dl(e:DH)(y:Nat):Int:=ind e.1 y-ind e.2 y
open L2 VL
theorem IA{f g:XS}{s:Zy}{v:PV}(a:f s=aA (.rt v)):Zr f g s=aA (.rt v):=by rw[PB,a];rfl
noncomputable def Z5(ns:List Int)(k:Nat):Int:=if k<ns.length then Yq ns k else((k:Int)*k+3*k+1)*5003%1999
section
variable {s:Zy} {f g:XE} {a b:Int} {C:Int->Int->Prop} [∀i j,Decidable (C i j)] {op:Int->Int->Int}
theorem vC(e:f s=aA (.int a))(d:g s=aA (.int b))(c:C a b):Zj (MI C op) f g s=aA (.int (op a b)):=by rw[Qy,e,d];simp only[a0,G4,jw c]
theorem vI(d:f s=aA (.int a))(c:g s=aA (.int b)):Zj (gI op) f g s=aA (.int (op a b)):=by rw[Qy,d,c];rfl
theorem vP(b:f s=aA (.int a)):eP f s=aA (.int a):=by rw[O0,b];rfl
theorem Lb{v:PV}(a:f s=aA v):ZV f s=aA (.rt v):=by rw[Ke,a];rfl
end
theorem Xg{a:List Int}(h:a.length<=63){k:Nat}(c:k<=100):ZP [.cst (iL a),.int (k:Int)]=aA (.int (Z5 a k)):=by
 unfold Z5;by_cases q:k<a.length
 ·simp[ZP,V3,YT,ZG,q,WA q]
 ·have c1:CMul (k:Int) (k:Int):=G8 (by omega) (by omega);have c2:CMul 3 (k:Int):=.inl (by omega);have c3:CMul ((k:Int)*k+3*k+1) 5003:=.inr (by omega);have b:RL (xB (Zj JW (Za 1) (Zc YH [Za 0]))) (ZV (eP (Zj ZX (Za 0) (Za 1)))) YC [aA (.cst (iL a)),aA (.int (k:Int))]=aA (.nx [aA (.cst (iL a)),aA (.int (k:Int))]):=by simp[q]
  show YT 2 V3 _=_;unfold V3;show(Zr _ _ [aA (.cst (iL a)),aA (.int (k:Int))]).bind OY=_;rw[Xp b,jx q,Lb (vP (vC (vC (vI (vI (vC rfl rfl c1) (vC rfl rfl c2)) rfl) rfl c3) rfl (by decide)))];rfl
theorem KR{a:List Int}(b:∀n∈a,n.natAbs.log2<=1048576)(k:Nat):(Z5 a k).natAbs.log2<=1048576:=by
 unfold Z5;split
 ·exact b _ (Iv (by assumption))
 ·generalize ((k:Int)*k+3*k+1)*5003=z;have c:=dG z (show(1999:Int)≠0 by decide);have d:=cV z (show(0:Int)<1999 by decide)
  have:(z%1999).natAbs.log2<=1048576:=by
   by_cases h:(z%1999).natAbs=0
   ·rw[h];decide +kernel
   ·have:=(jV (k:=11) h).mpr (by omega);omega
  exact this
theorem Xa(c:Int){t m:Nat}(G:t<=100)(A:0<m):∃v:Nat,v<m/\Zq [.int c,.int (t:Int),.int (m:Int)]=aA (.int (v:Int)):=by
 have g:(0:Int)<(m:Int):=by omega
 have a:∀x:Int,∃v:Nat,v<m/\x%(m:Int)=(v:Int):=λx=>by have w:=dG x (show(m:Int)≠0 by omega);have b:=cV x g;exact⟨(x%(m:Int)).toNat,by omega,by omega⟩
 have E:ZA 3 (eP (Zj OG (Za 0) (eC (.int 2)))) [aA (.int c),aA (.int (t:Int)),aA (.int (m:Int)),none,none]=aA (.nx [aA (.int c),aA (.int (t:Int)),aA (.int (m:Int)),aA (.int (c/2)),none]):=by simp[Ou]
 show ∃v:Nat,v<m/\YT 5 Sq _=_;unfold Sq;show ∃v:Nat,v<m/\(Zr _ _ [aA (.int c),aA (.int (t:Int)),aA (.int (m:Int)),none,none]).bind OY=_;rw[Xp E];by_cases q:c%2=1/\1000000000<c
 ·obtain⟨F,b,x,y,e⟩:=XW (T:=.one 4) (fb:=ZA 3 (eP (Zj OG (Za 3) (eC (.int 1000))))) (ls:=Uu t) (s:=[aA (.int c),aA (.int (t:Int)),aA (.int (m:Int)),aA (.int (c/2)),none])
   (λi st=>∃x y,st=[aA (.int c),aA (.int (t:Int)),aA (.int (m:Int)),aA (.int x),y]) ⟨_,_,rfl⟩ (by
    rintro i l st D ⟨x,y,rfl⟩;obtain⟨J,rfl⟩:=V0 D;refine⟨_,_,rfl,?_,x/1000,aA (.int (i:Int)),rfl⟩;simp[Ou])
  subst e;obtain⟨v,o,k⟩:=a x;refine⟨v,o,?_⟩;have C:ZW [Za 1] [aA (.int c),aA (.int (t:Int)),aA (.int (m:Int)),aA (.int (c/2)),none]=aA (Uu t):=ZZ (by simp) (by omega);have B:Y7 [] (ZW [Za 1]) (.one 4) (ZA 3 (eP (Zj OG (Za 3) (eC (.int 1000))))) [aA (.int c),aA (.int (t:Int)),aA (.int (m:Int)),aA (.int (c/2)),none]=aA (.nx [aA (.int c),aA (.int (t:Int)),aA (.int (m:Int)),aA (.int x),y]):=by show(ZW [Za 1] [aA (.int c),aA (.int (t:Int)),aA (.int (m:Int)),aA (.int (c/2)),none]).bind _=_;rw[C];exact b
  rw[IA (v:=.int (v:Int))]
  ·rfl
  ·rw[YD];have:(OL (xB (Zj (W8 aB) (Zj YU (Za 0) (eC (.int 2))) (eC (.int 1)))) (xB (Zj Ll (Za 0) (Zj OH (eC (.int 10)) (eC (.int 9)))))) [aA (.int c),aA (.int (t:Int)),aA (.int (m:Int)),aA (.int (c/2)),none]=aA aC:=by simp[q.1,Ov,q.2]
   rw[this];simp only[a0,if_true];rw[Xp B];simp[A,k]
 ·have:(OL (xB (Zj (W8 aB) (Zj YU (Za 0) (eC (.int 2))) (eC (.int 1)))) (xB (Zj Ll (Za 0) (Zj OH (eC (.int 10)) (eC (.int 9)))))) [aA (.int c),aA (.int (t:Int)),aA (.int (m:Int)),aA (.int (c/2)),none]=aA aB:=by
   by_cases h:c%2=1
   ·have:¬1000000000<c:=λz=>q ⟨h,z⟩;simp[h,Ov,this]
   ·simp[h]
  rw[Xp (s1:=[aA (.int c),aA (.int (t:Int)),aA (.int (m:Int)),aA (.int (c/2)),none]) (by rw[YD,this];rfl)];generalize u:c/2%999979+1009*(t:Int)=x1;have H:0<=x1/\x1<2000000:=by have w:=dG (c/2) (show(999979:Int)≠0 by decide);have b:=cV (c/2) (show(0:Int)<999979 by decide);omega
  generalize p:(x1*x1+40503*x1)%999983=x2;have I:0<=x2/\x2<2000000:=by have w:=dG (x1*x1+40503*x1) (show(999983:Int)≠0 by decide);have b:=cV (x1*x1+40503*x1) (show(0:Int)<999983 by decide);omega
  have n:CMul 1009 (t:Int):=.inl (by omega);have r:CMul x1 x1:=.inl (by omega);have f:CMul 40503 x1:=.inl (by omega);have d:CMul x2 x2:=.inl (by omega);have j:CMul 7 (t:Int):=.inl (by omega);obtain⟨v,o,k⟩:=a ((x2*x2+7*(t:Int))%999961/11);refine⟨v,o,?_⟩;rw[Xp (s1:=[aA (.int c),aA (.int (t:Int)),aA (.int (m:Int)),aA (.int x1),none]) (by simp[n,u]),Xp (s1:=[aA (.int c),aA (.int (t:Int)),aA (.int (m:Int)),aA (.int x2),none]) (by simp[r,f,p])];simp[d,j,Ou,A,k]
noncomputable def SO(M:List (List Int))(a b:Nat)(t:Int):List (List Int):=Up (Up M a b t) b a t
theorem Tw{n:Nat}{M:List (List Int)}{a b:Nat}{t:Int}(ok:MatOk n M)(c:a<n)(d:b<n)(i j:Nat):ent (SO M a b t) i j=if b=i/\a=j then t else if a=i/\b=j then t else ent M i j:=by obtain⟨f,e⟩:=X1 ok.len ok.row c;unfold SO;rw[Pj f e d c,Pj ok.len ok.row c d]
theorem KS{n:Nat}{M:List (List Int)}{a b:Nat}{t:Int}(ok:MatOk n M)(f:a<n)(g:b<n)(e:a≠b)(q:0<=t)(o:t<=9):MatOk n (SO M a b t):=by
 obtain⟨k,m⟩:=X1 ok.len ok.row f;obtain⟨h,l⟩:=X1 k m g;have E:=Tw (t:=t) ok f g;refine⟨h,l,λi j c d=>?_,λi j c d=>?_,λi j c d=>?_,λi c=>?_⟩
 ·have:=ok.lo i j c d;rw[E];split<;>(try split)<;>omega
 ·have:=ok.hi i j c d;rw[E];split<;>(try split)<;>omega
 ·have:=ok.sym i j c d;rw[E,E];by_cases p:b=i/\a=j
  ·rw[jw p];by_cases p2:b=j/\a=i
   ·rw[jw p2]
   ·rw[jx p2,jw ⟨p.2,p.1⟩]
  ·rw[jx p];by_cases p2:a=i/\b=j
   ·rw[jw p2,jw ⟨p2.2,p2.1⟩]
   ·rw[jx p2,jx (λz=>p2 ⟨z.2,z.1⟩),jx (λz=>p ⟨z.2,z.1⟩)];exact this
 ·rw[E,jx (λz=>e (by omega)),jx (λz=>e (by omega))];exact ok.dia i c
theorem P8{n:Nat}{M:List (List Int)}{a b:Nat}{k:Int}(ok:MatOk n M)(d:a<n)(f:b<n):X8 [.lst (rL M),.int (a:Int),.int (b:Int),.int k]=aA (.lst (rL (SO M a b (if ent M a b+k<9 then ent M a b+k else 9)))):=by
 have g:(rL M).length=n:=by unfold rL;rw[aQ];exact ok.len
 generalize r:(if ent M a b+k<9 then ent M a b+k else 9)=t;have s:Tq (rL M) (a:Int)=aA (.lst (iL (Zx M a))):=X0 (Np (by rw[ok.len];exact d));have i:Tq (iL (Zx M a)) (b:Int)=aA (.int (ent M a b)):=WA (by rw[ok.row a d];exact f);have h:=X1 (t:=t) (b:=b) ok.len ok.row d;have e:(rL (Up M a b t)).length=n:=by unfold rL;rw[aQ];exact h.1
 have q:ZA 4 (eP (Zc Pq [eC (.int 9),Zj Yc (Zj ZX (Zj ZX (Za 0) (Za 1)) (Za 2)) (Za 3)])) [aA (.lst (rL M)),aA (.int (a:Int)),aA (.int (b:Int)),aA (.int k),none]=aA (.nx [aA (.lst (rL M)),aA (.int (a:Int)),aA (.int (b:Int)),aA (.int k),aA (.int t)]):=by simp[s,i,r]
 have o:X6 0 (Za 1) (Za 2) (Za 4) [aA (.lst (rL M)),aA (.int (a:Int)),aA (.int (b:Int)),aA (.int k),aA (.int t)]=aA (.nx [aA (.lst (rL (Up M a b t))),aA (.int (a:Int)),aA (.int (b:Int)),aA (.int k),aA (.int t)]):=by rw[Sh (l:=.int t) (a:=(a:Int)) (b:=(b:Int)) (j:=a) (c:=b) (m:=rL M) (n:=iL (Zx M a)) rfl rfl rfl rfl (V2 (by rw[g];exact d)) (Np (by rw[ok.len];exact d)) (Yd _) rfl (V2 (by rw[aQ,ok.row a d];exact f)),KN];rfl
 have p:X6 0 (Za 2) (Za 1) (Za 4) [aA (.lst (rL (Up M a b t))),aA (.int (a:Int)),aA (.int (b:Int)),aA (.int k),aA (.int t)]=aA (.nx [aA (.lst (rL (SO M a b t))),aA (.int (a:Int)),aA (.int (b:Int)),aA (.int k),aA (.int t)]):=by rw[Sh (l:=.int t) (a:=(b:Int)) (b:=(a:Int)) (j:=b) (c:=a) (m:=rL (Up M a b t)) (n:=iL (Zx (Up M a b t) b)) rfl rfl rfl rfl (V2 (by rw[e];exact f)) (Np (by rw[h.1];exact f)) (Yd _) rfl (V2 (by rw[aQ,h.2 b f];exact d)),KN];rfl
 show FG 5 Ts _=_;unfold FG;rw[jw (by rfl)];unfold Ts;show(Zr _ _ [aA (.lst (rL M)),aA (.int (a:Int)),aA (.int (b:Int)),aA (.int k),none]).bind Es=_;rw[Xp q,Xp o,p];rfl
theorem Md{i:Nat}{D:List PV->Option PV}{fs:List XE}{s:Zy}{l0 l':PV}{ls:List PV}(c:s[i]?=aA (aA l0))(b:TZ fs s=aA ls)(a:Zv ls=aC)(d:D (l0::ls)=aA l'):PJ i D fs s=aA (.nx (s.set i (aA l'))):=by unfold PJ;rw[c];simp only[b,a0,a,if_true,d,dU]
theorem Lc{s:Zy}{n:Nat}(h:s[3]?=aA (aA (.int (n:Int))))(a:n<=7):Zs 1 [3] (ZW [Za 3]) (.one 0) ZH (Zj Pz (Qm [eC (.int 0)]) (Za 1)) s=aA (.lst (rL (aT n (aT n 0)))):=by
 rw[Z8 (aJ n) (λi=>.int (i:Int)) (λ_=>.lst (iL (aT n 0))) (ZZ (by simp[h]) (by omega)) (by simp;omega) (λi _=>⟨_,rfl,rfl,?_⟩)]
 ·unfold rL;rw[List.map_const',b7,List.map_replicate]
 ·have e:Pz (.lst [.int 0]) (.int (n:Int))=aA (.lst (iL (aT n 0))):=by show(if Zv [PV.int 0]=aC/\(-1000000:Int)<=(n:Int)/\(n:Int)<=1000000/\[PV.int 0].length*((n:Int)).toNat<=10000 then aA (PV.lst (aT ((n:Int)).toNat [PV.int 0]).flatten) else none)=_;rw[jw ⟨rfl,by omega,by omega,by simp;omega⟩];simp
  simp[ZO,h,e]
noncomputable def Grown(M:List (List Int))(l:List Int)(k:Nat):Prop:=∀j,1<=j->j<k->∃j',j'<j/\0<ent M (Yq l j).toNat (Yq l j').toNat
theorem Grown.mono{M c:List (List Int)}{l:List Int}{k:Nat}(h:Grown M l k)(g:∀i j,0<ent M i j->0<ent c i j):Grown c l k:=λj e f=>by obtain⟨d,a,b⟩:=h j e f;exact⟨d,a,g _ _ b⟩
theorem Grown.conn{M:List (List Int)}{l:List Int}{n:Nat}(h:Grown M l n)(s:M.length=n)(d:NamesOk n l):SK M:=by
 intro P t i j g p;rw[s] at g p;have lt:∀x,x<n->(Yq l x).toNat<M.length:=λx c=>by have:=d.at c;omega
 have all:∀k,k<n->(P (Yq l k).toNat↔P (Yq l 0).toNat):=by
  intro k
  induction k using Nat.strongRecOn with
  | ind k ih=>
   intro o;by_cases q:k=0
   ·subst q;exact Iff.rfl
   ·obtain⟨m,a,b⟩:=h k (by omega) o;exact(t _ _ (lt k o) (lt m (by omega)) b).trans (ih m a (by omega))
 have f:∀i,i<n->∃x,x<n/\(Yq l x).toNat=i:=λi g=>by have:=DG d.nd (λx c=>⟨x.toNat,by have:=d.hi x c;omega,by have:=d.lo x c;omega⟩) d.len g;obtain⟨x,c,e⟩:=Iw this;exact⟨x,by rw[<-d.len];exact c,by rw[e];rfl⟩
 obtain⟨x,c,rfl⟩:=f i g;obtain⟨y,r,rfl⟩:=f j p;exact(all x c).trans (all y r).symm
theorem Me{n:Nat}{M:List (List Int)}{a b:Nat}{t:Int}(ok:MatOk n M)(d:a<n)(e:b<n)(c:0<t):(∀i j,0<ent M i j->0<ent (SO M a b t) i j)/\0<ent (SO M a b t) a b:=by
 refine⟨λi j h=>?_,?_⟩
 ·rw[Tw ok d e];split
  ·exact c
  ·split
   ·exact c
   ·exact h
 ·rw[Tw ok d e];split
  ·exact c
  ·rw[jw ⟨rfl,rfl⟩];exact c
noncomputable def Xm(ns:List Int)(mo n:Nat)(M:List (List Int))(sp:List Int)(x6 x7 x8 x9:Option PV):Zy:=[aA (.cst (iL ns)),aA (.int (mo:Int)),aA (.int (Z5 ns 0)),aA (.int (n:Int)),aA (.lst (rL M)),aA (.lst (iL sp)),x6,x7,x8,x9]
abbrev EY:XS:=VU 5 (Zc Zq [Zc ZP [Za 0,Zj Yc (eC (.int 6)) (Za 6)],eC (.int 10),Zj Yc (Za 6) (eC (.int 1))]) (Za 6)
abbrev EZ:XS:=Zr (ZA 7 (Zc ZP [Za 0,Za 6]))
  (PJ 4 X8 [Zj ZX (Za 5) (Za 6),Zj ZX (Za 5) (Zc Zq [Za 7,eC (.int 1),Za 6]),Zj Yc (eC (.int 1)) (Zc Zq [Za 7,eC (.int 2),eC (.int 3)])])
abbrev E4:XS:=(Zr (ZA 7 (Zc ZP [Za 0,Zj Yc (eC (.int 7)) (Za 6)]))
  (Zr (ZA 8 (Zc Zq [Za 7,eC (.int 4),Za 3]))
  (Zr (ZA 9 (eP (Zj YU (Zj Yc (Zj Yc (Za 8) (eC (.int 1))) (Zc Zq [Za 7,eC (.int 5),Zj Tg (Za 3) (eC (.int 1))])) (Za 3))))
  (PJ 4 X8 [Za 8,Za 9,Zj Yc (eC (.int 1)) (Zc Zq [Za 7,eC (.int 6),eC (.int 2)])]))))
theorem Fh{a:List Int}{mo n:Nat}{M:List (List Int)}{sp:List Int}{x7 x8 x9:Option PV}{i:Nat}(b:a.length<=63)(h:i<7)(e:NamesOk i sp) :
  ∃sp',NamesOk (i+1) sp'/\EY (Xm a mo n M sp (aA (.int (i:Int))) x7 x8 x9)=aA (.nx (Xm a mo n M sp' (aA (.int (i:Int))) x7 x8 x9)):=by
 obtain⟨v,j,d⟩:=Xa (Z5 a (6+i)) (t:=10) (m:=i+1) (by omega) (by omega);have c:=Xg b (k:=6+i) (by omega);refine⟨sp.take v++(i:Int)::sp.drop v,e.ins v,?_⟩;unfold EY;rw[O4 (k:=(v:Int)) (l:=.int (i:Int)) (m:=iL sp) ?_ rfl rfl (Yd sp) rfl (by omega) (by omega) (by rw[aQ,e.len];omega),eV,Fg]
 ·rfl
 ·have f:((6+i:Nat):Int)=6+(i:Int):=by omega
  have g:((i+1:Nat):Int)=(i:Int)+1:=by omega
  rw[f] at c;rw[g] at d;simp[Xm,c];exact d
noncomputable def SQ(c:Int):Int:=if c%5=4 then c*c%(2*10^29)-10^29 else if c%5=3 then c.fdiv 5%2001-1000 else c.fdiv 5%13-6
theorem RW{z:Int}(h:z.natAbs<2^1000):z.natAbs.log2<67108863:=by
 by_cases a:z.natAbs=0
 ·rw[a];decide +kernel
 ·have:=(jV a).mpr h;omega
theorem Nr{c:Int}(h:c.natAbs.log2<=1048576):WY [.int c]=aA (.int (SQ c)):=by
 have c1:CMulW c c:=⟨by omega,by omega⟩;have c2:CMulW 2 (10^29):=⟨RW (by decide),RW (by decide)⟩;have c3:Sl c 5:=⟨by decide,by decide +kernel⟩;have p:∀s:Zy,Zj OH (eC (.int 10)) (eC (.int 29)) s=aA (.int (10^29)):=λs=>vC (a:=10) (b:=29) (C:=Ov) (op:=λi j=>i^j.toNat) rfl rfl (by decide);show YT 1 UB _=_;unfold UB SQ;show(Zr _ _ [aA (.int c)]).bind OY=_;by_cases d:c%5=4
 ·rw[jw d,IA (v:=.int (c*c%(2*10^29)-10^29))]
  ·rfl
  ·have t:xB (Zj (W8 aB) (Zj YU (Za 0) (eC (.int 5))) (eC (.int 4))) [aA (.int c)]=aA aC:=by simp[d]
   rw[YD,t];simp only[a0,if_true];exact Lb (vP (vI (vC (vC rfl rfl c1) (vC rfl (p _) c2) (by decide)) (p _)))
 ·have t:xB (Zj (W8 aB) (Zj YU (Za 0) (eC (.int 5))) (eC (.int 4))) [aA (.int c)]=aA aB:=by simp[d]
  rw[jx d,Xp (s1:=[aA (.int c)]) (by rw[YD,t];rfl)];by_cases e:c%5=3
  ·rw[jw e,IA (v:=.int (c.fdiv 5%2001-1000))]
   ·rfl
   ·have t:xB (Zj (W8 aB) (Zj YU (Za 0) (eC (.int 5))) (eC (.int 3))) [aA (.int c)]=aA aC:=by simp[e]
    rw[YD,t];simp only[a0,if_true];exact Lb (vP (vI (vC (vC rfl rfl c3) rfl (by decide)) rfl))
  ·have t:xB (Zj (W8 aB) (Zj YU (Za 0) (eC (.int 5))) (eC (.int 3))) [aA (.int c)]=aA aB:=by simp[e]
   rw[jx e,Xp (s1:=[aA (.int c)]) (by rw[YD,t];rfl),Lb (vP (vI (vC (vC rfl rfl c3) rfl (by decide)) rfl))];rfl
theorem Nt(c:Int) : -(10^29)<=SQ c/\SQ c<=10^29:=by
 unfold SQ;split
 ·have a:=dG (c*c) (show(2*10^29:Int)≠0 by decide);have b:=cV (c*c) (show(0:Int)<2*10^29 by decide);constructor<;>omega
 ·split
  ·have a:=dG (c.fdiv 5) (show(2001:Int)≠0 by decide);have b:=cV (c.fdiv 5) (show(0:Int)<2001 by decide);constructor<;>omega
  ·have a:=dG (c.fdiv 5) (show(13:Int)≠0 by decide);have b:=cV (c.fdiv 5) (show(0:Int)<13 by decide);constructor<;>omega
noncomputable def UX(ns:List Int)(a n:Nat):List Int:=(aJ n).map λk=>SQ (Z5 ns (a+k))
theorem Ld(b:List Int)(a n:Nat):(UX b a n).length=n:=by simp[UX]
theorem Nu{b:List Int}(c:b.length<=63)(g:∀n∈b,n.natAbs.log2<=1048576){a n:Nat}(h:a<=60)(l:n<=7):XX [.cst (iL b),.int (a:Int),.int (n:Int)]=aA (pP (UX b a n)):=by
 have e:Zs 1 [0,1] (ZW [Za 2]) (.one 0) ZH (Zc WY [Zc ZP [Za 1,Zj Yc (Za 2) (Za 0)]]) [aA (.cst (iL b)),aA (.int (a:Int)),aA (.int (n:Int))]=aA (.lst (iL (UX b a n))):=by
  rw[W4 (λi=>SQ (Z5 b (a+i))) (ZZ (n:=n) (by simp) (by omega)) (by omega) λi j=>⟨_,rfl,rfl,?_⟩]
  ·rfl
  ·have d:=Xg c (k:=a+i) (by omega);have f:((a+i:Nat):Int)=(a:Int)+(i:Int):=by omega
   rw[f] at d;simp[ZO,d,Nr (KR g (a+i))]
 simp[XX,RV,YT,ZG,e]
noncomputable def nL(l:List Nat):List Int:=l.map λ(i:Nat)=>(i:Int)
theorem RX{d:Type}{T:Tgt}{fb:XS}{q g:d->PV}{c:d->Bool}(S:Zy->Prop):∀{ls:List d}{s:Zy},(∀a∈ls,∀s,S s->∃s1,YF T (q a) s=aA s1/\((c a=aC->fb s1=aA (.rt (g a)))/\(c a=aB->∃s2,fb s1=aA (.nx s2)/\S s2)))->S s->
  match ls.find? c with | some a=>Wr T fb (ls.map q) s=aA (.rt (g a)) | none=>∃s',Wr T fb (ls.map q) s=aA (.nx s')/\S s'
 | [],s,_,h0=>⟨s,rfl,h0⟩
 | a::r,s,h,h0=>by
  obtain⟨s1,f,k,l⟩:=h a a9 s h0;rw[List.find?_cons]
  cases ca:c a with
  | true=>
   show Wr T fb (q a::r.map q) s=_;unfold Wr;rw[f];simp only[a0,k ca]
  | false=>
   obtain⟨s2,i,n⟩:=l ca;have m:=RX S (ls:=r) (s:=s2) (λb j=>h b (aU _ j)) n
   have e:Wr T fb ((a::r).map q) s=Wr T fb (r.map q) s2:=by
    show Wr T fb (q a::r.map q) s=_;unfold Wr;rw[f];simp only[a0,i];cases r.map q<;>rfl
   rw[e];exact m
end PW
set_option maxHeartbeats 2000000
namespace PW
open PySem L2 VL VX
section
variable {f g h k l:XE} {s s1:Zy} {a b c d e v r:PV} {i m:Nat} {F G:XS} {x y:XT} {o:Option OV} {p:Bool} {D:List PV->Option PV} {R:Option PV} {ls:List PV}
theorem Yy(q:F (ZG m ls)=aA (.rt v)):YT m F ls=aA v:=by show(F (ZG m ls)).bind OY=_;rw[q];rfl
theorem sq(q:F s=aA (.nx s1))(w:G s1=o):Zr F G s=o:=(Xp q).trans w
theorem Zw(q:f s=aA v):ZA i f s=aA (.nx (s.set i (aA v))):=by rw[PD,q];rfl
theorem ep(q:f s=aA v)(w:ZS v=aC:=by rfl):eP f s=aA v:=by rw[O0,q,a0,jw w]
theorem FH{l:List Int}(q:f s=aA (pP l)):eP f s=aA (pP l):=ep q (Yd _)
theorem c1(q:f s=aA a)(w:D [a]=R):Zc D [f] s=R:=by show((f s).bind λx=>aA [x]).bind D=_;rw[q];exact w
theorem c2(q:f s=aA a)(c:g s=aA b)(w:D [a,b]=R):Zc D [f,g] s=R:=by rw[XU,ZL,q,ZL,c];exact w
theorem c3(q:f s=aA a)(e:g s=aA b)(d:h s=aA c)(w:D [a,b,c]=R):Zc D [f,g,h] s=R:=by rw[XU,ZL,q,ZL,e,ZL,d];exact w
theorem c4(q:f s=aA a)(j:g s=aA b)(e:h s=aA c)(i:k s=aA d)(w:D [a,b,c,d]=R):Zc D [f,g,h,k] s=R:=by rw[XU,ZL,q,ZL,j,ZL,e,ZL,i];exact w
theorem c5(q:f s=aA a)(n:g s=aA b)(i:h s=aA c)(m:k s=aA d)(j:l s=aA e)(w:D [a,b,c,d,e]=R):Zc D [f,g,h,k,l] s=R:=by rw[XU,ZL,q,ZL,n,ZL,i,ZL,m,ZL,j];exact w
theorem o2{op:PV->PV->Option PV}(q:f s=aA a)(c:g s=aA b)(w:op a b=R):Zj op f g s=R:=by rw[Qy,q,c];exact w
theorem xb(q:f s=aA (.bl p)):xB f s=aA p:=by rw[G5,q];rfl
theorem xn(q:x s=aA p):Pm x s=aA !p:=by rw[Kc,q];rfl
theorem xo{p2:Bool}(q:x s=aA p)(a:y s=aA p2):Lm x y s=aA (p || p2):=by
 rw[J8,q];cases p
 ·exact a
 ·rfl
theorem ea{p2:Bool}(q:f s=aA (.bl p))(a:g s=aA (.bl p2)):TX f g s=aA (.bl (p&&p2)):=by
 rw[Kd,xb q];cases p
 ·rfl
 ·exact a
theorem E5(q:x s=aA aB):RL x F YC s=aA (.nx s):=by rw[YD,q];rfl
theorem ret(q:f s=aA v):ZV f s=aA (.rt v):=Lb q
end
theorem IB{a b:List Int}(h:a.length+b.length<=1000):N2 (pP a) (pP b)=aA (pP (a++b)):=by unfold N2;simp only[];rw[jw (by rw[aQ,aQ];omega),<-eH]
noncomputable def Yv(F:XS)(s:Zy)(Q:PV->Prop):Prop:=∃v,F s=aA (.rt v)/\Q v
noncomputable def Xn(F:XS)(s:Zy)(R:Zy->Prop):Prop:=∃s1,F s=aA (.nx s1)/\R s1
section
variable {F G:XS} {s s1:Zy} {Q:PV->Prop} {R:Zy->Prop} {v:PV} {f g:XE} {x:XT} {p:Bool} {m i k n:Nat} {ls:List PV} {O:List Nat} {fi:XL} {T:Tgt} {fb:XS} {a b:Int}
theorem SR(h:Yv F (ZG m ls) Q):∃v,YT m F ls=aA v/\Q v:=by obtain⟨v,e,q⟩:=h;exact⟨v,Yy e,q⟩
theorem KU(h:Yv F (ZG m ls) λw=>w=v):YT m F ls=aA v:=by obtain⟨_,e,rfl⟩:=SR h;exact e
theorem Z9(q:F s=aA (.nx s1))(h:Yv G s1 Q):Yv (Zr F G) s Q:=by obtain⟨v,e,a⟩:=h;exact⟨v,sq q e,a⟩
theorem U7(h:Xn F s R)(a:∀s1,R s1->Yv G s1 Q):Yv (Zr F G) s Q:=by obtain⟨s1,e,r⟩:=h;exact Z9 e (a s1 r)
theorem Wg(q:f s=aA v)(h:Q v):Yv (ZV f) s Q:=⟨v,ret q,h⟩
theorem Lf(q:F s=aA (.nx s1))(h:R s1):Xn F s R:=⟨s1,q,h⟩
theorem U8(q:F s=aA (.nx s1))(h:Xn G s1 R):Xn (Zr F G) s R:=by obtain⟨s2,e,r⟩:=h;exact⟨s2,sq q e,r⟩
theorem HB{R2:Zy->Prop}(h:Xn F s R)(a:∀s1,R s1->Xn G s1 R2):Xn (Zr F G) s R2:=by obtain⟨s1,e,r⟩:=h;exact U8 e (a s1 r)
theorem IC{R2:Zy->Prop}(h:Xn F s R)(a:∀s1,R s1->R2 s1):Xn F s R2:=by obtain⟨s1,e,r⟩:=h;exact⟨s1,e,a s1 r⟩
theorem KW(q:x s=aA p)(a:p=aC->Xn F s R)(b:p=aB->Xn G s R):Xn (RL x F G) s R:=by
 unfold Xn;rw[YD,q];cases p
 ·exact b rfl
 ·exact a rfl
theorem KY(I:Nat->Zy->Prop)(d:fi (Yn O s)=aA ls)(g:I 0 s)(st:∀i l s,ls[i]?=aA l->I i s->∃s1,YF T l s=aA s1/\Xn fb s1 (I (i+1))):Xn (Y7 O fi T fb) s (I ls.length):=by
 obtain⟨a,e,q⟩:=XW I g λi l s f h=>by obtain⟨s1,c,s2,b,j⟩:=st i l s f h;exact⟨s1,s2,c,b,j⟩
 refine⟨a,?_,q⟩;unfold Y7;rw[d];exact e
theorem HC(I:Nat->Zy->Prop)(c:f (Yn O s)=aA (.int (n:Int)))(e:I 0 s)(st:∀i s,i<n->I i s->Xn fb (s.set k (aA (.int (i:Int)))) (I (i+1)))(a:n<=10000:=by omega):Xn (Y7 O (ZW [f]) (.one k) fb) s (I n):=by
 have:=KY (T:=.one k) (fb:=fb) I (ZZ c a) e λi l s d h=>by obtain⟨b,rfl⟩:=V0 d;exact⟨_,rfl,st i s b h⟩
 rwa [Se] at this
theorem ID{d:Type}{L:List d}{q g:d->PV}(c:d->Bool)(I:Zy->Prop)(j:fi (Yn O s)=aA (L.map q))(m:I s)(st:∀a∈L,∀s,I s->∃s1,YF T (q a) s=aA s1/\(c a=aC->fb s1=aA (.rt (g a)))/\(c a=aB->Xn fb s1 I))(f:∀a,L.find? c=aA a->Q (g a))(l:L.find? c=none->∀s1,I s1->Yv G s1 Q):Yv (Zr (Y7 O fi T fb) G) s Q:=by
 have b:=RX (T:=T) (fb:=fb) (g:=g) I st m;have e:∀o,Wr T fb (L.map q) s=o->Y7 O fi T fb s=o:=λo h=>by unfold Y7;rw[j];exact h
 cases z:L.find? c with
 | some a=>rw[z] at b;exact⟨_,IA (e _ b),f a z⟩
 | none=>
  rw[z] at b;obtain⟨s1,k,i⟩:=b;exact Z9 (e _ k) (l z s1 i)
theorem Cj{o:Option OV}(q:x s=aA aC)(w:F s=o):RL x F G s=o:=by rw[YD,q];exact w
theorem Et{b:Type}{L:List b}{q g:b->PV}{H:XS}(c:b->Bool)(I:Zy->Prop)(o:fi (Yn O s)=aA (L.map q))(j:I s)(st:∀a∈L,∀s,I s->∃s1,YF T (q a) s=aA s1/\x s1=aA (c a)/\H s1=aA (.rt (g a))/\I s1)(f:∀a,L.find? c=aA a->Q (g a))(m:L.find? c=none->∀s1,I s1->Yv G s1 Q):Yv (Zr (Y7 O fi T (RL x H YC)) G) s Q:=
 ID (g:=g) c I o j (λa n s i=>by
  obtain⟨s1,e,d,l,k⟩:=st a n s i;exact⟨s1,e,λh=>Cj (by rw[d,h]) l,λh=>Lf (E5 (by rw[d,h])) k⟩) f m
theorem Eu{X:List Nat}(I:Nat->Zy->Prop)(a:fi (Yn O s)=aA (iL (nL X)))(c:I 0 s)(st:∀i s (h:i<X.length),I i s->Xn fb (s.set k (aA (.int ((X[i]:Nat):Int)))) (I (i+1))):Xn (Y7 O fi (.one k) fb) s (I X.length):=by
 have:=KY (T:=.one k) (fb:=fb) I a c λi l s b h=>by
  have a:i<X.length:=by have:=(aW.mp b).1;simpa [nL] using this
  have e:l = .int ((X[i]:Nat):Int):=by rw[O1 (by simpa [nL] using a)] at b;rw[<-ak b];simp[nL,Yq,a]
  subst e;exact⟨_,rfl,st i s a h⟩
 rwa [show(iL (nL X)).length=X.length by simp[nL]] at this
theorem Ck(q:f s=aA (.int a))(c:g s=aA (.int b))(h:0<b:=by omega):Zj YU f g s=aA (.int (a%b)):=vC q c h
theorem E6(q:f s=aA (.int a))(c:g s=aA (.int b)):Zj Yc f g s=aA (.int (a+b)):=vI q c
theorem Cm(q:f s=aA (.int a))(c:g s=aA (.int b)):Zj Tg f g s=aA (.int (a-b)):=vI q c
theorem Cn{a b:Nat}(q:f s=aA (.int (a:Int)))(c:g s=aA (.int (b:Int))):Zj JW f g s=aA (.bl (decide (a<b))):=o2 q c (by
 show aA (PV.bl (decide ((a:Int)<(b:Int))))=_;rw[decide_eq_decide.mpr Int.ofNat_lt])
theorem DZ{a b:Nat}(q:f s=aA (.int (a:Int)))(c:g s=aA (.int (b:Int))):Zj Ll f g s=aA (.bl (decide (b<a))):=o2 q c (by
 show aA (PV.bl (decide ((a:Int)>(b:Int))))=_;rw[decide_eq_decide.mpr Int.ofNat_lt])
theorem Fi(q:f s=aA (.int a))(c:g s=aA (.int b)):Zj (W8 aB) f g s=aA (.bl (decide (a=b))):=o2 q c (by rw[Uy];rfl)
theorem D3{op:PV->Option PV}{S:Option PV}(q:f s=aA v)(w:op v=S):GQ op f s=S:=by unfold GQ;rw[q];exact w
theorem HD{S:Option PV}(q:x s=aA aC)(w:f s=S):GO x f g s=S:=by rw[N0,q];exact w
theorem HE{S:Option PV}(q:x s=aA aB)(w:g s=S):GO x f g s=S:=by rw[N0,q,a0,jx (by decide)];exact w
theorem Fj(Q:List Int):Wx (iL Q)=(aJ Q.length).map λ(i:Nat)=>.tup [.int (i:Int),.int (Yq Q i)]:=by
 rw[U6,aQ];exact bN λi a=>by rw[Y8 Q i (aY.mp a)]
theorem RY{W:List (List Int)}:YH [wP W]=aA (.int (W.length:Int)):=by show aA (PV.int ((W.map pP).length:Int))=_;rw[aQ]
end
end PW
namespace PW
theorem UY{f:Nat->Int}{q:Nat}:∀{m:Nat},q<=m->(∀k,q<=k->k<m->f k=0)->sN m f=sN q f
 | 0,h,_=>by rw[show q=0 by omega]
 | m+1,h,z=>by
  by_cases e:q=m+1
  ·rw[e]
  ·show sN m f+f m=_;rw[UY (m:=m) (by omega) (λk a b=>z k a (by omega)),z m (by omega) (by omega)];omega
theorem Mf{f:Nat->Int}{q i:Nat}:∀{m:Nat},q<=i->i<m->(∀k,q<=k->k<m->k≠i->f k=0)->sN m f=sN q f+f i
 | 0,_,h,_=>by omega
 | m+1,hq,hi,z=>by
  show sN m f+f m=_;by_cases e:i=m
  ·subst e;rw[UY (q:=q) (by omega) λk a b=>z k a (by omega) (by omega)]
  ·rw[Mf (m:=m) hq (by omega) (λk a b=>z k a (by omega)),z m (by omega) (by omega) (λq=>e q.symm)];omega
noncomputable def Lq(m:Nat)(X:Mt):Nat->Mt×Int
 | 0=>(X,1)
 | p+1=>(λi j=>if i=p then(Lq m X p).1 i j else((Lq m X p).1 p p*(Lq m X p).1 i j-(Lq m X p).1 i p*(Lq m X p).1 p j).fdiv (Lq m X p).2,(Lq m X p).1 p p)
structure Ew(m:Nat)(A X:Mt):Prop where
 sym:∀i j,i<m->j<m->A i j=A j i
 inj:∀p,p<=m->∀z:Nat->Int,(∀j,j<p->sN p (λk=>z k*A k j)=0)->∀k,k<p->z k=0
 ext:∀i j,i<m->j<m->X i j=A i j
structure DI(m p:Nat)(X:Mt)(E:Mt)(d:Int)(i:Nat)(a:Nat->Int):Prop where
 off:∀k,k<m->p<=k->k≠i->a k=0
 on:p<=i->a i=d
 val:∀j,j<=m->E i j=sN m (λk=>a k*X k j)
 uni:∀j,j<p->E i j=if i=j then d else 0
structure IE(m:Nat)(A X:Mt)(p:Nat)(E:Mt)(d:Int):Prop where
 de:d=ZU p A
 nz:d≠0
 row:∀i,i<m->∃a,DI m p X E d i a
theorem SS{m:Nat}{A X:Mt}{p:Nat}{E:Mt}{d:Int}(ok:Ew m A X)(hp:p<m)(I:IE m A X p E d) :
  IE m A X (p+1) (λi j=>if i=p then E i j else(E p p*E i j-E i p*E p j).fdiv d) (E p p)/\∀i j,i<m->j<=m->i≠p->∃q,E p p*E i j-E i p*E p j=d*q:=by
 obtain⟨u,t⟩:=I.row p hp;have O:=I.nz
 -- the pivot's row
 have x:∀j,j<m->E p j=sN (p+1) (λk=>u k*A k j):=λj g=>by
  rw[t.val j (by omega),UY (q:=p+1) (by omega) λk w v=>by rw[t.off k v (by omega) (by omega),bb]];exact Zh λk f=>by rw[ok.ext k j (by omega) g]
 have Z:E p p=ZU (p+1) A:=by
  have w:=Iz (n:=p+1) (j:=p) (A:=A) (a:=u) (by omega);have v:=P6 (A:=Yl p (λc=>sN (p+1) λk=>u k*A k c) A) λc U=>by rw[ZJ];rw[<-x c (by omega),t.uni c U,jx (by omega)]
  have R:ZU p (Yl p (λc=>sN (p+1) λk=>u k*A k c) A)=ZU p A:=ZD λr c hr U=>by rw[Yp _ _ (by omega)]
  rw[ZJ,R,w,t.on (aH p),<-I.de] at v;have h4:d*ZU (p+1) A=E p p*d:=by rw[v];rw[<-x p hp]
  have h5:d*(ZU (p+1) A)=d*E p p:=by rw[h4,bF]
  exact(Int.eq_of_mul_eq_mul_left O h5).symm
 have pz:E p p≠0:=λz=>by
  have:=ok.inj (p+1) (by omega) u (λj g=>by
   rw[<-x j (by omega)];by_cases q:j=p
   ·rw[q];exact z
   ·rw[t.uni j (by omega),jx (by omega)]) p (by omega)
  rw[t.on (aH p)] at this;exact O this
 -- the s rows
 have s:∀i,i<m->i≠p->∃b:Nat->Int,(∀k,k<m->p+1<=k->k≠i->b k=0)/\(p+1<=i->b i=E p p)/\(∀l,l<p+1->sN m (λk=>b k*A k l)=if i=l then E p p else 0)/\∀j,j<=m->E p p*E i j-E i p*E p j=d*sN m (λk=>b k*X k j):=by
  intro i D o
  obtain⟨b,G,J,H⟩:∃b:Nat->Int,(∀k,k<m->p+1<=k->k≠i->b k=0)/\(p+1<=i->b i=E p p)/\(∀l,l<p+1->sN m (λk=>b k*A k l)=if i=l then E p p else 0):=by
   have cm:∀j l,j<p+1->l<p+1->sN (p+1) (λk=>Lp (p+1) A k j*A k l)=if l=j then E p p else 0:=λj l g y=>by
    rw[Z,<-Mc y g];exact Zh λk f=>by rw[ok.sym l k (by omega) (by omega),bF]
   by_cases q:i<p
   ·obtain⟨b,B⟩:∃b:Nat->Int,∀k,b k=if k<p+1 then Lp (p+1) A k i else 0:=⟨_,λ_=>rfl⟩
    refine⟨b,λk f w _=>by rw[B,jx (by omega)],λh=>by omega,λl y=>?_⟩;rw[UY (q:=p+1) (by omega) λk w v=>by rw[B,jx (by omega),bb]];rw[Zh λk f=>by rw[B,jw f],cm i l (by omega) y];by_cases e:i=l
    ·rw[jw e,jw e.symm]
    ·rw[jx e,jx (λz=>e z.symm)]
   ·obtain⟨b,B⟩:∃b:Nat->Int,∀k,b k=if k<p+1 then-sN (p+1) (λj=>A i j*Lp (p+1) A k j) else if k=i then E p p else 0:=⟨_,λ_=>rfl⟩
    have F:b i=E p p:=by rw[B,jx (by omega),jw rfl]
    refine⟨b,λk f w v=>by rw[B,jx (by omega),jx v],λh=>F,λl y=>?_⟩;rw[Mf (q:=p+1) (by omega) D λk w v R=>by rw[B,jx (by omega),jx R,bb]];rw[F]
    have S:sN (p+1) (λk=>b k*A k l)=sN (p+1) (λk=>(-1)*sN (p+1) (λj=>A i j*(Lp (p+1) A k j*A k l))):=Zh λk f=>by
     rw[B,jw f,bT,bF _ (A k l),<-ZI,bT,cu];congr 1;exact Zh λj _=>by rw[bF (A k l),bU]
    rw[S,ZI,QV];have e2:(sN (p+1) λj=>sN (p+1) λk=>A i j*(Lp (p+1) A k j*A k l))=A i l*E p p:=by rw[Zh λj g=>by rw[ZI,cm j l g y]];rw[Z3 y λj _ P=>by rw[jx (λz=>P z.symm),b5],jw rfl]
    rw[e2,bF (E p p)];omega
  refine⟨b,G,J,H,?_⟩;obtain⟨C,L⟩:=I.row i D
  have hw:∀k,k<m->E p p*C k-E i p*u k-d*b k=0:=by
   have M:∀k,k<m->p+1<=k->E p p*C k-E i p*u k-d*b k=0:=λk f w=>by
    have W:=t.off k f (by omega) (by omega);by_cases q:k=i
    ·subst q;rw[L.on (by omega),W,J w,bF d];omega
    ·rw[L.off k f (by omega) q,W,G k f w q];omega
   intro k f;by_cases q:k<p+1
   ·refine ok.inj (p+1) (by omega) (λk=>E p p*C k-E i p*u k-d*b k) (λl y=>?_) k q;rw[<-UY (m:=m) (by omega) λk w v=>by rw[M k v w,bb]]
    have S:sN m (λk=>(E p p*C k-E i p*u k-d*b k)*A k l)=E p p*sN m (λk=>C k*A k l)+((- E i p)*sN m (λk=>u k*A k l)+(- d)*sN m (λk=>b k*A k l)):=by
     rw[<-ZI,<-ZI,<-ZI,<-Yg,<-Yg];exact Zh λk _=>by rw[Int.sub_mul,Int.sub_mul];simp only[bU,bT];omega
    have T:∀a:Nat->Int,sN m (λk=>a k*X k l)=sN m (λk=>a k*A k l):=λa=>Zh λk f=>by rw[ok.ext k l f (by omega)]
    rw[S,H l y,<-T,<-T,<-L.val l (by omega),<-t.val l (by omega)];by_cases q2:l=p
    ·subst q2;rw[jx o,bF (E l l),bT];omega
    ·rw[L.uni l (by omega),t.uni l (by omega),jx (show ¬p=l by omega)];by_cases N:i=l
     ·rw[jw N,jw N,bT d,bF d];omega
     ·rw[jx N,jx N];omega
   ·exact M k f (by omega)
  intro j g;rw[L.val j g,t.val j g,<-ZI,<-ZI,<-ZI];have:sN m (λk=>E p p*(C k*X k j))=sN m (λk=>d*(b k*X k j))+sN m (λk=>E i p*(u k*X k j)):=by rw[<-Yg];refine Zh λk f=>?_;have:=hw k f;rw[<-bU,<-bU,<-bU,<-jU];congr 1;omega
  omega
 refine⟨⟨Z,pz,λi D=>?_⟩,λi j D g o=>?_⟩
 ·by_cases o:i=p
  ·subst o;refine⟨u,λk f w v=>t.off k f (by omega) v,λh=>by omega,λj g=>by rw[jw rfl];exact t.val j g,λj g=>?_⟩;rw[jw rfl];by_cases q:i=j
   ·subst q;rw[jw rfl]
   ·rw[jx q,t.uni j (by omega),jx q]
  ·obtain⟨b,G,J,H,Q⟩:=s i D o;have Y:∀j,j<=m->(E p p*E i j-E i p*E p j).fdiv d=sN m (λk=>b k*X k j):=λj g=>by rw[Q j g,eB _ O]
   refine⟨b,G,J,λj g=>by rw[jx o];exact Y j g,λj g=>?_⟩;rw[jx o,Y j (by omega),<-H j g];exact Zh λk f=>by rw[ok.ext k j f (by omega)]
 ·obtain⟨b,G,J,H,Q⟩:=s i D o;exact⟨_,Q j g⟩
theorem W5{m:Nat}{A X:Mt}(ok:Ew m A X):∀{p:Nat},p<=m->IE m A X p (Lq m X p).1 (Lq m X p).2
 | 0,_=>⟨rfl,(show(1:Int)≠0 by decide),λi b=>⟨λk=>if k=i then 1 else 0,λk _ _ h=>jx h,λ_=>jw rfl,λj c=>by rw[Z3 (k:=i) b λk _ a=>by rw[jx a,bb],jw rfl,cu];rfl,λj c=>by omega⟩⟩
 | p+1,h=>(SS ok (by omega) (W5 ok (p:=p) (by omega))).1
open L2 VL
noncomputable def ZQ(w:Nat)(f:Nat->Int):List Int:=(aJ w).map f
theorem ZM(w:Nat)(f:Nat->Int):(ZQ w f).length=w:=by simp[ZQ]
theorem Wh{w:Nat}{f:Nat->Int}{j:Nat}(h:j<w):Yq (ZQ w f) j=f j:=Vd h
theorem Xb{n:Nat}{ix:List Nat}{d:XL}{T:Tgt}{c:XE}{s:Zy}{w:Nat}{q:Nat->PV}(g:Nat->Int)(e:d s=aA ((aJ w).map q))(i:w<=100)(h:∀j,j<w->∃s1,YF T (q j) (ZO n ix s)=aA s1/\c s1=aA (.int (g j))):Zs n ix d T ZH c s=aA (.lst (iL (ZQ w g))):=by
 rw[Z8 (aJ w) q (λj=>.int (g j)) e (by rw[b7];omega) λj f=>by
  obtain⟨s1,a,b⟩:=h j (aY.mp f);exact⟨s1,a,rfl,b⟩]
 simp[ZQ]
theorem Nv{w:Nat}{f:Nat->Int}{j:Nat}(h:j<w):Tq (iL (ZQ w f)) (j:Int)=aA (.int (f j)):=by rw[WA (by rw[ZM];exact h),Wh h]
noncomputable def Xq(m w:Nat)(E:Mt):List (List Int):=(aJ m).map λi=>ZQ w (E i)
theorem Tx(m w:Nat)(E:Mt):(Xq m w E).length=m:=by simp[Xq]
noncomputable def tL(M:List (List Int)):List PV:=M.map pP
theorem SU(m w:Nat)(E:Mt):tL (Xq m w E)=(aJ m).map λi=>pP (ZQ w (E i)):=by unfold tL Xq;rw[cp];rfl
theorem SV(m w:Nat)(E:Mt):(tL (Xq m w E)).length=m:=by simp[tL,Tx]
theorem SW{m w:Nat}{E:Mt}{i:Nat}(h:i<m):(tL (Xq m w E))[i]?=aA (pP (ZQ w (E i))):=by rw[SU,aR,bB h];rfl
theorem W6{n:Nat}{ix:List Nat}{d:XL}{T:Tgt}{c:XE}{s:Zy}{m w:Nat}{q:Nat->PV}(E:Mt)(e:d s=aA ((aJ m).map q))(g:m<=100)(h:∀j,j<m->∃s1,YF T (q j) (ZO n ix s)=aA s1/\c s1=aA (pP (ZQ w (E j)))):Zs n ix d T ZH c s=aA (.lst (tL (Xq m w E))):=by
 rw[Z8 (aJ m) q (λj=>pP (ZQ w (E j))) e (by rw[b7];omega) λj f=>by
  obtain⟨s1,a,b⟩:=h j (aY.mp f);exact⟨s1,a,rfl,b⟩,SU]
noncomputable def Y2(b i:Nat):Nat:=if i<b then i else i+1
noncomputable def Fl(b h:Nat):Nat:=if h<b then h else h-1
theorem Fm(b i:Nat):Y2 b i≠b:=by unfold Y2;split<;>omega
theorem Xo{b i m:Nat}(h:i<m):Y2 b i<m+1:=by unfold Y2;split<;>omega
theorem QX(b i:Nat):Fl b (Y2 b i)=i:=by unfold Fl Y2;split<;>(try split)<;>omega
theorem IF{b h:Nat}(q:h≠b):Y2 b (Fl b h)=h:=by unfold Fl Y2;split<;>(try split)<;>omega
theorem IG{b i j:Nat}(h:Y2 b i=Y2 b j):i=j:=by rw[<-QX b i,h,QX]
theorem P9{n b:Nat}(c:n<=7)(a:b<n):(aJ n).filter (λh=>!decide (h=b))=(aJ (n-1)).map (Y2 b):=by
 have:∀n,n<8->∀b,b<8->b<n->(aJ n).filter (λh=>!decide (h=b))=(aJ (n-1)).map (Y2 b):=by decide
 exact this n (by omega) b (by omega) a
theorem Nw{f:Nat->Int}{b:Nat}(a:f b=0):∀{m:Nat},b<m+1->sN (m+1) f=sN m (λi=>f (Y2 b i))
 | 0,h=>by
  have:b=0:=by omega
  subst this;show 0+f 0=0;rw[a];rfl
 | m+1,h=>by
  by_cases q:b=m+1
  ·subst q;show sN (m+1) f+f (m+1)=_;rw[a,fQ];exact Zh λi c=>by unfold Y2;rw[jw c]
  ·show sN (m+1) f+f (m+1)=sN m (λi=>f (Y2 b i))+f (Y2 b m);rw[Nw a (m:=m) (by omega),show Y2 b m=m+1 by unfold Y2;rw[jx (by omega)]]
theorem U9{f:Nat->Int}:∀{n:Nat},(∀i,i<n->0<=f i)->sN n f<=0->∀i,i<n->f i=0
 | 0,_,_,i,h=>by omega
 | n+1,h,s,i,a=>by
  have s:sN n f+f n<=0:=s
  have c:0<=sN n f:=by
   have:∀k,k<=n->0<=sN k f:=by
    intro k
    induction k with
    | zero=>intro _;exact fI 0
    | succ k ih=>intro b;have:=ih (by omega);have:=h k (by omega);show 0<=sN k f+f k;omega
   exact this n (aH n)
  have d:=h n (by omega);by_cases q:i=n
  ·subst q;omega
  ·exact U9 (n:=n) (λi a=>h i (by omega)) (by omega) i (by omega)
theorem Xh{f:Nat->Int}:∀{n:Nat},(∀i,i<n->0<=f i)->0<=sN n f
 | 0,_=>fI 0
 | n+1,h=>by have:=Xh (n:=n) λi a=>h i (by omega);have:=h n (by omega);show 0<=sN n f+f n;omega
theorem Oa(Y:Nat->Int):∀{n:Nat},0<n->∃h,h<n/\∀g,g<n->Y h<=Y g
 | 0,h=>by omega
 | 1,_=>⟨0,by omega,λg a=>by rw[show g=0 by omega];exact fI _⟩
 | n+2,_=>by
  obtain⟨h,c,b⟩:=Oa Y (n:=n+1) (by omega);by_cases q:Y h<=Y (n+1)
  ·exact⟨h,by omega,λg a=>by
    by_cases e:g=n+1
    ·rw[e];exact q
    ·exact b g (by omega)⟩
  ·exact⟨n+1,by omega,λg a=>by
    by_cases e:g=n+1
    ·rw[e];exact fI _
    ·have:=b g (by omega);omega⟩
noncomputable def gN(W:List (List Int))(Y:Nat->Int)(h:Nat):Int:=sN W.length (λg=>ent W h g*(Y g-Y h))
theorem Ex{W:List (List Int)}(ok:Yz W)(o:SK W){Y:Nat->Int}{b:Nat}(u:b<W.length)(j:∀h,h<W.length->h≠b->Y h<Y b->gN W Y h<=0):∀h,h<W.length->Y b<=Y h:=by
 intro h q;refine i9.mp λr=>?_;obtain⟨e,l0,l⟩:=Oa Y (n:=W.length) (by omega);have p:Y e<Y b:=by have:=l h q;omega
 have step:∀a c,a<W.length->c<W.length->0<ent W a c->Y a=Y e->Y c=Y e:=λa c d i k ea=>by
  have s:=j a d (λz=>by rw[z] at ea;omega) (by omega);have t:=U9 (f:=λg=>ent W a g*(Y g-Y a)) (λg m=>dP (ok.lo a g d m) (by have:=l g m;omega)) s c i
  have:Y c-Y a=0:=by
   rcases Int.mul_eq_zero.mp t with z | z
   ·omega
   ·exact z
  omega
 have:=(o (λx=>Y x=Y e) (λa c d i k=>⟨step a c d i k,step c a i d (by rw[ok.sym c a i d];exact k)⟩) e b l0 u).mp rfl;omega
theorem Fo{W:List (List Int)}(c:Int)(Y:Nat->Int)(h:Nat):gN W (λx=>c*Y x) h=c*gN W Y h:=by
 unfold gN;rw[<-ZI];exact Zh λg _=>by show ent W h g*(c*Y g-c*Y h)=_;rw[<-Int.mul_sub,dI]
noncomputable def ZC(W:List (List Int))(b:Nat):Mt:=λi j=>if Y2 b j=Y2 b i then(Zx W (Y2 b i)).sum else-ent W (Y2 b i) (Y2 b j)
noncomputable def Ey(W:List (List Int))(b:Nat)(c:Nat->Int):Mt:=λi j=>if j<W.length-1 then ZC W b i j else c (Y2 b i)
theorem KZ{W:List (List Int)}(ok:Yz W){b:Nat}(u:b<W.length){Y:Nat->Int}(n:Y b=0){k:Nat}(e:k<W.length-1):gN W Y (Y2 b k) = - sN (W.length-1) (λi=>ZC W b k i*Y (Y2 b i)):=by
 have t:=ok.pos;obtain⟨m,d⟩:∃m,W.length=m+1:=⟨W.length-1,by omega⟩;have c:W.length-1=m:=by omega
 rw[c] at e ⊢;generalize j:Y2 b k=h;have a:h<W.length:=by rw[d,<-j];exact Xo e
 have s:sN m (λi=>ZC W b k i*Y (Y2 b i))=sN (m+1) (λg=>(if g=h then(Zx W h).sum else-ent W h g)*Y g):=by
  rw[Nw (b:=b) (f:=λg=>(if g=h then(Zx W h).sum else-ent W h g)*Y g) (by rw[n,b5]) (by omega)];exact Zh λi _=>by unfold ZC;rw[j]
 have l:sN (m+1) (λg=>(if g=h then(Zx W h).sum else-ent W h g)*Y g)=(-1)*sN (m+1) (λg=>ent W h g*Y g)+(Zx W h).sum*Y h:=by
  have:sN (m+1) (λg=>if g=h then(Zx W h).sum*Y h else 0)=(Zx W h).sum*Y h:=by rw[Z3 (k:=h) (by omega) λi _ r=>jx r,jw rfl]
  rw[<-this,<-ZI,<-Yg];refine Zh λg v=>?_;by_cases q:g=h
  ·subst q;rw[jw rfl,jw rfl,ok.dia g a];omega
  ·rw[jx q,jx q,bT,bT,cu];omega
 have o:(Zx W h).sum=sN (m+1) (λg=>ent W h g):=by rw[V9 ok a,Y9,d]
 have p:gN W Y h=sN (m+1) (λg=>ent W h g*Y g)+(- Y h)*sN (m+1) (λg=>ent W h g):=by
  unfold gN;rw[d,<-ZI,<-Yg];exact Zh λg _=>by rw[Int.mul_sub,bF (- Y h),gG];omega
 rw[p,s,l,o,bF (sN (m+1) λg=>ent W h g) (Y h),bT];omega
theorem K0{W:List (List Int)}(ok:Yz W)(B:SK W){b:Nat}(A:b<W.length)(c:Nat->Int):Ew (W.length-1) (ZC W b) (Ey W b c):=by
 have G:=ok.pos;obtain⟨m,s⟩:∃m,W.length=m+1:=⟨W.length-1,by omega⟩;have a:W.length-1=m:=by omega
 have l:∀i j,i<m->j<m->ZC W b i j=ZC W b j i:=λi j t g=>by
  unfold ZC;by_cases q:Y2 b j=Y2 b i
  ·rw[jw q,jw q.symm,q]
  ·rw[jx q,jx (λz=>q z.symm),ok.sym _ _ (by rw[s];exact Xo t) (by rw[s];exact Xo g)]
 rw[a];refine⟨l,λp w z F k v=>?_,λi j t g=>by unfold Ey;rw[a,jw g]⟩;obtain⟨Z,u⟩:∃Z:Nat->Int,∀h,Z h=if h=b then 0 else if Fl b h<p then z (Fl b h) else 0:=⟨_,λ_=>rfl⟩
 have n:Z b=0:=by rw[u,jw rfl]
 have y:∀i,Z (Y2 b i)=if i<p then z i else 0:=λi=>by rw[u,jx (Fm b i),QX]
 have f:∀j,j<p->gN W Z (Y2 b j)=0:=λj g=>by
  rw[KZ ok A n (by omega),a]
  have e:sN m (λi=>ZC W b j i*Z (Y2 b i))=sN p (λk=>z k*ZC W b k j):=by
   rw[UY (q:=p) w λk D C=>by rw[y,jx (by omega),b5]];exact Zh λk v=>by rw[y,jw v,l j k (by omega) (by omega),bF]
  rw[e,F j g];rfl
 have off:∀h,h<W.length->Z h≠0->gN W Z h=0:=λh r ne=>by
  have o:h≠b:=λz=>ne (by rw[z];exact n);have t:Fl b h<p:=by refine Nat.not_le.mp λq=>ne ?_;rw[u,jx o,jx (by omega)]
  have:=f _ t;rw[IF o] at this;exact this
 have up:=Ex ok B (Y:=Z) A (λh r _ d=>by rw[off h r (by rw[n] at d;omega)];exact fI _)
 have E:=Ex ok B (Y:=λx=>(-1)*Z x) A (λh r _ d=>by
  simp only[n] at d;rw[Fo,off h r (by omega)];decide)
 have D:=up (Y2 b k) (by rw[s];exact Xo (by omega));have C:=E (Y2 b k) (by rw[s];exact Xo (by omega));simp only[n,y,jw v] at D C;omega
theorem Lg{W:List (List Int)}{h m:Nat}{f:Nat->Nat}(ok:Yz W)(a:h<W.length)(d:m<=6)(b:∀i,i<m->f i<W.length) :
  Sr [wP W,.int (h:Int),.lst (iL (nL ((aJ m).map f)))]=aA (pP (ZQ m λj=>if f j=h then(Zx W h).sum else-ent W h (f j))):=by
 refine Yy (ret (FH (c1 (Xb (q:=λj=>.int ((f j:Nat):Int)) _ (by show aA (iL (nL ((aJ m).map f)))=_;simp[nL]) (by omega) λj c=>⟨_,rfl,?_⟩) rfl)));by_cases q:f j=h
 ·rw[jw q];exact HD (xb ((Fi rfl rfl).trans (by rw[decide_eq_true (by omega)]))) (c2 rfl rfl (Nn a))
 ·rw[jx q];exact HE (xb ((Fi rfl rfl).trans (by rw[decide_eq_false (by omega)]))) (D3 (o2 (o2 rfl rfl (N1 a)) rfl (WA (by rw[ok.sq h a];exact b j c))) rfl)
theorem Ub{W:List (List Int)}{b:Nat}(ok:Yz W)(j:b<W.length) :
  YI [wP W,.int (b:Int)]=aA (wP (Xq (W.length-1) (W.length-1) (ZC W b))):=by
 have o:=ok.pos;have g:=ok.few;obtain⟨m,e⟩:∃m,W.length=m+1:=⟨W.length-1,by omega⟩;have a:W.length-1=m:=by omega
 rw[a];have fo:∀i,i<m->Y2 b i<W.length:=λi c=>by rw[e];exact Xo c
 have d:Zs 1 [1] (ZW [Zc YH [Za 0]]) (.one 0) (xB (Zj (W8 aC) (Za 0) (Za 1))) (eP (Za 0)) [aA (wP W),aA (.int (b:Int)),none]=aA (.lst (iL (nL ((aJ m).map (Y2 b))))):=by
  rw[VZ (aJ W.length) (λ(i:Nat)=>.int (i:Int)) (λ(i:Nat)=>.int (i:Int)) (λh=>!decide (h=b)) (ZZ (n:=W.length) (by simp) (by omega)) (by simp;omega) λy l=>⟨[aA (.int (y:Int)),aA (.int (b:Int))],rfl,?_,λ_=>by simp⟩]
  ·rw[P9 g j,a];simp[nL]
  ·by_cases q:y=b
   ·simp[q]
   ·have k:¬(y:Int)=(b:Int):=by omega
    simp[q,k]
 exact Yy (sq (Zw d) (ret (ep (c1 (W6 (w:=m) (ZC W b) (q:=λi=>.int ((Y2 b i:Nat):Int)) (by show aA (iL (nL ((aJ m).map (Y2 b))))=_;simp[nL]) (by omega) λi c=>⟨_,rfl,c3 rfl rfl rfl (Lg (f:=Y2 b) ok (fo i c) (by omega) fo)⟩) rfl) (VV _))))
theorem Fp{c:XT}{fb:XS}(g:Nat->Zy->Prop)(step:∀k st,g k st->c st=aA aB\/(c st=aA aC/\∃s2 k',fb st=aA (.nx s2)/\k'<k/\g k' s2)){k:Nat}{s:Zy}(o:g k s) :
  ∃f k',XB c fb s=aA (.nx f)/\g k' f/\c f=aA aB:=by
 have gen:∀(n k:Nat)(st:Zy),k<n->g k st->∃f k',Yo c fb n st=aA (.nx f)/\g k' f/\c f=aA aB:=by
  intro n
  induction n with
  | zero=>intro k st h;omega
  | succ n ih=>
   intro k st p l;rcases step k st l with i | ⟨i,s2,k',e,q,j⟩
   ·exact⟨st,k,by unfold Yo;rw[i];rfl,l,i⟩
   ·obtain⟨f,m,a,b,d⟩:=ih k' s2 (by omega) j;refine⟨f,m,?_,b,d⟩;unfold Yo;rw[i];simp only[e];exact a
 obtain⟨f,k',a,b,d⟩:=gen (k+1) k s (by omega) o;exact⟨f,k',MO a,b,d⟩
theorem SX{l:List Int}{n:Nat}(h:l.length=n)(a:n<=1000):V4 [pP l,.int (n:Int)]=aA (.bl aC):=by subst h;exact KI a
theorem Nx{f:Nat->Int}{M:Nat}:∀{n:Nat},(∀i,i<n->(f i).natAbs<=M)->(sN n f).natAbs<=n*M
 | 0,_=>by show(0:Int).natAbs<=_;simp
 | n+1,h=>by have b:=Nx (n:=n) λi a=>h i (by omega);have c:=h n (by omega);show(sN n f+f n).natAbs<=_;rw[iE,iG];omega
end PW
namespace PM
open PW
noncomputable def mul(m:Nat)(A B:Mt):Mt:=λi j=>sN m λk=>A i k*B k j
noncomputable def one:Mt:=λi j=>if i=j then 1 else 0
noncomputable def EqM(m:Nat)(A B:Mt):Prop:=∀i j,i<m->j<m->A i j=B i j
theorem IH(c:Int)(f:Nat->Int)(n:Nat):sN n (λi=>f i*c)=sN n f*c:=by rw[bF,<-ZI];exact Zh λi _=>bF _ _
theorem Vf(m:Nat)(A B C:Mt)(i j:Nat):mul m (mul m A B) C i j=mul m A (mul m B C) i j:=by show sN m (λk=>sN m (λl=>A i l*B l k)*C k j)=sN m (λl=>A i l*sN m (λk=>B l k*C k j));rw[Zh (g:=λk=>sN m (λl=>A i l*B l k*C k j)) λk _=>(IH _ _ _).symm];rw[QV (λk l=>A i l*B l k*C k j)];refine Zh λl _=>?_;rw[<-ZI];exact Zh λk _=>bU _ _ _
theorem mul_one{m:Nat}{A:Mt}{i j:Nat}(a:j<m):mul m A one i j=A i j:=by
 show sN m (λk=>A i k*one k j)=_;rw[Z3 a]
 ·unfold one;rw[jw rfl,fE]
 ·intro k _ h;unfold one;rw[jx h,b5]
theorem one_mul{m:Nat}{A:Mt}{i j:Nat}(a:i<m):mul m one A i j=A i j:=by
 show sN m (λk=>one i k*A k j)=_;rw[Z3 a]
 ·unfold one;rw[jw rfl,cu]
 ·intro k _ h;unfold one;rw[jx (λz=>h z.symm),bb]
theorem ZN{m:Nat}{A A' B B':Mt}{i j:Nat}(h:∀k,k<m->A i k=A' i k)(b:∀k,k<m->B k j=B' k j):mul m A B i j=mul m A' B' i j:=Zh λk a=>by rw[h k a,b k a]
theorem EqM.mulL{m:Nat}{A A' B:Mt}(h:EqM m A A'):EqM m (mul m A B) (mul m A' B):=λi j b c=>ZN (λk a=>h i k b a) λ_ _=>rfl
theorem EqM.mulR{m:Nat}{A B B':Mt}(h:EqM m B B'):EqM m (mul m A B) (mul m A B'):=λi j c b=>ZN (λ_ _=>rfl) λk a=>h k j a b
theorem EqM.trans{m:Nat}{A B C:Mt}(h:EqM m A B)(c:EqM m B C):EqM m A C:=λi j a b=>(h i j a b).trans (c i j a b)
noncomputable def tr(A:Mt):Mt:=λi j=>A j i
theorem UZ(m:Nat)(A B:Mt)(i j:Nat):tr (mul m A B) i j=mul m (tr B) (tr A) i j:=Zh λk _=>bF _ _
theorem Tz{m:Nat}{A A' B B':Mt}(h:EqM m (mul m A A') one)(d:EqM m (mul m B B') one):EqM m (mul m (mul m A B) (mul m B' A')) one:=λi j b c=>by
 rw[Vf];have e:mul m A (mul m B (mul m B' A')) i j=mul m A A' i j:=ZN (λ_ _=>rfl) λk a=>by rw[<-Vf,ZN (A':=one) (B':=A') (λl f=>d k l a f) (λ_ _=>rfl),one_mul a]
 rw[e];exact h i j b c
structure RT(m p:Nat)(E E':Mt):Prop where
 ex:∃U V:Mt,EqM m (mul m U V) one/\EqM m (mul m V U) one/\(∀i j,i<m->E' i j=mul m U E i j)/\(∀i k,p<=i->i<m->k<p->U i k=0/\V i k=0)
 up:∀i j,i<p->E' i j=E i j
 low:∀i j,m<=i->E' i j=E i j
theorem RT.refl{m p:Nat}{E:Mt}:RT m p E E:=⟨⟨one,one,λi j a b=>mul_one b,λi j a b=>mul_one b,λi j a=>(one_mul a).symm,λi k c d e=>by unfold one;rw[jx (by omega)];exact⟨rfl,rfl⟩⟩,λ_ _ _=>rfl,λ_ _ _=>rfl⟩
theorem Mg{m p:Nat}{U a:Mt}(f:p<=m)(h:∀i k,p<=i->i<m->k<p->U i k=0)(d:∀i k,p<=i->i<m->k<p->a i k=0):∀i k,p<=i->i<m->k<p->mul m U a i k=0:=λi k b e g=>We λl c=>by
 by_cases q:l<p
 ·rw[h i l b e q,bb]
 ·rw[d l k (by omega) c g,b5]
theorem RT.trans{m p:Nat}{E o b:Mt}(c:p<=m)(h:RT m p E o)(d:RT m p o b):RT m p E b:=by obtain⟨U,V,B,u,r,e⟩:=h.ex;obtain⟨w,A,q,v,s,g⟩:=d.ex;refine⟨⟨mul m w U,mul m V A,Tz q B,Tz u v,λi j a=>?_,λi k l f n=>⟨Mg c (λi k x y z=>(g i k x y z).1) (λi k x y z=>(e i k x y z).1) i k l f n,Mg c (λi k x y z=>(e i k x y z).2) (λi k x y z=>(g i k x y z).2) i k l f n⟩⟩,λi j a=>(d.up i j a).trans (h.up i j a),λi j a=>(d.low i j a).trans (h.low i j a)⟩;rw[s i j a,Vf];exact ZN (λ_ _=>rfl) λk t=>r k j t
theorem RT.back{m p:Nat}{E l:Mt}(h:RT m p E l):RT m p l E:=by obtain⟨U,V,o,d,n,c⟩:=h.ex;refine⟨⟨V,U,d,o,λi j a=>?_,λi k f e g=>⟨(c i k f e g).2,(c i k f e g).1⟩⟩,λi j a=>(h.up i j a).symm,λi j a=>(h.low i j a).symm⟩;rw[ZN (A':=V) (B':=mul m U E) (λ_ _=>rfl) (λk b=>n k j b),<-Vf,ZN (A':=one) (B':=E) (λk b=>d i k a b) (λ_ _=>rfl),one_mul a]
theorem Ny{c:Int}{f:Nat->Int}:∀{n:Nat},(∀i,i<n->c∣f i)->c∣sN n f
 | 0,_=>cC c
 | n+1,h=>Int.dvd_add (Ny λi a=>h i (by omega)) (h n (by omega))
theorem RT.dvd{m p:Nat}{E b:Mt}(h:RT m p E b){c:Int}{j:Nat}(f:∀i,p<=i->i<m->c∣E i j):∀i,p<=i->i<m->c∣b i j:=λi l a=>by
 obtain⟨U,V,o,n,d,e⟩:=h.ex;rw[d i j a];refine Ny λk g=>?_;by_cases q:k<p
 ·rw[(e i k l a q).1,bb];exact cC c
 ·exact gP (f k (by omega) g)
theorem RT.sub{m p a b:Nat}{q:Int}{E:Mt}(C:p<=a)(t:a<m)(H:p<=b)(o:b<m)(ne:a≠b):RT m p E (λi j=>if i=a then E i j-q*E b j else E i j):=by
 have f:∀(c:Int)(i:Nat)(F:Mt)(j:Nat),i<m->mul m (λi k=>one i k+(if i=a/\k=b then c else 0)) F i j=F i j+(if i=a then c*F b j else 0):=λc i F j e=>by
  show sN m (λk=>(one i k+(if i=a/\k=b then c else 0))*F k j)=_;rw[Zh (g:=λk=>one i k*F k j+(if i=a/\k=b then c else 0)*F k j) λk _=>jU _ _ _,Yg];have n:sN m (λk=>one i k*F k j)=F i j:=one_mul (A:=F) e;rw[n];congr 1;by_cases z:i=a
  ·rw[jw z,Z3 o]
   ·rw[jw ⟨z,rfl⟩]
   ·intro k _ s;rw[jx (λw=>s w.2),bb]
  ·rw[jx z];exact We λk _=>by rw[jx (λw=>z w.1),bb]
 have l:∀(c d:Int)(i j:Nat),c = - d->(one i j+(if i=a/\j=b then d else 0))+(if i=a then c*(one b j+(if b=a/\j=b then d else 0)) else 0)=one i j:=λc d i j h=>by
  have y:=ar ne;by_cases z:i=a
  ·simp only[z,true_and,if_true,y,false_and,if_false,fQ];by_cases w:j=b
   ·subst w;simp[one];omega
   ·have v:¬b=j:=λx=>w x.symm;simp[one,w,v]
  ·simp[z]
 refine⟨⟨λi k=>one i k+(if i=a/\k=b then -q else 0),λi k=>one i k+(if i=a/\k=b then q else 0),λi j e u=>?_,λi j e u=>?_,λi j e=>?_,λi k D B G=>?_⟩,λi j e=>?_,λi j e=>?_⟩
 ·exact(f _ i _ j e).trans (l (-q) q i j (by omega))
 ·exact(f _ i _ j e).trans (l q (-q) i j (by omega))
 ·rw[f _ i _ j e];by_cases z:i=a
  ·rw[jw z,jw z,bT];omega
  ·rw[jx z,jx z];omega
 ·have n:¬i=k:=by omega
  have r:¬k=b:=by omega
  simp[one,n,r]
 ·show(if i=a then _ else _)=_;rw[jx (by omega)]
 ·show(if i=a then _ else _)=_;rw[jx (by omega)]
noncomputable def sw(a b i:Nat):Nat:=if i=a then b else if i=b then a else i
theorem Ez(a b i:Nat):sw a b (sw a b i)=i:=by unfold sw;split<;>(try split)<;>(try split)<;>omega
theorem sw_lt{a b i m:Nat}(c:a<m)(e:b<m)(d:i<m):sw a b i<m:=by unfold sw;split<;>(try split)<;>omega
theorem RT.swap{m p a b:Nat}{E:Mt}(l:p<=a)(e:a<m)(q:p<=b)(f:b<m):RT m p E (λi j=>E (sw a b i) j):=by
 have d:∀(F:Mt)(i j:Nat),i<m->mul m (λi k=>one (sw a b i) k) F i j=F (sw a b i) j:=λF i j c=>one_mul (A:=F) (sw_lt e f c);have inv:EqM m (mul m (λi k=>one (sw a b i) k) (λi k=>one (sw a b i) k)) one:=λi j c g=>by rw[d _ i j c,Ez]
 refine⟨⟨_,_,inv,inv,λi j c=>(d E i j c).symm,λi k n h o=>?_⟩,λi j c=>?_,λi j c=>?_⟩
 ·have:one (sw a b i) k=0:=by
   unfold one sw;rw[jx];split<;>(try split)<;>omega
  exact⟨this,this⟩
 ·show E (sw a b i) j=_;unfold sw;rw[jx (by omega),jx (by omega)]
 ·show E (sw a b i) j=_;unfold sw;rw[jx (by omega),jx (by omega)]
theorem RT.neg{m p a:Nat}{E:Mt}(l:p<=a)(d:a<m):RT m p E (λi j=>if i=a then-E i j else E i j):=by
 have c:∀(F:Mt)(i j:Nat),i<m->mul m (λi k=>if i=a then-one i k else one i k) F i j=if i=a then-F i j else F i j:=λF i j b=>by
  have e:sN m (λk=>one i k*F k j)=F i j:=one_mul (A:=F) b;by_cases z:i=a
  ·show sN m (λk=>(if i=a then-one i k else one i k)*F k j)=_;rw[jw z,<-e,Zh (g:=λk=>(-1)*(one i k*F k j)) λk _=>by rw[jw z,bT];omega,ZI];omega
  ·show sN m (λk=>(if i=a then-one i k else one i k)*F k j)=_;rw[jx z,<-e];exact Zh λk _=>by rw[jx z]
 have inv:EqM m (mul m (λi k=>if i=a then-one i k else one i k) (λi k=>if i=a then-one i k else one i k)) one:=λi j b f=>by
  rw[c _ i j b];split
  ·omega
  ·rfl
 refine⟨⟨_,_,inv,inv,λi j b=>(c E i j b).symm,λi k n h o=>?_⟩,λi j b=>?_,λi j b=>?_⟩
 ·have:one i k=0:=by unfold one;rw[jx (by omega)]
  simp only[this];split<;>exact⟨rfl,rfl⟩
 ·show(if i=a then _ else _)=_;rw[jx (by omega)]
 ·show(if i=a then _ else _)=_;rw[jx (by omega)]
structure Adm(m:Nat)(A0 E:Mt):Prop where
 ex:∃L' R':Mt,EqM m (mul m (λi k=>E i (m+k)) L') one/\EqM m (mul m L' (λi k=>E i (m+k))) one/\EqM m (mul m (λi k=>E (m+i) k) R') one/\EqM m (mul m R' (λi k=>E (m+i) k)) one
 val:EqM m (mul m (λi k=>E i (m+k)) (mul m A0 (λi k=>E (m+i) k))) E
 nil:∀i j,i<m->j<m->E (m+i) (m+j)=0
theorem Adm.rt{m p:Nat}{e E c:Mt}(h:Adm m e E)(r:RT m p E c):Adm m e c:=by obtain⟨U,V,v,s,g,x⟩:=r.ex;obtain⟨w,o,n,t,q,u⟩:=h.ex;have d:EqM m (λi k=>c i (m+k)) (mul m U (λi k=>E i (m+k))):=λi j b a=>g i (m+j) b;have f:EqM m (λi k=>c (m+i) k) (λi k=>E (m+i) k):=λi j b a=>r.low _ _ (by omega);refine⟨⟨mul m w V,o,(d.mulL).trans (Tz v n),(d.mulR).trans (Tz t s),(f.mulL).trans q,(f.mulR).trans u⟩,λi j b a=>?_,λi j b a=>by rw[r.low _ _ (by omega)];exact h.nil i j b a⟩;rw[g i j b,d.mulL i j b a,Vf];refine ZN (λ_ _=>rfl) λk l=>?_;rw[EqM.mulR (A:=λi k=>E i (m+k)) (EqM.mulR (A:=e) f) k j l a];exact h.val k j l a
theorem Adm.tr{m:Nat}{c E:Mt}(h:Adm m c E):Adm m (tr c) (tr E):=by
 obtain⟨g,f,l,o,n,p⟩:=h.ex
 have d:EqM m (PM.tr one) one:=λi j _ _=>by
  unfold PM.tr one;by_cases q:i=j
  ·rw[jw q,jw q.symm]
  ·rw[jx q,jx (λz=>q z.symm)]
 refine⟨⟨PM.tr f,PM.tr g,λi j b a=>?_,λi j b a=>?_,λi j b a=>?_,λi j b a=>?_⟩,λi j b a=>?_,λi j b a=>h.nil j i a b⟩
 ·exact((UZ m f (λi k=>E (m+i) k) i j).symm.trans (p j i a b)).trans (d i j b a)
 ·exact((UZ m (λi k=>E (m+i) k) f i j).symm.trans (n j i a b)).trans (d i j b a)
 ·exact((UZ m g (λi k=>E i (m+k)) i j).symm.trans (o j i a b)).trans (d i j b a)
 ·exact((UZ m (λi k=>E i (m+k)) g i j).symm.trans (l j i a b)).trans (d i j b a)
 ·have e:=h.val j i a b;show mul m (λi k=>E (m+k) i) (mul m (PM.tr c) (λi k=>E k (m+i))) i j=E j i;rw[<-e,<-Vf];have q:=UZ m (λi k=>E i (m+k)) (mul m c (λi k=>E (m+i) k)) i j;have r:mul m (PM.tr (mul m c (λi k=>E (m+i) k))) (PM.tr (λi k=>E i (m+k))) i j=mul m (mul m (λi k=>E (m+k) i) (PM.tr c)) (λi k=>E k (m+i)) i j:=ZN (λk _=>UZ m c (λi k=>E (m+i) k) i k) λ_ _=>rfl;exact(q.trans r).symm
theorem Adm.div{m:Nat}{d b E:Mt}{D:Int}(h:Adm m d E)(r:EqM m (mul m b d) (λi j=>D*one i j)){c:Int}{j:Nat}(p:j<m)(s:∀i,i<m->c∣E i j):c∣D:=by
 obtain⟨f,a,v,t,w,u⟩:=h.ex
 have e:mul m (mul m a (mul m b f)) E j j=D:=by
  have s1:mul m (mul m a (mul m b f)) E j j=mul m a (mul m (mul m b f) E) j j:=Vf ..;rw[s1]
  have s2:∀k,k<m->mul m (mul m b f) E k j=D*E (m+k) j:=λk n=>by
   rw[Vf];rw[ZN (A':=b) (B':=mul m d (λi k=>E (m+i) k)) (λ_ _=>rfl) (λl o=>?_)]
   ·rw[<-Vf,ZN (A':=λi j=>D*one i j) (B':=λi k=>E (m+i) k) (λl o=>r k l n o) (λ_ _=>rfl)];show sN m (λl=>D*one k l*E (m+l) j)=_;rw[Zh (g:=λl=>D*(one k l*E (m+l) j)) λl _=>bU _ _ _,ZI];congr 1;exact one_mul (A:=λi k=>E (m+i) k) n
   ·rw[ZN (A':=f) (B':=mul m (λi k=>E i (m+k)) (mul m d (λi k=>E (m+i) k))) (λ_ _=>rfl) (λi q=>(h.val i j q p).symm),<-Vf,ZN (A':=one) (B':=mul m d (λi k=>E (m+i) k)) (λi q=>t l i o q) (λ_ _=>rfl),one_mul o]
  rw[ZN (A':=a) (B':=λk j=>D*E (m+k) j) (λ_ _=>rfl) s2];show sN m (λk=>a j k*(D*E (m+k) j))=D;rw[Zh (g:=λk=>D*(a j k*E (m+k) j)) λk _=>by rw[<-bU,bF (a j k),bU],ZI];have:sN m (λk=>a j k*E (m+k) j)=1:=by have:=u j j p p;unfold one at this;rw[jw rfl] at this;exact this
  rw[this,fE]
 rw[<-e];exact Ny λk n=>gP (s k n)
noncomputable def Vg(i c:Nat):Nat:=if c<i then c else c+1
theorem K1(f:Nat->Int):∀n,sN (n+1) f=f 0+sN n λj=>f (j+1)
 | 0=>by show 0+f 0=f 0+0;omega
 | n+1=>by show sN (n+1) f+f (n+1)=f 0+(sN n (λj=>f (j+1))+f (n+1));rw[K1 f n];omega
theorem K2(r s:Nat):Vg (r+1) (s+1)=Vg r s+1:=by unfold Vg;split<;>split<;>omega
theorem Ob:∀{n:Nat}{A:Mt}{i:Nat},i<n+1->ZU (n+1) (Yl 0 (λc=>if c=i then 1 else 0) A)=sg i*ZU n (λr c=>A (r+1) (Vg i c))
 | n,A,0,_=>by
  rw[Z4,Z3 (k:=0) (by omega)]
  ·rw[ZJ,jw rfl];show 1*1*ZU n _=1*ZU n _;rw[cu,cu];rw[cu];exact ZD λr c _ _=>by show Yl 0 _ A (if r<0 then r else r+1) (c+1)=A (r+1) (Vg 0 c);rw[jx (by omega),Yp _ _ (by omega)];rfl
  ·intro r d g;rw[Ua (k:=0) (by omega) λc b=>?_,b5];show Yl 0 _ A (if 0<r then 0 else 0+1) (c+1)=0;rw[jw (by omega),ZJ,jx (by omega)]
 | 0,A,i+1,h=>by omega
 | n+1,A,i+1,h=>by
  rw[Z4,K1];have z:sg 0*Yl 0 (λc=>if c=i+1 then 1 else 0) A 0 0*ZU (n+1) (Ws 0 (Yl 0 (λc=>if c=i+1 then 1 else 0) A))=0:=by rw[ZJ,jx (by omega),b5,bb]
  rw[z,Int.zero_add,Z4,<-ZI];refine Zh λr d=>?_
  have e:ZU (n+1) (Ws (r+1) (Yl 0 (λc=>if c=i+1 then 1 else 0) A))=ZU (n+1) (Yl 0 (λc=>if c=i then 1 else 0) (Ws (r+1) A)):=ZD λs c f b=>by
   by_cases q:s=0
   ·subst q;show Yl 0 _ A (if 0<r+1 then 0 else 0+1) (c+1)=_;rw[jw (by omega),ZJ,ZJ];by_cases w:c=i
    ·rw[jw w,jw (by omega)]
    ·rw[jx w,jx (by omega)]
   ·rw[Yp _ _ q];show Yl 0 _ A (if s<r+1 then s else s+1) (c+1)=A (if s<r+1 then s else s+1) (c+1);rw[Yp];split<;>omega
  rw[e,Ob (n:=n) (i:=i) (by omega),Yp _ _ (by omega)];have a:ZU n (λs c=>Ws (r+1) A (s+1) (Vg i c))=ZU n (Ws r (λr c=>A (r+1) (Vg (i+1) c))):=ZD λs c _ _=>by show A (Vg (r+1) (s+1)) (Vg i c+1)=A (Vg r s+1) (Vg (i+1) (c+1));rw[K2,K2]
  rw[a];show-sg r*A (r+1) 0*(sg i*_) = - sg i*(sg r*A (r+1) 0*_);rw[bT,bT,bT,dI]
theorem II{n:Nat}{A:Mt}:ZU (n+1) A=sN (n+1) λi=>sg i*A 0 i*ZU n (λr c=>A (r+1) (Vg i c)):=by have h:=Mb (n:=n+1) (A:=A) (j:=0) (by omega) (A 0);rw[P7] at h;rw[<-h];refine Zh λi a=>?_;unfold Lp;rw[Ob a,<-bU,bF (A 0 i)]
theorem QY:∀{n:Nat}{A:Mt},ZU n (tr A)=ZU n A
 | 0,_=>rfl
 | n+1,A=>by rw[Z4,II];refine Zh λi a=>?_;have e:ZU n (Ws i (tr A))=ZU n (tr λr c=>A (r+1) (Vg i c)):=rfl;rw[e,QY];rfl
theorem D4:∀(m:Nat)(ρ:Nat->Nat)(j:Nat),(∀a,a<j->ρ a<m)->m<j->∃a b,a<b/\b<j/\ρ a=ρ b
 | 0,ρ,j,h,hj=>by have:=h 0 hj;omega
 | m+1,ρ,0,h,hj=>by omega
 | m+1,ρ,j+1,h,hj=>by
  by_cases q:∃a,a<j/\ρ a=ρ j
  ·obtain⟨a,d,f⟩:=q;exact⟨a,j,d,by omega,f⟩
  ·have ne:∀a,a<j->ρ a≠ρ j:=λa e z=>q ⟨a,e,z⟩
   obtain⟨a,b,d,f,c⟩:=D4 m (λa=>if ρ a=m then ρ j else ρ a) j (λa e=>by
    have d:=h a (by omega);have f:=h j (by omega);have c:=ne a e;show(if ρ a=m then ρ j else ρ a)<m;split<;>omega) (by omega)
   refine⟨a,b,d,by omega,?_⟩;have i:=ne a (by omega);have g:=ne b (by omega);have c:(if ρ a=m then ρ j else ρ a)=if ρ b=m then ρ j else ρ b:=c
   split at c<;>split at c<;>omega
theorem R3{m k j:Nat}{E:Mt}{d l:Nat->Nat}(e:∀a,a<j->k<=d a/\d a<m)(n:m-k<j):ZU j (λa b=>E (d a) (l b))=0:=by
 obtain⟨a,b,q,f,g⟩:=D4 (m-k) (λa=>d a-k) j (λa h=>by have:=e a h;show d a-k<m-k;omega) n;have p:=e a (by omega);have o:=e b f;have g:d a-k=d b-k:=g;exact WN (i:=a) (j:=b) (by omega) f (by omega) λc _=>by rw[show d a=d b by omega]
noncomputable def Mn(m k T:Nat)(E:Mt):Prop:=∀(j:Nat)(ρ σ:Nat->Nat),(∀a,a<j->k<=ρ a/\ρ a<m)->(∀a,a<j->k<=σ a/\σ a<m)->(ZU j (λa b=>E (ρ a) (σ b))).natAbs<=T
theorem Mn.tr{m k T:Nat}{E:Mt}(h:Mn m k T E):Mn m k T (PM.tr E):=λj d c f g=>by have e:ZU j (λa b=>PM.tr E (d a) (c b))=ZU j (PM.tr λa b=>E (c a) (d b)):=rfl;rw[e,QY];exact h j c d g f
theorem Mn.up{m k T a:Nat}{E:Mt}(h:Mn m k T E)(l:T<=a):Mn m k a E:=λj e d b c=>aV (h j e d b c) l
theorem Mn.ab{m k T:Nat}{E:Mt}(h:Mn m k T E){i j:Nat}(b:k<=i)(c:i<m)(d:k<=j)(a:j<m):(E i j).natAbs<=T:=by
 have:=h 1 (λ_=>i) (λ_=>j) (λ_ _=>⟨b,c⟩) (λ_ _=>⟨d,a⟩);have e:ZU 1 (λ_ _=>E i j)=E i j:=by show 0+1*E i j*1=_;omega
 rwa [e] at this
theorem Mn.rows{m k T:Nat}{E:Mt}(h:Mn m k T E)(f:Nat->Nat)(g:∀i,k<=i->i<m->k<=f i/\f i<m):Mn m k T (λi j=>E (f i) j):=λj l e c d=>h j (λa=>f (l a)) e (λa b=>g _ (c a b).1 (c a b).2) d
theorem Nz:∀i,(sg i).natAbs=1
 | 0=>rfl
 | i+1=>by show(- sg i).natAbs=1;rw[eh];exact Nz i
theorem Mn.turn{m k T:Nat}{E g:Mt}{q:Nat->Int}(h7:m<=7)(hk:k<m)(h:Mn m k T E)(nz:E k k≠0)(e:∀i j,k<=i->i<m->g i j=E i j-q i*E k j)(r:∀i,k<=i->i<m->(g i k).natAbs<=(E k k).natAbs):Mn m k (8*T) g:=λj t f v D=>by
 by_cases B:m-k<j
 ·rw[R3 v B];exact bz _
 obtain⟨R,I⟩:∃R:Nat->Nat,∀a,R a=if a=0 then k else t (a-1):=⟨_,λ_=>rfl⟩
 obtain⟨S,G⟩:∃S:Nat->Nat,∀a,S a=if a=0 then k else f (a-1):=⟨_,λ_=>rfl⟩
 have p:R 0=k:=by rw[I,jw rfl]
 have x:S 0=k:=by rw[G,jw rfl]
 have y:∀a,R (a+1)=t a:=λa=>by rw[I,jx (by omega),ic]
 have w:∀a,S (a+1)=f a:=λa=>by rw[G,jx (by omega),ic]
 have l:∀a,a<j+1->k<=R a/\R a<m:=λa n=>by
  cases a with
  | zero=>rw[p];omega
  | succ a=>rw[y];exact v a (by omega)
 have W:∀a,a<j+1->k<=S a/\S a<m:=λa n=>by
  cases a with
  | zero=>rw[x];omega
  | succ a=>rw[w];exact D a (by omega)
 obtain⟨X,P⟩:∃X:Mt,X=λa b=>if a=0 then E k (S b) else g (R a) (S b):=⟨_,rfl⟩
 have C:∀b,X 0 b=E k (S b):=λb=>by rw[P];exact jw rfl
 have u:∀a b,a≠0->X a b=g (R a) (S b):=λa b h=>by rw[P];exact jx h
 have U:ZU (j+1) X=ZU (j+1) (λa b=>E (R a) (S b)):=SN (q:=0) (k:=λa=>- q (R a)) (by omega) (λc A=>by rw[C,p]) λa c n A H=>by rw[u a c H,p,e _ _ (l a n).1 (l a n).2,bT];omega
 have o:=h (j+1) R S l W;rw[<-U,Z4,K1] at o;have Q:X 0 0=E k k:=by rw[C,x]
 have Z:ZU j (Ws 0 X)=ZU j (λa b=>g (t a) (f b)):=ZD λa b _ _=>by
  show X (Vg 0 a) (b+1)=_;have z:Vg 0 a=a+1:=by unfold Vg;rw[jx (by omega)]
  rw[z,u _ _ (by omega),y,w]
 have Z6:(sN j λi=>sg (i+1)*X (i+1) 0*ZU j (Ws (i+1) X)).natAbs<=j*((E k k).natAbs*T):=Nx λi M=>by
  rw[cZ,cZ,Nz,iG];refine dB ?_ ?_
  ·rw[u _ _ (by omega),y,x];exact r _ (v i M).1 (v i M).2
  ·have O:Vg (i+1) 0=0:=by unfold Vg;rw[jw (by omega)]
   have Y:ZU j (Ws (i+1) X)=ZU j (λa b=>E (R (Vg (i+1) a)) (f b)):=SN (q:=0) (k:=λa=>- q (R (Vg (i+1) a))) (by omega) (λc A=>by
    show X (Vg (i+1) 0) (c+1)=E (R (Vg (i+1) 0)) (f c)
    rw[O,C,p,w]) λa c n A H=>by
    have z:Vg (i+1) a≠0:=by unfold Vg;split<;>omega
    have L:Vg (i+1) a<j+1:=by unfold Vg;split<;>omega
    show X (Vg (i+1) a) (c+1)=E (R (Vg (i+1) a)) (f c) + - q (R (Vg (i+1) a))*E (R (Vg (i+1) 0)) (f c);rw[u _ _ z,O,p,w,e _ _ (l _ L).1 (l _ L).2,bT];omega
   rw[Y];refine h j (λa=>R (Vg (i+1) a)) f (λa n=>l _ ?_) D;unfold Vg;split<;>omega
 rw[Z,Q] at o;generalize ZU j (λa b=>g (t a) (f b))=d at o ⊢;generalize (sN j λi=>sg (i+1)*X (i+1) 0*ZU j (Ws (i+1) X))=s at o Z6;have F:1<=(E k k).natAbs:=by omega
 have N:(E k k*d).natAbs<=T+j*((E k k).natAbs*T):=by
  have J:(sg 0*E k k*d)=E k k*d:=by show 1*E k k*d=_;rw[cu]
  rw[J] at o;omega
 rw[cZ] at N;refine Nat.le_of_mul_le_mul_left (aV N ?_) F;have J:T<=(E k k).natAbs*T:=el _ F;have h3:j*((E k k).natAbs*T)<=7*((E k k).natAbs*T):=dh _ (by omega);rw[dY (E k k).natAbs 8 T];omega
noncomputable def fct:Nat->Nat
 | 0=>1
 | n+1=>(n+1)*fct n
theorem Mh{B:Nat}:∀{j:Nat}{A:Mt},(∀a b,a<j->b<j->(A a b).natAbs<=B)->(ZU j A).natAbs<=fct j*B^j
 | 0,_,_=>aH _
 | j+1,A,h=>by
  rw[Z4]
  have:=Nx (n:=j+1) (f:=λi=>sg i*A i 0*ZU j (Ws i A)) (M:=B*(fct j*B^j)) λi c=>by
   rw[cZ,cZ,Nz,iG];refine dB (h i 0 c (by omega)) (Mh λa b d e=>h _ _ ?_ (by omega));split<;>omega
  refine aV this ?_;show(j+1)*(B*(fct j*B^j))<=(j+1)*fct j*B^(j+1);rw[dJ,dW,dY B,cN B];exact aH _
theorem Oc{B:Nat}(a:1<=B):∀{n j:Nat},j<=n->fct j*B^j<=fct n*B^n
 | 0,j,h=>by rw[show j=0 by omega];exact aH _
 | n+1,j,h=>by
  by_cases q:j=n+1
  ·rw[q];exact aH _
  ·refine aV (Oc a (n:=n) (by omega)) ?_;refine dB (el _ (by omega)) (iH a (by omega))
theorem Mn.ent{m k n B:Nat}{E:Mt}(l:1<=B)(q:m-k<=n)(h:∀i j,k<=i->i<m->k<=j->j<m->(E i j).natAbs<=B):Mn m k (fct n*B^n) E:=λj p o c f=>by
 by_cases d:m-k<j
 ·rw[R3 c d];exact bz _
 ·exact aV (Mh λa b e g=>h _ _ (c a e).1 (c a e).2 (f b g).1 (f b g).2) (Oc l (by omega))
theorem Mn.same{m k T:Nat}{E n:Mt}{q:Nat->Int}(h:Mn m k T E)(u:q k=0)(e:∀i j,k<=i->i<m->n i j=E i j-q i*E k j)(z:∀i,k<i->i<m->n i k=0)(v:∀j,k<j->j<m->E k j=0):Mn m k T n:=λj d f g r=>by
 by_cases s:∃a,a<j/\d a=k
 ·obtain⟨a,l,t⟩:=s
  rw[SN (q:=a) (A:=λa b=>E (d a) (f b)) (k:=λb=>- q (d b)) l (λc p=>by show n (d a) (f c)=E (d a) (f c);rw[e _ _ (g a l).1 (g a l).2,t,u];simp) λb c o p _=>by
   show n (d b) (f c)=E (d b) (f c) + - q (d b)*E (d a) (f c);rw[e _ _ (g b o).1 (g b o).2,t,bT];omega]
  exact h j d f g r
 ·have lo:∀a,a<j->k<d a:=λa l=>dC (g a l).1 λw=>s ⟨a,l,w.symm⟩;by_cases p:∃b,b<j/\f b=k
  ·obtain⟨b,o,y⟩:=p
   have x:ZU j (λa b=>n (d a) (f b))=0:=by
    rw[<-QY];exact Ua (k:=b) o λc p=>by show n (d c) (f b)=0;rw[y];exact z _ (lo c p) (g c p).2
   rw[x];exact bz _
  ·rw[ZD (B:=λa b=>E (d a) (f b)) λa b l o=>by
    have:k<f b:=dC (r b o).1 λw=>p ⟨b,o,w.symm⟩;show n (d a) (f b)=E (d a) (f b);rw[e _ _ (g a l).1 (g a l).2,v _ this (r b o).2];simp]
   exact h j d f g r
theorem Mn.less{m k u T:Nat}{E g:Mt}(I:k<u)(x:u<m)(h:Mn m k T E)(J:∀j,g k j=E k j-1*E u j)(C:∀i j,i≠k->g i j=E i j)(z:∀i,k<i->i<m->E i k=0)(H:∀j,k<j->j<m->E k j=0):Mn m k T g:=λj e d q p=>by
 by_cases F:∃a,a<j/\e a=k
 ·obtain⟨a,s,A⟩:=F;by_cases G:∃b,b<j/\b≠a/\e b=k
  ·obtain⟨b,f,n,D⟩:=G;have r:ZU j (λa b=>g (e a) (d b))=0:=WN f s n λc _=>by show g (e b) (d c)=g (e a) (d c);rw[A,D]
   rw[r];exact bz _
  ·have only:∀b,b<j->b≠a->e b≠k:=λb f n w=>G ⟨b,f,n,w⟩;obtain⟨R,v⟩:∃R:Nat->Nat,∀b,R b=if b=a then u else e b:=⟨_,λ_=>rfl⟩
   have t:ZU j (λa b=>g (e a) (d b))=1*ZU j (λa b=>E (e a) (d b))+(-1)*ZU j (λa b=>E (R a) (d b)):=QW (k:=a) s (λb c f l n=>by
    refine⟨?_,?_⟩
    ·show E (e b) (d c)=g (e b) (d c);rw[C _ _ (only b f n)]
    ·show E (R b) (d c)=g (e b) (d c)
     rw[v,jx n,C _ _ (only b f n)]) λc l=>by
    show g (e a) (d c)=1*E (e a) (d c)+(-1)*E (R a) (d c);rw[A,v,jw rfl,J];omega
   by_cases l:∃b,b<j/\d b=k
   ·obtain⟨b,f,D⟩:=l
    have r:ZU j (λa b=>E (R a) (d b))=0:=by
     rw[<-QY]
     exact Ua (k:=b) f λc l=>by
      show E (R c) (d b)=0;rw[D,v];by_cases w:c=a
      ·rw[jw w];exact z u I x
      ·rw[jx w];exact z _ (dC (q c l).1 λy=>only c l w y.symm) (q c l).2
    rw[t,r,cu,b5,fQ];exact h j e d q p
   ·have r:ZU j (λa b=>E (e a) (d b))=0:=Ua (k:=a) s λc o=>by show E (e a) (d c)=0;rw[A];exact H _ (dC (p c o).1 λw=>l ⟨c,o,w.symm⟩) (p c o).2
    rw[t,r]
    have:=h j R d (λb f=>by
     rw[v];split
     ·omega
     ·exact q b f) p
    omega
 ·rw[ZD (B:=λa b=>E (e a) (d b)) λa b s f=>C _ _ λw=>F ⟨a,s,w⟩];exact h j e d q p
theorem K3{x p:Int}(d:0<=x)(c:0<p):(x.fdiv p).natAbs=x.natAbs/p.natAbs/\(x-x.fdiv p*p).natAbs=x.natAbs%p.natAbs/\0<=(x-x.fdiv p*p)*p:=by
 obtain⟨a,rfl⟩:=gW d;obtain⟨b,rfl⟩:=gW (fR c);have e:(a:Int).fdiv (b:Int)=((a/b:Nat):Int):=by rw[fX _ (fR c)];exact(Int.natCast_ediv a b).symm
 have r:(a:Int)-((a/b:Nat):Int)*(b:Int)=((a%b:Nat):Int):=by
  have:=jY a b;have h:(b:Int)*((a/b:Nat):Int)+((a%b:Nat):Int)=(a:Int):=by exact_mod_cast this
  rw[bF] at h;omega
 rw[e,r];exact⟨rfl,rfl,dP (ie _) (ie _)⟩
theorem IJ{x p:Int}(h:0<=x*p)(c:p≠0):(x.fdiv p).natAbs=x.natAbs/p.natAbs/\(x-x.fdiv p*p).natAbs=x.natAbs%p.natAbs/\0<=(x-x.fdiv p*p)*p:=by
 rcases fu c with d | a
 ·have f:x<=0:=by refine i9.mp λz=>?_;have:=Int.mul_neg_of_pos_of_neg z d;omega
  have:=K3 (x:=-x) (p:=-p) (by omega) (by omega);rw[Int.neg_fdiv_neg,eh,eh] at this;refine⟨this.1,?_,?_⟩
  ·rw[<-this.2.1,<-eh];congr 1;rw[gG];omega
  ·have b:=this.2.2;have e:(-x-x.fdiv p * -p) * -p=(x-x.fdiv p*p)*p:=by rw[gG,<-bT,gG];congr 1;omega
   rw[e] at b;exact b
 ·refine K3 (i9.mp λz=>?_) a;have:=gF z a;omega
theorem fd_any{x p:Int}(i:p≠0):(x-x.fdiv p*p).natAbs<p.natAbs/\0<=(x-x.fdiv p*p)*p/\(x.fdiv p).natAbs<=x.natAbs+1:=by
 have e:x-x.fdiv p*p=x.fmod p:=by have:=Int.mul_fdiv_add_fmod x p;rw[bF] at this;omega
 have r:(x.fmod p).natAbs<p.natAbs/\0<=x.fmod p*p:=by
  rcases fu i with k | a
  ·have c:=gi (-x) (b:=-p) (by omega);have f:=ig (-x) (b:=-p) (by omega);rw[Int.neg_fmod_neg] at c f;refine⟨by omega,?_⟩;have:=dP c (show 0<=-p by omega);rw[Int.neg_mul_neg] at this;exact this
  ·have c:=gi x (b:=p) a;have f:=ig x (b:=p) a;exact⟨by omega,dP c (by omega)⟩
 rw[e];refine⟨r.1,r.2,?_⟩;have g:x.fdiv p*p=x-x.fmod p:=by omega
 have j:(x.fdiv p).natAbs*p.natAbs<=x.natAbs+(x.fmod p).natAbs:=by rw[<-cZ,g];exact gH _ _
 refine f9.mp λz=>?_;have d:1<=p.natAbs:=by omega
 have h:(x.natAbs+2)*p.natAbs<=(x.fdiv p).natAbs*p.natAbs:=dh _ z;rw[iE] at h;have l:x.natAbs*1<=x.natAbs*p.natAbs:=bH _ d;omega
noncomputable def Bo(m k j N:Nat)(E:Mt):Prop:=∀i,k<=i->i<m->(E i j).natAbs<=N
structure Fst(m k:Nat)(E:Mt)(f:Nat):Prop where
 lo:k<f
 hi:f<m
 ne:E f k≠0
 ze:∀i,k<i->i<f->E i k=0
noncomputable def red(m k:Nat)(E:Mt):Mt:=λi j=>if k<i/\i<m then E i j-(E i k).fdiv (E k k)*E k j else E i j
theorem red_k{m k j:Nat}{E:Mt}:red m k E k j=E k j:=by unfold red;rw[jx (by omega)]
theorem Uc{m k i j:Nat}{E:Mt}(h:k<i)(a:i<m):red m k E i j=E i j-(E i k).fdiv (E k k)*E k j:=by unfold red;rw[jw ⟨h,a⟩]
theorem RT.many{m k:Nat}{E:Mt}(q:Nat->Int)(f:k<m):RT m k E (λi j=>if k<i/\i<m then E i j-q i*E k j else E i j):=by
 have d:∀t,t<=m->RT m k E (λi j=>if k<i/\i<t then E i j-q i*E k j else E i j):=by
  intro t
  induction t with
  | zero=>intro _;rw[show(λi j=>if k<i/\i<0 then E i j-q i*E k j else E i j)=E from funext λi=>funext λj=>jx (by omega)];exact RT.refl
  | succ t ih=>
   intro h;have c:=ih (by omega);by_cases z:k<t
   ·refine c.trans (by omega) ?_;have g:=RT.sub (m:=m) (p:=k) (a:=t) (b:=k) (q:=q t) (E:=λi j=>if k<i/\i<t then E i j-q i*E k j else E i j) (by omega) (by omega) (aH _) f (by omega)
    have e:(λi j=>if k<i/\i<t+1 then E i j-q i*E k j else E i j)=(λi j=>if i=t then(if k<i/\i<t then E i j-q i*E k j else E i j)-q t*(if k<k/\k<t then E k j-q k*E k j else E k j) else if k<i/\i<t then E i j-q i*E k j else E i j):=by
     funext i j;rw[jx (show ¬(k<k/\k<t) by omega)];by_cases w:i=t
     ·subst w;rw[jw ⟨z,by omega⟩,jw rfl,jx (by omega)]
     ·rw[jx w];by_cases y:k<i/\i<t
      ·rw[jw y,jw ⟨y.1,by omega⟩]
      ·rw[jx y,jx (by omega)]
    rw[e];exact g
   ·have e:(λi j=>if k<i/\i<t+1 then E i j-q i*E k j else E i j)=(λi j=>if k<i/\i<t then E i j-q i*E k j else E i j):=by funext i j;rw[jx (by omega),jx (by omega)]
    rw[e];exact c
 exact d m (aH _)
theorem rt_red{m k:Nat}{E:Mt}(a:k<m):RT m k E (red m k E):=RT.many (λi=>(E i k).fdiv (E k k)) a
open Classical in
noncomputable def pre(k f:Nat)(E:Mt):Mt:=if E k k=0\/(E f k).natAbs<(E k k).natAbs then λi j=>E (sw k f i) j else E
theorem rt_pre{m k f:Nat}{E:Mt}(a:k<m)(h:k<f)(b:f<m):RT m k E (pre k f E):=by
 unfold pre;split
 ·exact RT.swap (aH _) a (by omega) b
 ·exact RT.refl
theorem NA(a b:Nat):sw a b a=b:=by unfold sw;rw[jw rfl]
theorem Fq{a b:Nat}(h:a≠b):sw a b b=a:=by unfold sw;rw[jx (λz=>h z.symm),jw rfl]
theorem sw_c{a b i:Nat}(h:i≠a)(c:i≠b):sw a b i=i:=by unfold sw;rw[jx h,jx c]
structure Hyp(m k:Nat)(E:Mt)(j N M P:Nat):Prop where
 bo:Bo m k j N E
 one:1<=P
 piv:E k k≠0->(E k k).natAbs<=P
 nil:E k k=0->∀i,k<i->i<m->(E i k).natAbs<=P
 col:(∀i,k<=i->i<m->(E i k).natAbs<=M)\/(m=k+2/\E k j=0/\E k k≠0/\(E k k).natAbs<=M)
structure Aft(m k:Nat)(E0 E:Mt):Prop where
 nz:E k k≠0
 sg:∀i,k<i->i<m->(E i k).natAbs<(E k k).natAbs/\0<=E i k*E k k
 dv:E0 k k≠0->(∀i,k<i->i<m->E0 k k∣E0 i k)->E=red m k E0
 pv:∀P,(E0 k k≠0->(E0 k k).natAbs<=P)->(E0 k k=0->∀i,k<i->i<m->(E0 i k).natAbs<=P)->(E k k).natAbs<=P
 po:∀j N M P,Hyp m k E0 j N M P->∃N',Bo m k j N' E/\N'<=2*(N*(M+2)*P^3)/\∀f,Fst m k E f->N'*(E k k).natAbs*((E k k).natAbs*(E f k).natAbs)<=N*(M+2)*P^3
 mn:∀T P,m<=7->Mn m k T E0->1<=P->(E0 k k≠0->(E0 k k).natAbs<=P)->(E0 k k=0->∀i,k<i->i<m->(E0 i k).natAbs<=P)->∃T',Mn m k T' E/\T'<=64*(T*P^6)/\∀f,Fst m k E f->T'*((E k k).natAbs*(E f k).natAbs)^3<=8*(T*P^6)
theorem NB{x y q:Int}{N Q:Nat}(d:x.natAbs<=N)(b:y.natAbs<=N)(c:q.natAbs<=Q):(x-q*y).natAbs<=N*(1+Q):=by have a:=gH x (q*y);rw[cZ] at a;have e:q.natAbs*y.natAbs<=Q*N:=dB c b;rw[Nat.mul_add,Nat.mul_one,cN N Q];omega
theorem Mn.red{m k T:Nat}{E:Mt}(e:m<=7)(c:k<m)(h:Mn m k T E)(b:E k k≠0):Mn m k (8*T) (PM.red m k E):=
 h.turn (q:=λi=>if k<i/\i<m then(E i k).fdiv (E k k) else 0) e c b (λi j d a=>by
  show PM.red m k E i j=E i j-(if k<i/\i<m then(E i k).fdiv (E k k) else 0)*E k j;by_cases q:k<i
  ·rw[Uc q a,jw ⟨q,a⟩]
  ·rw[jx (λw=>q w.1),show i=k by omega,red_k];omega) λi d a=>by
  by_cases q:k<i
  ·rw[Uc q a];have:=(fd_any (x:=E i k) b).1;omega
  ·rw[show i=k by omega,red_k];exact aH _
theorem Mn.pre{m k f T:Nat}{E:Mt}(b:k<m)(c:k<f)(a:f<m)(h:Mn m k T E):Mn m k T (PM.pre k f E):=by
 unfold PM.pre;split
 ·exact h.rows (sw k f) λi d e=>by unfold sw;split<;>(try split)<;>omega
 ·exact h
theorem EA(p v:Nat):(p*v)^3=p^3*v^3:=Nat.mul_pow p v 3
theorem Aft.first{m k f:Nat}{E:Mt}(l:k<m)(F:Fst m k E f):Aft m k E (red m k (pre k f E)):=by
 have L:=F.lo
 have b:pre k f E k k≠0:=by
  unfold pre;split
  ·show E (sw k f k) k≠0;rw[NA];exact F.ne
  ·rename_i h;exact λz=>h (.inl z)
 have pv:∀P,(E k k≠0->(E k k).natAbs<=P)->(E k k=0->∀i,k<i->i<m->(E i k).natAbs<=P)->(pre k f E k k).natAbs<=P:=λP piv nil=>by
   unfold pre;split
   ·rename_i h;show(E (sw k f k) k).natAbs<=P;rw[NA];rcases h with z | z
    ·exact nil z f F.lo F.hi
    ·have:=piv (by omega);omega
   ·rename_i h;exact piv λz=>h (.inl z)
 refine⟨by rw[red_k];exact b,λi c a=>?_,λp C=>?_,λP piv nil=>by rw[red_k];exact pv P piv nil,λj N M P H=>?_,λT P R A v piv nil=>?_⟩
 ·rw[red_k,Uc c a];have:=fd_any (x:=pre k f E i k) b;exact⟨this.1,this.2.1⟩
 ·have:pre k f E=E:=by
   unfold pre;rw[jx];rintro(z | z)
   ·exact p z
   ·have:=cA.mpr (C f F.lo F.hi);have:=eD (by have:=F.ne;omega) this;omega
  rw[this]
 ·have pP:=pv P H.piv H.nil
  have D:Bo m k j (N*(M+2)) (red m k (pre k f E)):=λi c a=>by
   have n:N<=N*(M+2):=az N (by omega);by_cases e:i=k
   ·subst e;rw[red_k];refine aV ?_ n;unfold pre;split
    ·show(E (sw i f i) j).natAbs<=N;rw[NA];exact H.bo f (by omega) F.hi
    ·exact H.bo i c a
   ·rw[Uc (by omega) a]
    have u:(pre k f E i j).natAbs<=N:=by
     unfold pre;split
     ·show(E (sw k f i) j).natAbs<=N;unfold sw;split
      ·exact H.bo f (by omega) F.hi
      ·split
       ·exact H.bo k (by omega) l
       ·exact H.bo i c a
     ·exact H.bo i c a
    have d:(pre k f E k j).natAbs<=N:=by
     unfold pre;split
     ·show(E (sw k f k) j).natAbs<=N;rw[NA];exact H.bo f (by omega) F.hi
     ·exact H.bo k (by omega) l
    rcases H.col with y | ⟨W,p,U,I⟩
    ·have q:=(fd_any (x:=pre k f E i k) b).2.2
     have t:(pre k f E i k).natAbs<=M:=by
      unfold pre;split
      ·show(E (sw k f i) k).natAbs<=M;exact y _ (by unfold sw;split<;>(try split)<;>omega) (sw_lt l F.hi a)
      ·exact y i c a
     have:=NB u d (aV q (iI t 1));rw[show M+2=1+(M+1) by omega];exact this
    ·have O:i=f:=by have:=F.hi;omega
     subst O;by_cases s:E k k=0\/(E i k).natAbs<(E k k).natAbs
     ·have q:=(fd_any (x:=pre k i E i k) b).2.2;have t:(pre k i E i k).natAbs<=M:=by unfold pre;rw[jw s];show(E (sw k i i) k).natAbs<=M;rw[Fq (by omega)];exact I
      have:=NB u d (aV q (iI t 1));rw[show M+2=1+(M+1) by omega];exact this
     ·have Q:pre k i E k j=0:=by unfold pre;rw[jx s];exact p
      rw[Q,b5,jE];exact aV u n
  have v:=H.one;have c3:1<=P^3:=di _ _ v;refine⟨_,D,aV (az _ c3) (el _ (by omega)),λg G=>?_⟩;have o:(red m k (pre k f E) k k).natAbs<=P:=by rw[red_k];exact pP
  have r:(red m k (pre k f E) g k).natAbs<=P:=by rw[Uc G.lo G.hi];have:=(fd_any (x:=pre k f E g k) b).1;omega
  rw[dW,show P^3=P*(P*P) by rw[dJ,dJ,Nat.pow_one];rw[dW]];exact bH _ (dB o (dB o r))
 ·have pP:=pv P piv nil;have B:1<=P^6:=di _ _ v;have S:T<=T*P^6:=az _ B;refine⟨8*T,(A.pre l F.lo F.hi).red R l b,by omega,λg G=>?_⟩;have o:(red m k (pre k f E) k k).natAbs<=P:=by rw[red_k];exact pP
  have r:(red m k (pre k f E) g k).natAbs<=P:=by rw[Uc G.lo G.hi];have:=(fd_any (x:=pre k f E g k) b).1;omega
  have w:=fP (dB o r) 3;have J:(P*P)^3=P^6:=by rw[EA,<-fJ]
  rw[J] at w;rw[dW];exact bH _ (bH _ w)
theorem Aft.next{m k f:Nat}{E0 E:Mt}(R:k<m)(A:Aft m k E0 E)(F:Fst m k E f):Aft m k E0 (red m k (pre k f E))/\(red m k (pre k f E) k k).natAbs<(E k k).natAbs:=by
 have Y:=F.lo;have C:=A.sg f F.lo F.hi;have ep:pre k f E=λi j=>E (sw k f i) j:=by unfold pre;rw[jw (.inr C.1)]
 rw[ep];have pk:∀j,(λi j=>E (sw k f i) j:Mt) k j=E f j:=λj=>by show E (sw k f k) j=_;rw[NA]
 obtain⟨a,I⟩:∃a,a=(E k k).natAbs:=⟨_,rfl⟩;obtain⟨b,t⟩:∃b,b=(E f k).natAbs:=⟨_,rfl⟩;have l:0<b:=by have:=F.ne;omega
 have hab:b<a:=by omega
 -- the entries of the column ahead of the turn
 have J:∀i,k<i->i<m->(E (sw k f i) k).natAbs<=a/\0<=E (sw k f i) k*E f k:=λi n d=>by
  by_cases e:i=f
  ·subst e;rw[Fq (by omega)];exact⟨by omega,by rw[bF];exact C.2⟩
  ·rw[sw_c (by omega) e];have:=A.sg i n d;refine⟨by omega,?_⟩;have h3:=dP this.2 C.2;have e1:E i k*E k k*(E f k*E k k)=E i k*E f k*(E k k*E k k):=by rw[bU,bU];congr 1;rw[<-bU,bF (E k k) (E f k),bU]
   rw[e1] at h3;have nz:=A.nz
   have sq:0<E k k*E k k:=by
    rcases fu nz with h | h
    ·exact Int.mul_pos_of_neg_of_neg h h
    ·exact Int.mul_pos h h
   refine i9.mp λz=>?_;have:=gF z sq;omega
 have ent:∀i,k<i->i<m->∀j,red m k (λi j=>E (sw k f i) j) i j=E (sw k f i) j-(E (sw k f i) k).fdiv (E f k)*E f j:=λi n d j=>by rw[Uc n d,NA]
 have piv:∀j,red m k (λi j=>E (sw k f i) j) k j=E f j:=λj=>by rw[red_k];exact pk j
 have q:∀i,k<i->i<m->(red m k (λi j=>E (sw k f i) j) i k).natAbs=(E (sw k f i) k).natAbs%b/\0<=red m k (λi j=>E (sw k f i) j) i k*E f k/\((E (sw k f i) k).fdiv (E f k)).natAbs<=a/b:=λi n d=>by rw[ent i n d];have v:=J i n d;have:=IJ v.2 F.ne;rw[<-t] at this;exact⟨this.2.1,this.2.2,by rw[this.1];exact Nat.div_le_div_right v.1⟩
 have two:∀g,Fst m k (red m k (λi j=>E (sw k f i) j)) g->2*(red m k (λi j=>E (sw k f i) j) g k).natAbs<=a:=λg p=>by
   have B:=(q f F.lo F.hi).1;rw[Fq (by omega),<-I] at B;have da:=jY a b;have X:1<=a/b:=(Nat.one_le_div_iff l).mpr (by omega);have d2:b*1<=b*(a/b):=bH _ X;have ml:=ij a l;by_cases e:g=f
   ·subst e;rw[B];omega
   ·have gf:f<g:=by
     refine dC (f9.mp λz=>?_) (λz=>e z.symm);refine p.ne ?_;have w:=(q g p.lo p.hi).1;rw[sw_c (by have:=p.lo;omega) e,F.ze g p.lo z] at w;have:(red m k (λi j=>E (sw k f i) j) g k).natAbs=0:=by rw[w];simp
     omega
    have Z:=p.ze f F.lo gf;rw[Z] at B;have r0:a%b=0:=by rw[<-B];rfl
    have r1:=(q g p.lo p.hi).1;have r2:=ij (E (sw k f g) k).natAbs l
    have d3:2<=a/b:=by
     refine f9.mp λz=>?_;have:a/b=1:=by omega
     rw[this] at da;omega
    have d4:b*2<=b*(a/b):=bH _ d3;omega
 refine⟨⟨by rw[piv];exact F.ne,λi n d=>?_,λL O=>?_,λP n d=>by rw[piv];have:=A.pv P n d;omega,λj N M P H=>?_,λT P Q hT hP n d=>?_⟩,by rw[piv];omega⟩
 ·have r:=q i n d;rw[piv,r.1];exact⟨by rw[<-t];exact ij _ l,r.2.1⟩
 ·exfalso;have e:=A.dv L O;have:=F.ne;rw[e,Uc F.lo F.hi] at this;obtain⟨c,hc⟩:=O f F.lo F.hi;rw[hc,eB _ L,bF c] at this;exact this (by omega)
 ·obtain⟨o,x,S,y⟩:=A.po j N M P H;have s:=y f F;rw[<-I,<-t] at s;generalize N*(M+2)*P^3=G at s S y ⊢
  have W:Bo m k j (o*(1+a/b)) (red m k (λi j=>E (sw k f i) j)):=λi n d=>by
   by_cases e:i=k
   ·subst e;rw[piv];exact aV (x f (by omega) F.hi) (az _ (aZ Nat.one_pos (dO 1 _)))
   ·rw[ent i (by omega) d];refine NB (x _ ?_ (sw_lt R F.hi d)) (x f (by omega) F.hi) (q i (by omega) d).2.2;unfold sw;split<;>(try split)<;>omega
  have n1:o*(1+a/b)*b<=2*(o*a):=by rw[dW,iE,iG,dY];refine bH _ ?_;have:=Nat.div_mul_le_self a b;omega
  have n2:o*a<=G:=by refine aV ?_ s;exact az _ (Nat.mul_pos (by omega) l)
  refine⟨_,W,?_,λg p=>?_⟩
  ·have:o*(1+a/b)<=o*(1+a/b)*b:=az _ l;omega
  ·rw[piv,<-t];have two:=two g p;generalize (red m k (λi j=>E (sw k f i) j) g k).natAbs=v at two ⊢;have s1:o*(1+a/b)*b*(b*v)<=2*(o*a)*(b*v):=dh _ n1;have s2:2*(o*a)*(b*v)=o*a*(b*(2*v)):=by rw[cN 2,dW,dY 2 b v]
   have U:o*a*(b*(2*v))<=o*a*(b*a):=bH _ (bH _ two);rw[cN b a] at U;omega
 ·obtain⟨u,x,S,y⟩:=A.mn T P Q hT hP n d;have s:=y f F;rw[<-I,<-t] at s;have D:1<=(a*b)^3:=di _ _ (Nat.mul_pos (by omega) l);have t1:u<=u*(a*b)^3:=az _ D;have m1:=x.rows (sw k f) λi n d=>by have:=F.hi;unfold sw;split<;>(try split)<;>omega
  refine⟨8*u,m1.red Q R (by show E (sw k f k) k≠0;rw[NA];exact F.ne),by omega,λg p=>?_⟩;have two:=two g p;rw[piv,<-t];generalize (red m k (λi j=>E (sw k f i) j) g k).natAbs=v at two ⊢
  have s1:(2*(b*v))^3<=(a*b)^3:=fP (by
   rw[dY,cN a b];exact bH _ two) 3
  rw[EA 2] at s1;have s2:8*u*(b*v)^3=u*(2^3*(b*v)^3):=by rw[cN 8,dW]
  rw[s2];exact aV (bH _ s1) s
structure CL(m k:Nat)(E0 E:Mt):Prop where
 rt:RT m k E0 E
 z:∀i,k<i->i<m->E i k=0
 same:E0 k k≠0->(∀i,k<i->i<m->E0 k k∣E0 i k)->∀i j,i<m->E i j=red m k E0 i j
 bd:∀j N M P,Hyp m k E0 j N M P->Bo m k j (2*(N*(M+2)*P^3)) E
 mn:∀T P,m<=7->Mn m k T E0->1<=P->(E0 k k≠0->(E0 k k).natAbs<=P)->(E0 k k=0->∀i,k<i->i<m->(E0 i k).natAbs<=P)->Mn m k (64*(T*P^6)) E
theorem CL.aft{m k:Nat}{E0 E:Mt}(r:RT m k E0 E)(A:Aft m k E0 E)(z:∀i,k<i->i<m->E i k=0):CL m k E0 E:=
 ⟨r,z,λh f i j _=>by rw[A.dv h f],λj N M P H=>by
  obtain⟨n,a,b,_⟩:=A.po j N M P H
  exact λi d c=>aV (a i d c) b,λT P g e l d c=>by
  obtain⟨o,a,b,_⟩:=A.mn T P g e l d c;exact a.up b⟩
theorem CL.refl{m k:Nat}{E:Mt}(z:∀i,k<i->i<m->E i k=0):CL m k E E:=
 ⟨RT.refl,z,λh _ i j g=>by
  unfold red;split
  ·rename_i q;rw[z i q.1 q.2,Int.zero_fdiv,bb,jE]
  ·rfl,λj N M P H i d c=>by
  refine aV (H.bo i d c) ?_;have c3:1<=P^3:=di _ _ H.one;have:N<=N*(M+2):=az N (by omega);have:N*(M+2)<=N*(M+2)*P^3:=az _ c3
  omega,λT P l a e _ _=>a.up (by
  have b:1<=P^6:=di _ _ e;have f:T<=T*P^6:=az _ b;omega)⟩
structure Bs(m:Nat)(A0:Mt)(D:Int):Prop where
 sym:EqM m (tr A0) A0
 z:∃Z0,EqM m (mul m Z0 A0) (λi j=>D*one i j)
 nz:D≠0
 m7:m<=7
theorem Adm.trs{m:Nat}{b E:Mt}(e:EqM m (PM.tr b) b)(h:Adm m b E):Adm m b (PM.tr E):=by have a:=h.tr;exact⟨a.ex,λi j f c=>(ZN (λ_ _=>rfl) λk d=>(e.mulL k j d c).symm).trans (a.val i j f c),a.nil⟩
structure Cr(m k:Nat)(A0 E:Mt):Prop where
 adm:Adm m A0 E
 d1:∀i j,i<k->j<m->j≠i->E i j=0/\E j i=0
 d2:∀i,i<k->1<=E i i
 d3:∀i a b,i<k->i<=a->i<=b->a<m->b<m->E i i∣E a b
theorem Cr.rt{m k:Nat}{n E o:Mt}(c:Cr m k n E)(r:RT m k E o):Cr m k n o:=by
 refine⟨c.adm.rt r,λi j d g l=>⟨by rw[r.up i j d];exact(c.d1 i j d g l).1,?_⟩,λi d=>by rw[r.up i i d];exact c.d2 i d,λi a b d s p e f=>?_⟩
 ·by_cases q:j<k
  ·rw[r.up j i q];exact(c.d1 i j d g l).2
  ·exact fS.mp (r.dvd (c:=0) (λx t h=>fS.mpr (c.d1 i x d h (by omega)).2) j (by omega) g)
 ·rw[r.up i i d];by_cases q:a<k
  ·rw[r.up a b q];exact c.d3 i a b d s p e f
  ·exact r.dvd (λx t h=>c.d3 i x b d (by omega) p h f) a (by omega) e
theorem Cr.tr{m k:Nat}{e E:Mt}{D:Int}(b:Bs m e D)(c:Cr m k e E):Cr m k e (PM.tr E):=
 ⟨c.adm.trs b.sym,λi j d h l=>⟨(c.d1 i j d h l).2,(c.d1 i j d h l).1⟩,c.d2,λi a b d n o f g=>c.d3 i b a d o n g f⟩
theorem Cr.col{m k:Nat}{d E:Mt}{D:Int}(b:Bs m d D)(c:Cr m k d E){j:Nat}{x:Int}(l:k<=j)(a:j<m)(h:∀i,k<=i->i<m->x∣E i j):x∣D:=by
 obtain⟨g,f⟩:=b.z;refine c.adm.div f a λi e=>?_;by_cases q:i<k
 ·rw[(c.d1 i j q a (by omega)).1];exact cC x
 ·exact h i (by omega) e
theorem Cr.piv{m k:Nat}{a E:Mt}{D:Int}(b:Bs m a D)(c:Cr m k a E)(d:k<m)(z:∀i,k<i->i<m->E i k=0):E k k≠0/\E k k∣D:=by
 have:E k k∣D:=c.col b (aH k) d λi f e=>by
  by_cases q:i=k
  ·rw[q];exact eu _
  ·rw[z i (by omega) e];exact cC _
 exact⟨λh=>b.nz (fS.mp (h▸this)),this⟩
theorem DJ{a b:Int}(h:a∣b)(f:b≠0)(n:¬b∣a):2*a.natAbs<=b.natAbs:=by
 obtain⟨c,d⟩:=h;have e:b.natAbs=a.natAbs*c.natAbs:=by rw[d,cZ]
 have g:c.natAbs≠0:=λz=>f (by rw[d,Int.natAbs_eq_zero.mp z,b5])
 have c1:c.natAbs≠1:=λz=>n (by
  refine cA.mp ?_;rw[e,z,Nat.mul_one];exact Nat.dvd_refl _)
 have:a.natAbs*2<=a.natAbs*c.natAbs:=bH _ (by omega);omega
structure RZ(m k e β γ:Nat)(A0 E:Mt):Prop where
 cr:Cr m k A0 E
 nz:E k k≠0
 pb:(E k k).natAbs<=2^e
 rz:∀j,k<j->j<m->E k j=0
 mb:Mn m k (2^β) E
 lb:∀i j,i<m->j<m->(E i (m+j)).natAbs<=2^γ
 rb:∀i j,i<m->j<m->(E (m+i) j).natAbs<=2^γ
theorem RZ.ab{m k e a f:Nat}{b E:Mt}(h:RZ m k e a f b E):∀i j,k<=i->i<m->k<=j->j<m->(E i j).natAbs<=2^a:=λi j d g l c=>h.mb.ab d g l c
theorem pw2{a b:Nat}(h:a<=b):2^a<=2^b:=iH (by omega) h
theorem bits3(g u e:Nat):2*(2^g*(2^u+2)*(2^e)^3)<=2^(g+u+3*e+3):=by
 have b:2^u+2<=2^(u+2):=by have:=b9 (n:=u);rw[dJ,dJ];omega
 have c:(2^e)^3=2^(3*e):=by rw[<-Nat.pow_mul,cN]
 rw[c];have d:2^g*(2^u+2)*2^(3*e)<=2^g*2^(u+2)*2^(3*e):=dh _ (bH _ b);rw[<-fJ,<-fJ] at d;have a:2^(g+u+3*e+3)=2*2^(g+(u+2)+3*e):=by rw[show g+u+3*e+3=(g+(u+2)+3*e)+1 by omega,dJ];omega
 rw[a];omega
theorem CL.beside{m k e u a:Nat}{E g:Mt}(c:CL m k E g)(o:1<=2^e)(pv:E k k≠0->(E k k).natAbs<=2^e)(h:E k k=0->∀i,k<i->i<m->(E i k).natAbs<=2^e)(l:∀i,k<=i->i<m->(E i k).natAbs<=2^u)
  (d:∀i j,i<m->j<m->(E i (m+j)).natAbs<=2^a):∀i j,i<m->j<m->(g i (m+j)).natAbs<=2^(a+u+3*e+3):=λi j f b=>by
 by_cases q:i<k
 ·rw[c.rt.up i _ q];exact aV (d i j f b) (pw2 (by omega))
 ·exact aV (c.bd (m+j) (2^a) (2^u) (2^e) ⟨λx p n=>d x j n b,o,pv,h,.inl l⟩ i (by omega) f) (bits3 _ _ _)
theorem HS{m k e p s:Nat}{o:Nat->Nat}{r E d:Mt}{D:Int}(b:Bs m r D)(x:k<m)(h:RZ m k e (o e) p r E)(c:CL m k E d)(J:o e+3*e+3<=s)(I:∀f,e=f+1->Mn m k (2^(o f)) d) :
  (RZ m k e (o e) (p+s) r d/\RZ m k e (o e) (p+s) r (tr d)/\∀i,k<i->i<m->E k k∣E i k)\/
   (∃f,e=f+1/\RZ m k f (o f) (p+s) r (tr d)/\¬ ∀i,k<i->i<m->E k k∣E i k):=by
 have v:=h.cr.rt c.rt
 have A:∀i j,i<m->j<m->(d i (m+j)).natAbs<=2^(p+s):=λi j l g=>
  aV (c.beside (e:=e) (u:=o e) b9 (λ_=>h.pb) (λz=>absurd z h.nz) (λi n a=>h.ab i k n a (aH _) x) h.lb i j l g) (pw2 (by omega))
 have B:∀i j,i<m->j<m->(d (m+i) j).natAbs<=2^(p+s):=λi j l g=>by rw[c.rt.low _ _ (by omega)];exact aV (h.rb i j l g) (pw2 (by omega))
 by_cases all:∀i,k<i->i<m->E k k∣E i k
 ·refine .inl ?_;have C:=c.same h.nz all;have t:∀j,d k j=E k j:=λj=>by rw[C k j x,red_k]
  have F:Mn m k (2^(o e)) d:=h.mb.same (q:=λi=>if k<i/\i<m then(E i k).fdiv (E k k) else 0) (by show(if k<k/\k<m then _ else _:Int)=0;rw[jx (by omega)]) (λi j n a=>by
   rw[C i j a];show red m k E i j=E i j-(if k<i/\i<m then(E i k).fdiv (E k k) else 0)*E k j;by_cases q:k<i
   ·rw[Uc q a,jw ⟨q,a⟩]
   ·rw[jx (λw=>q w.1),show i=k by omega,red_k];omega) c.z h.rz
  exact⟨⟨v,by rw[t];exact h.nz,by rw[t];exact h.pb,λj n a=>by rw[t];exact h.rz j n a,F,A,B⟩,
   ⟨v.tr b,by show d k k≠0;rw[t];exact h.nz,by show(d k k).natAbs<=_;rw[t];exact h.pb,λj n a=>c.z j n a,F.tr,λi j l g=>B j i g l,λi j l g=>A j i g l⟩,all⟩
 ·refine .inr ?_;have pv:=v.piv b x c.z
  have G:∀i,k<=i->i<m->d k k∣E i k:=c.rt.back.dvd λi n a=>by
   by_cases q:i=k
   ·rw[q];exact eu _
   ·rw[c.z i (by omega) a];exact cC _
  have M:2*(d k k).natAbs<=(E k k).natAbs:=DJ (G k (aH _) x) h.nz λz=>all λi n a=>Int.dvd_trans z (G i (by omega) a);have H:=h.pb;have L:1<=(d k k).natAbs:=by have:=pv.1;omega
  obtain⟨f,rfl⟩:∃f,e=f+1:=by
   cases e with
   | zero=>exfalso;rw[Nat.pow_zero] at H;omega
   | succ f=>exact⟨f,rfl⟩
  have y:(d k k).natAbs<=2^f:=by rw[dJ] at H;omega
  exact⟨f,rfl,⟨v.tr b,pv.1,y,λj n a=>c.z j n a,(I f rfl).tr,λi j l g=>B j i g l,λi j l g=>A j i g l⟩,all⟩
structure Bv(m k e0:Nat)(s β:Nat->Nat)(A0:Mt):Prop where
 hs:∀e,e<=e0->β e+3*e+3<=s e
 cl:∀e γ E E',e<e0->RZ m k (e+1) (β (e+1)) γ A0 E->CL m k E E'->Mn m k (2^(β e)) E'
theorem HV{m k e l g:Nat}{s j:Nat->Nat}{a E f:Mt}{D:Int}(b:Bs m a D)(B:Bv m k l s j a)(o:k<m)(n:e<=l)(h:RZ m k e (j e) g a E)(c:CL m k E f) :
  (RZ m k e (j e) (g+s e) a f/\RZ m k e (j e) (g+s e) a (tr f)/\∀i,k<i->i<m->E k k∣E i k)\/
   (∃d,e=d+1/\RZ m k d (j d) (g+s e) a (tr f)/\¬ ∀i,k<i->i<m->E k k∣E i k):=
 HS b o h c (B.hs e n) λd p=>by subst p;exact B.cl d g E f (by omega) h c
noncomputable def f1(s:Nat->Nat):Nat->Nat
 | 0=>0
 | e+1=>f1 s e+s e+s (e+1)
noncomputable def f2(s:Nat->Nat):Nat->Nat
 | 0=>0
 | e+1=>f2 s e+s e+s (e+1)+(2*s e+1)
theorem f1_mono(s:Nat->Nat){a b:Nat}(h:a<=b):f1 s a<=f1 s b:=by
 induction b with
 | zero=>rw[show a=0 by omega];exact aH _
 | succ b ih=>
  by_cases q:a=b+1
  ·rw[q];exact aH _
  ·have:=ih (by omega);show f1 s a<=f1 s b+s b+s (b+1);omega
theorem f2_step(s:Nat->Nat){a b:Nat}(h:a<b):f2 s a+f1 s b+2*s a+1<=f2 s b+f1 s a:=by
 induction b with
 | zero=>omega
 | succ b ih=>
  show f2 s a+(f1 s b+s b+s (b+1))+2*s a+1<=f2 s b+s b+s (b+1)+(2*s b+1)+f1 s a;by_cases q:a=b
  ·subst q;omega
  ·have:=ih (by omega);omega
theorem f2_ge(s:Nat->Nat)(a:Nat):f1 s a<=f2 s a:=by
 induction a with
 | zero=>exact aH _
 | succ a ih=>
  show f1 s a+s a+s (a+1)<=f2 s a+s a+s (a+1)+(2*s a+1);omega
theorem f2_le(s:Nat->Nat){a b:Nat}(h:a<=b):f2 s a+f1 s b<=f2 s b+f1 s a:=by
 by_cases q:a=b
 ·subst q;omega
 ·have:=f2_step s (show a<b by omega);omega
theorem turnV{m k e w l:Nat}{s n:Nat->Nat}{d E F o:Mt}{D:Int}(b:Bs m d D)(B:Bv m k w s n d)(q:k<m)(t:e<=w)(h:RZ m k e (n e) l d (tr E))(c:CL m k (tr E) F)(v:CL m k (tr F) o) :
  (∃e' γ',e'<=e/\γ'+f1 s e'<=l+f1 s e+2*s e'/\RZ m k e' (n e') γ' d o/\RZ m k e' (n e') γ' d (tr o)/\((¬ ∀i,k<i->i<m->E k k∣E k i)->e'<e))\/
   (∃e' γ',e'<e/\γ'+f1 s e'<=l+f1 s e/\RZ m k e' (n e') γ' d (tr o)):=by
 rcases HV b B q t h c with⟨r,x,g⟩ | ⟨j,rfl,r,u⟩
 ·rcases HV b B q t x v with⟨f,p,_⟩ | ⟨a,rfl,f,u⟩
  ·exact .inl ⟨e,_,aH _,by omega,f,p,λz=>absurd g z⟩
  ·exfalso;refine u λi y A=>?_;have:tr F i k=0:=r.rz i y A;rw[this];exact cC _
 ·rcases HV b B q (by omega) r v with⟨f,p,_⟩ | ⟨a,rfl,f,_⟩
  ·refine .inl ⟨j,_,by omega,?_,f,p,λ_=>by omega⟩;show _<=l+(f1 s j+s j+s (j+1))+2*s j;omega
  ·refine .inr ⟨a,_,by omega,?_,f⟩;show _<=l+(f1 s a+s a+s (a+1)+s (a+1)+s (a+1+1));omega
end PM
namespace PW
open L2 VL
structure SInv(m:Nat)(A E:Mt)(d:Int)(p:Nat):Prop where
 dp:0<d
 off:∀i j,p<=i->i<m->p<=j->j<m->i≠j->E i j<=0
 row:∀i,p<=i->i<m->0<=sN m λj=>if j<p then 0 else E i j
 dia:∀i,p<=i->i<m->E i i<=d*A i i
theorem SInv.piv{m p:Nat}{A E:Mt}{d:Int}(S:SInv m A E d p)(a:p<m):0<=E p p:=by
 have h:=S.row p (aH p) a;have e:=Z3 (n:=m) (f:=λj=>if j=p then E p p else 0) a λi _ ne=>jx ne
 have l:=Xh (n:=m) (f:=λj=>(if j=p then E p p else 0)+(-1)*(if j<p then 0 else E p j)) λj b=>by
  by_cases q:j=p
  ·subst q;rw[jw rfl,jx (by omega)];omega
  ·rw[jx q];split
   ·omega
   ·have:=S.off p j (aH p) a (by omega) b (λz=>q z.symm);omega
 rw[Yg,ZI,e,jw rfl] at l;omega
theorem SInv.step{m p:Nat}{A X E:Mt}{d:Int}(ok:Ew m A X)(f:p<m)(I:IE m A X p E d)(S:SInv m A E d p):SInv m A (λi j=>if i=p then E i j else(E p p*E i j-E i p*E p j).fdiv d) (E p p) (p+1):=by
 obtain⟨r,t⟩:=SS ok f I;have h:0<E p p:=by have:=S.piv f;have:=r.nz;omega
 have n:=S.dp;have k:∀i j,p+1<=i->i<m->j<m->d*(if i=p then E i j else(E p p*E i j-E i p*E p j).fdiv d)=E p p*E i j-E i p*E p j:=λi j c b l=>by obtain⟨q,e⟩:=t i j b (by omega) (by omega);rw[jx (by omega),e,eB _ (by omega)]
 have o:∀i j,p+1<=i->i<m->p+1<=j->j<m->0<=E i p*E p j:=λi j c b l g=>
  Int.mul_nonneg_of_nonpos_of_nonpos (S.off i p (by omega) b (aH p) f (by omega)) (S.off p j (aH p) f (by omega) g (by omega))
 refine⟨h,λi j c b l g ne=>?_,λi c b=>?_,λi c b=>?_⟩
 ·refine dt (a:=d) ?_ n;rw[k i j c b g,b5];have:=Int.mul_nonpos_of_nonneg_of_nonpos (fR h) (S.off i j (by omega) b (by omega) g ne);have:=o i j c b l g;omega
 ·refine dt (a:=d) ?_ n;rw[b5,<-ZI]
  have e:(sN m λj=>d*(if j<p+1 then 0 else if i=p then E i j else(E p p*E i j-E i p*E p j).fdiv d))=sN m λj=>E p p*(if j<p then 0 else E i j)+(- E i p)*(if j<p then 0 else E p j):=Zh λj s=>by
   by_cases q:j<p
   ·rw[jw (by omega),jw q,jw q];simp
   ·rw[jx q,jx q];by_cases u:j=p
    ·subst u;rw[jw (by omega),bT,bF (E i j)];omega
    ·rw[jx (by omega),k i j c b s,bT];omega
  rw[e,Yg,ZI,ZI];have:=dP (fR h) (S.row i (by omega) b);have:=dP (a:=- E i p) (by have:=S.off i p (by omega) b (aH p) f (by omega);omega) (S.row p (aH p) f);omega
 ·refine dt (a:=d) ?_ n;rw[k i i c b b];have:=o i i c b c b;have:=Int.mul_le_mul_of_nonneg_left (S.dia i (by omega) b) (fR h);rw[dI] at this;omega
noncomputable def EB(A:Mt):Nat->Int
 | 0=>1
 | p+1=>EB A p*A p p
theorem K4{m:Nat}{A X:Mt}(ok:Ew m A X)(o:∀i j,i<m->j<m->i≠j->A i j<=0)(r:∀i,i<m->0<=sN m (A i))(a:∀i,i<m->0<=A i i):∀{p:Nat},p<=m->SInv m A (Lq m X p).1 (Lq m X p).2 p/\(Lq m X p).2<=EB A p
 | 0,_=>⟨⟨by show(0:Int)<1;decide,λi j _ b _ c ne=>by show X i j<=0;rw[ok.ext i j b c];exact o i j b c ne,λi _ b=>by
   rw[Zh (g:=A i) λj c=>by rw[jx (by omega)];exact ok.ext i j b c];exact r i b,λi _ b=>by show X i i<=1*A i i;rw[ok.ext i i b b];omega⟩,fI _⟩
 | p+1,h=>by obtain⟨S,l⟩:=K4 ok o r a (p:=p) (by omega);refine⟨S.step ok (by omega) (W5 ok (by omega)),?_⟩;have d:=S.dia p (aH p) (by omega);exact Int.le_trans d (Int.mul_le_mul_of_nonneg_right l (a p (by omega)))
end PW
namespace PM
open PW
theorem HF(g e:Nat):64*(2^g*(2^e)^6)=2^(g+6*e+6):=by rw[<-Nat.pow_mul,<-fJ,fJ 2 _ 6,cN 64,cN e 6]
noncomputable def ad:Nat->Nat
 | 0=>0
 | n+1=>ad n+(6*(n+1)+6)
theorem IK{a b:Nat}(h:a<=b):ad a<=ad b:=by
 induction b with
 | zero=>rw[show a=0 by omega];exact aH _
 | succ b ih=>
  by_cases q:a=b+1
  ·rw[q];exact aH _
  ·have:=ih (by omega);show ad a<=ad b+_;omega
noncomputable def be(t e0 e:Nat):Nat:=t+(ad e0-ad e)
noncomputable def sB(β:Nat->Nat)(e:Nat):Nat:=β e+3*e+3
theorem Bv.gen{m k d t:Nat}{f:Mt}{D:Int}(b:Bs m f D):Bv m k d (sB (be t d)) (be t d) f:=
 ⟨λe _=>aH _,λe l E g i h c=>by
  refine(c.mn _ (2^(e+1)) b.m7 h.mb b9 (λ_=>h.pb) λz=>absurd z h.nz).up ?_;rw[HF];refine pw2 ?_;unfold be;have j:ad (e+1)=ad e+(6*(e+1)+6):=rfl;have n:=IK (a:=e+1) (b:=d) (by omega);omega⟩
noncomputable def bE(t e:Nat):Nat:=if 20<=e then t else 210
theorem Bv.end{m k t:Nat}{g:Mt}{D:Int}(b:Bs m g D)(s:k<m)(p:D.natAbs<=2^20)(F:m<=k+2):Bv m k 20 (sB (bE t)) (bE t) g:=by
 refine⟨λe _=>aH _,λe J E y B h c=>?_⟩;have l:∀{x:Int},x∣D->x.natAbs<=2^20:=λ{x} d=>aV (eD (by have:=b.nz;omega) (cA.mpr d)) p;have o:=h.cr.rt c.rt
 have ent:∀i j,k<=i->i<m->k<=j->j<m->(y i j).natAbs<=2^103:=λi j v f H a=>by
  by_cases r:j=k
  ·subst r;by_cases q:i=j
   ·rw[q];exact aV (l (o.piv b s c.z).2) (pw2 (by omega))
   ·rw[c.z i (by omega) f];exact bz _
  ·have A:m=k+2:=by omega
   have C:j=k+1:=by omega
   have w:∀i,k<=i->i<m->(E i j).natAbs<=2^20:=λi I L=>by
    by_cases q:i=k
    ·rw[q,h.rz j (by omega) a];exact bz _
    ·have u:i=j:=by omega
     rw[u];refine l (h.cr.col b (by omega) a λx M G=>?_);by_cases q:x=k
     ·rw[q,h.rz j (by omega) a];exact cC _
     ·rw[show x=j by omega];exact eu _
   exact aV (c.bd j (2^20) (2^(e+1)) (2^(e+1)) ⟨w,b9,λ_=>h.pb,λz=>absurd z h.nz,.inr ⟨A,h.rz j (by omega) a,h.nz,h.pb⟩⟩ i v f) (aV (bits3 _ _ _) (pw2 (by omega)))
 refine(Mn.ent (n:=2) b9 (by omega) ent).up ?_;unfold bE;rw[jx (by omega)];decide
theorem f2_top{s:Nat->Nat}{S:Nat}:∀{n:Nat},(∀e,e<=n->s e<=S)->f2 s n<=n*(4*S+1)
 | 0,_=>bz _
 | n+1,h=>by have b:=f2_top (n:=n) λe a=>h e (by omega);have c:=h n (by omega);have d:=h (n+1) (aH _);show f2 s n+s n+s (n+1)+(2*s n+1)<=_;rw[iE];omega
theorem f2_end(t:Nat):f2 (sB (bE t)) 20<=t+23000:=by
 have b:=f2_top (s:=sB (bE t)) (S:=273) (n:=19) λe a=>by unfold sB bE;rw[jx (by omega)];omega
 show f2 (sB (bE t)) 19+sB (bE t) 19+sB (bE t) 20+(2*sB (bE t) 19+1)<=_;have c:sB (bE t) 19=270:=rfl;have d:sB (bE t) 20=t+3*20+3:=rfl;omega
structure Pl(m k a γ:Nat)(A0 E:Mt):Prop where
 cr:Cr m k A0 E
 mb:Mn m k (2^a) E
 lb:∀i j,i<m->j<m->(E i (m+j)).natAbs<=2^γ
 rb:∀i j,i<m->j<m->(E (m+i) j).natAbs<=2^γ
theorem Pl.ab{m k a e:Nat}{b E:Mt}(h:Pl m k a e b E):∀i j,k<=i->i<m->k<=j->j<m->(E i j).natAbs<=2^a:=λi j d f g c=>h.mb.ab d f g c
theorem Pl.first{m k a w s g:Nat}{y:Nat->Nat}{o E d:Mt}{D:Int}(b:Bs m o D)(f:k<m)(h:Pl m k a w o E)(c:CL m k E d)(z:(d k k).natAbs<=2^g)(v:7*a+6<=y g)(A:4*a+3<=s):RZ m k g (y g) (w+s) o (tr d):=by
 have t:=h.cr.rt c.rt;have col:∀i,k<=i->i<m->(E i k).natAbs<=2^a:=λi q n=>h.ab i k q n (aH _) f;refine⟨t.tr b,(t.piv b f c.z).1,z,λj q n=>c.z j q n,?_,λi j p l=>?_,λi j p l=>?_⟩
 ·refine((c.mn _ (2^a) b.m7 h.mb b9 (λ_=>col k (aH _) f) λ_ x v r=>col x (by omega) r).up ?_).tr;rw[HF];exact pw2 (by omega)
 ·show(d (m+j) i).natAbs<=_;rw[c.rt.low _ _ (by omega)];exact aV (h.rb j i l p) (pw2 (by omega))
 ·show(d j (m+i)).natAbs<=_;exact aV (c.beside (e:=a) (u:=a) b9 (λ_=>col k (aH _) f) (λ_ x v r=>col x (by omega) r) col h.lb j i l p) (pw2 (by omega))
theorem Pl.small{m k a r X:Nat}{j E f:Mt}{D:Int}(b:Bs m j D)(g:k<m)(h:Pl m k a r j E)(c:CL m k E f)(p:∀i,k<=i->i<m->(E i k).natAbs<=X):(f k k).natAbs<=X/\(f k k).natAbs<=D.natAbs:=by
 have l:=h.cr.rt c.rt;have pv:=l.piv b g c.z;refine⟨?_,eD (by have:=b.nz;omega) (cA.mpr pv.2)⟩
 have o:∀i,k<=i->i<m->f k k∣E i k:=c.rt.back.dvd λi e d=>by
  by_cases q:i=k
  ·rw[q];exact eu _
  ·rw[c.z i (by omega) d];exact cC _
 obtain⟨i,e,d,s⟩:∃i,k<=i/\i<m/\E i k≠0:=by refine bt λn=>pv.1 ?_;refine fS.mp (c.rt.dvd (c:=0) (λi e d=>?_) k (aH _) g);refine fS.mpr (bt λz=>n ⟨i,e,d,z⟩)
 have:=eD (by omega) (cA.mpr (o i e d));have:=p i e d;omega
theorem RZ.unfit{m k e t d u:Nat}{n E:Mt}{D:Int}(b:Bs m n D)(x:k<m)(h:RZ m k e t d n E)(s:RZ m k e t d n (tr E))(v:k<u)(c:u<m):RZ m k e t (d+1) n (tr (λi j=>if i=k then E i j-1*E u j else E i j)):=by
 have r:=RT.sub (m:=m) (p:=k) (a:=k) (b:=u) (q:=1) (E:=E) (aH _) x (by omega) c (by omega);have w:E u k=0:=s.rz u v c;have p2:2^d+2^d=2^(d+1):=by rw[dJ];omega
 have kk:(if k=k then E k k-1*E u k else E k k)=E k k:=by rw[jw rfl,w];omega
 refine⟨(h.cr.rt r).tr b,?_,?_,λj o l=>?_,?_,λi j f g=>?_,λi j f g=>?_⟩
 ·show(if k=k then E k k-1*E u k else E k k)≠0;rw[kk];exact h.nz
 ·show(if k=k then E k k-1*E u k else E k k).natAbs<=_;rw[kk];exact h.pb
 ·show(if j=k then E j k-1*E u k else E j k)=0;rw[jx (by omega)];exact s.rz j o l
 ·exact(h.mb.less v c (λj=>jw rfl) (λi j y=>jx y) (λi o l=>s.rz i o l) h.rz).tr
 ·show(if m+j=k then E (m+j) i-1*E u i else E (m+j) i).natAbs<=_;rw[jx (by omega)];exact aV (h.rb j i g f) (pw2 (by omega))
 ·show(if j=k then E j (m+i)-1*E u (m+i) else E j (m+i)).natAbs<=_;split
  ·have o:=h.lb j i g f;have l:=h.lb u i c f;have:=gH (E j (m+i)) (1*E u (m+i));omega
  ·exact aV (h.lb j i g f) (pw2 (by omega))
theorem Mn.next{m k T:Nat}{E g:Mt}(h:Mn m k T E)(e:∀i j,k<i->k<j->g i j=E i j):Mn m (k+1) T g:=λj n l d f=>by rw[ZD (B:=λa b=>E (n a) (l b)) λa b c o=>e _ _ (d a c).1 (f b o).1];exact h j n l (λa c=>⟨by have:=(d a c).1;omega,(d a c).2⟩) (λa c=>⟨by have:=(f a c).1;omega,(f a c).2⟩)
theorem RZ.next{m k e y x:Nat}{v E:Mt}(D:k<m)(h:RZ m k e y x v E)(C:RZ m k e y x v (tr E))(F:∀i j,k<i->i<m->j<m->E k k∣E i j):Pl m (k+1) y x v (λi j=>if i=k/\E k k<0 then-E i j else E i j):=by
 have l:∀i j,k<=i->i<m->k<=j->j<m->E k k∣E i j:=λi j G B I A=>by
  by_cases q:i=k
  ·rw[q];by_cases H:j=k
   ·rw[H];exact eu _
   ·rw[h.rz j (by omega) A];exact cC _
  ·exact F i j (by omega) B A
 by_cases s:E k k<0
 ·have r:=RT.neg (m:=m) (p:=k) (a:=k) (E:=E) (aH _) D
  have e:(λi j=>if i=k/\E k k<0 then-E i j else E i j)=(λi j=>if i=k then-E i j else E i j):=by
   funext i j;by_cases q:i=k
   ·rw[jw ⟨q,s⟩,jw q]
   ·rw[jx (λz=>q z.1),jx q]
  rw[e];have c:=h.cr.rt r;refine⟨⟨c.adm,λi j n g u=>?_,λi n=>?_,λi a b n o t f d=>?_⟩,h.mb.next λi j G B=>jx (by omega),λi j n g=>?_,λi j n g=>?_⟩
  ·by_cases q:i=k
   ·subst q;refine⟨?_,?_⟩
    ·show(if i=i then _ else _)=_;rw[jw rfl];by_cases w:j<i
     ·have:=(h.cr.d1 j i w (by omega) (by omega)).2;rw[this];rfl
     ·rw[h.rz j (by omega) g];rfl
    ·show(if j=i then _ else _)=_;rw[jx u];by_cases w:j<i
     ·exact(h.cr.d1 j i w (by omega) (by omega)).1
     ·exact C.rz j (by omega) g
   ·exact c.d1 i j (by omega) g u
  ·by_cases q:i=k
   ·subst q;show 1<=(if i=i then _ else _);rw[jw rfl];omega
   ·exact c.d2 i (by omega)
  ·by_cases q:i=k
   ·subst q;show(if i=i then-E i i else E i i)∣(if a=i then-E a b else E a b);rw[jw rfl,Int.neg_dvd];split
    ·exact Int.dvd_neg.mpr (l a b o f t d)
    ·exact l a b o f t d
   ·exact c.d3 i a b (by omega) o t f d
  ·show(if i=k then-E i (m+j) else E i (m+j)).natAbs<=_;split
   ·rw[eh];exact h.lb i j n g
   ·exact h.lb i j n g
  ·show(if m+i=k then _ else _:Int).natAbs<=_;rw[jx (by omega)];exact h.rb i j n g
 ·have e:(λi j=>if i=k/\E k k<0 then-E i j else E i j)=E:=by funext i j;rw[jx (λz=>s z.2)]
  rw[e];refine⟨⟨h.cr.adm,λi j n g u=>?_,λi n=>?_,λi a b n o t f d=>?_⟩,h.mb.next λi j _ _=>rfl,h.lb,h.rb⟩
  ·by_cases q:i=k
   ·subst q;by_cases w:j<i
    ·have:=h.cr.d1 j i w (by omega) (by omega);exact⟨this.2,this.1⟩
    ·exact⟨h.rz j (by omega) g,C.rz j (by omega) g⟩
   ·exact h.cr.d1 i j (by omega) g u
  ·by_cases q:i=k
   ·subst q;have:=h.nz;omega
   ·exact h.cr.d2 i (by omega)
  ·by_cases q:i=k
   ·subst q;exact l a b o f t d
   ·exact h.cr.d3 i a b (by omega) o t f d
end PM
namespace PW
open PySem L2 VL VX
theorem Mi{F:XS}{x:XT}{s:Zy}{k:Nat}(J:Nat->Zy->Prop)(g:J k s)(st:∀k s,J k s->x s=aA aB\/(x s=aA aC/\Xn F s λs2=>∃k',k'<k/\J k' s2)):Xn (XB x F) s λd=>∃k,J k d/\x d=aA aB:=by
 obtain⟨d,k',a,b,c⟩:=Fp (c:=x) (fb:=F) J (λk s h=>by
  rcases st k s h with z | ⟨z,s2,e,k',f,i⟩
  ·exact .inl z
  ·exact .inr ⟨z,s2,k',e,f,i⟩) g
 exact⟨d,a,k',b,c⟩
noncomputable def cR(w:Nat)(f:Nat->Int):PV:=.cst (iL (ZQ w f))
noncomputable def bL(w:Nat)(E:Mt):List PV:=(aJ w).map λi=>cR w (E i)
section
variable {w m k i j a:Nat} {E E':Mt} {f g h:XE} {s:Zy}
theorem Vz:(bL w E).length=w:=by simp[bL]
theorem NC(a:i<w):(bL w E)[i]?=aA (cR w (E i)):=by unfold bL;rw[aR,bB a];rfl
theorem Wi(f:Nat->Int):ZS (cR w f)=aC:=Yd _
theorem QZ:Zv (bL w E)=aC:=by rw[YG,aj];intro x a;obtain⟨i,_,rfl⟩:=bq.mp a;exact Wi _
theorem Fs{v:Nat->Int}(c:a<w):(bL w E).set a (cR w v)=bL w (Yl a v E):=by
 apply cO;intro i;rw[au,Vz];by_cases b:i<w
 ·rw[NC (E:=Yl a v E) b];by_cases q:a=i
  ·subst q;rw[jw rfl,jw b,ZJ]
  ·rw[jx q,NC b,Yp _ _ (λz=>q z.symm)]
 ·rw[bJ (l:=bL w (Yl a v E)) (by rw[Vz];omega),jx (by omega)];exact bJ (by rw[Vz];omega)
theorem Rn(b:i<w)(q:f s=aA (.lst (bL w E)))(a:g s=aA (.int (i:Int))):Zj ZX f g s=aA (cR w (E i)):=o2 q a (X0 (NC b))
theorem EC{v:Nat->Int}(b:j<w)(q:f s=aA (cR w v))(a:g s=aA (.int (j:Int))):Zj ZX f g s=aA (.int (v j)):=o2 q a (Nv b)
theorem Ud(b:i<w)(c:j<w)(q:f s=aA (.lst (bL w E)))(d:g s=aA (.int (i:Int)))(a:h s=aA (.int (j:Int))):Zj ZX (Zj ZX f g) h s=aA (.int (E i j)):=EC c (Rn b q d) a
theorem Od{v:Nat->Int}{c:Nat}(b:a<w)(q:f s=aA (.int (a:Int)))(d:g s=aA (cR w v))(e:J7 s c=aA (bL w E)):XC c f g s=aA (.nx (s.set c (aA (.lst (bL w (Yl a v E)))))):=by rw[MR d q e QZ (Wi _) (V2 (by rw[Vz];exact b)),Fs b]
theorem U0{v:Nat->Int}(q:f s=aA (.lst (iL (ZQ w v)))):Rg f s=aA (cR w v):=by unfold Rg;rw[q];show(Xy (iL (ZQ w v))).map _=_;rw[YS];rfl
theorem K5{u v:Nat->Int}:W9 (iL (ZQ w u)) (iL (ZQ w v))=(aJ w).map λj=>.tup [.int (u j),.int (v j)]:=by rw[Xl _ _ (by simp[ZM]),aQ,ZM];refine bN λi a=>?_;have a:=aY.mp a;rw[Y8 _ i (by rw[ZM];exact a),Y8 _ i (by rw[ZM];exact a),Wh a,Wh a]
theorem K6{x:Int}{G:Nat}(h:x.natAbs<2^G)(a:0<G):x.natAbs.log2<G:=by
 by_cases z:x.natAbs=0
 ·rw[z];have:Nat.log2 0=0:=by decide
  omega
 ·exact(jV z).mpr h
theorem K7{x y:Int}{G:Nat}(h:x.natAbs<2^G)(c:y.natAbs<2^G)(a:0<G)(b:G<=67000000):CMulW x y:=⟨by have:=K6 h a;omega,by have:=K6 c a;omega⟩
theorem Mj{u v:Nat->Int}{q:Int}(c:w<=100)(a:∀j,j<w->CMulW q (v j)):UE [cR w u,cR w v,.int q]=aA (.lst (iL (ZQ w λj=>u j-q*v j))):=by refine Yy (ret (Xb (q:=λj=>.tup [.int (u j),.int (v j)]) (λj=>u j-q*v j) ?_ c λj b=>⟨_,rfl,vP (vI rfl (vC (C:=CMulW) (op:=(· * ·)) rfl rfl (a j b)))⟩));show aA (W9 (iL (ZQ w u)) (iL (ZQ w v)))=_;rw[K5]
noncomputable def bw(m k:Nat)(E:Mt):List Nat:=((aJ (m-(k+1))).map λi=>k+1+i).filter λi=>decide (E i k≠0)
theorem mem_bw{x:Nat}:x∈bw m k E↔k<x/\x<m/\E x k≠0:=by
 unfold bw;rw[fK,bq];constructor
 ·rintro⟨⟨i,a,rfl⟩,h⟩;have:=aY.mp a;exact⟨by omega,by omega,of_decide_eq_true h⟩
 ·rintro⟨c,d,b⟩;exact⟨⟨x-(k+1),aY.mpr (by omega),by omega⟩,decide_eq_true b⟩
theorem HG:(bw m k E).Pairwise (· < ·):=by unfold bw;refine List.Pairwise.filter _ (List.pairwise_map.mpr ?_);exact List.Pairwise.imp (λh=>by omega) List.pairwise_lt_range
theorem K8{x:Nat}{r:List Nat}(e:bw m k E=x::r):PM.Fst m k E x:=by
 have a:=mem_bw.mp (show x∈bw m k E by rw[e];exact a9);refine⟨a.1,a.2.1,a.2.2,λi c d=>bt λz=>?_⟩;have b:i∈bw m k E:=mem_bw.mpr ⟨c,by omega,z⟩;have up:=HG (m:=m) (k:=k) (E:=E);rw[e] at b up;rcases af.mp b with q | q
 ·omega
 ·have:=List.rel_of_pairwise_cons up q;omega
theorem WO(f:m<=w)(d:w<=100)(c:k<m):Yt [.lst (bL w E),.int (m:Int),.int (k:Int)]=aA (.lst (iL (nL (bw m k E)))):=by
 have e:iL (nL (bw m k E))=(bw m k E).map λ(i:Nat)=>PV.int (i:Int):=by simp[nL]
 rw[e];refine Yy (ret (VZ ((aJ (m-(k+1))).map λi=>k+1+i) (λ(i:Nat)=>PV.int (i:Int)) (λ(i:Nat)=>PV.int (i:Int)) (λi=>decide (E i k≠0)) ?_ (by simp;omega) λi b=>?_))
 ·rw[Uz (i:=(k:Int)+1) (j:=(m:Int)) (E6 rfl rfl) rfl (by omega) (by omega)];unfold Vn;rw[cp,show((m:Int)-((k:Int)+1)).toNat=m-(k+1) by omega];congr 1
 ·obtain⟨x,a,rfl⟩:=bq.mp b;have:=aY.mp a;refine⟨_,rfl,xb (o2 (Ud (by omega) (by omega) rfl rfl rfl) rfl ?_),λ_=>vP rfl⟩;rw[Uy];simp
end
abbrev FI(w m k:Nat)(E0 E:Mt)(x5 x6 x7:Option PV):Zy:=[aA (.lst (bL w E0)),aA (.int (m:Int)),aA (.int (k:Int)),aA (.lst (bL w E)),aA (.lst (iL (nL (bw m k E)))),x5,x6,x7]
theorem K9(x:Int):OQ [.int x]=aA (.int (x.natAbs:Int)):=by
 show aA (PV.int (if x<0 then -x else x))=_;congr 2;split<;>omega
theorem IL{k f:Nat}{E:Mt}(h:k≠f):Yl f (E k) (Yl k (E f) E)=λi j=>E (PM.sw k f i) j:=by
 funext i;unfold Yl PM.sw;by_cases q:i=f
 ·rw[jw q,jx (by omega),jw q]
 ·rw[jx q];by_cases a:i=k
  ·rw[jw a,jw a]
  ·rw[jx a,jx a,jx q]
noncomputable def Ro(X:List Nat)(k:Nat)(E:Mt):Mt:=λi j=>if i∈X then E i j-(E i k).fdiv (E k k)*E k j else E i j
theorem IM{w m k:Nat}{E0 E a:Mt}{f d x7:Option PV}{G:Nat}(A:w<=100)(J:m<=w)(B:k<m)(I:0<G)(H:G<=60000000)(o:∀i j,k<=i->i<m->j<w->(a i j).natAbs<2^G)(u:a k k≠0) :
  Xn (Y7 [3] (Ut (Za 4)) (.one 7) (XC 3 (Za 7) (Rg (Zc UE [Zj ZX (Za 3) (Za 7),Zj ZX (Za 3) (Za 2),Zj Kq (Zj ZX (Zj ZX (Za 3) (Za 7)) (Za 2)) (Zj ZX (Zj ZX (Za 3) (Za 2)) (Za 2))]))))
   [aA (.lst (bL w E0)),aA (.int (m:Int)),aA (.int (k:Int)),aA (.lst (bL w a)),aA (.lst (iL (nL (bw m k E)))),f,d,x7]
   λs=>∃x7,s=[aA (.lst (bL w E0)),aA (.int (m:Int)),aA (.int (k:Int)),aA (.lst (bL w (Ro (bw m k E) k a))),aA (.lst (iL (nL (bw m k E)))),f,d,x7]:=by
 refine IC (Eu (X:=bw m k E) (λt s=>∃x7,s=[aA (.lst (bL w E0)),aA (.int (m:Int)),aA (.int (k:Int)),aA (.lst (bL w (Ro ((bw m k E).take t) k a))),aA (.lst (iL (nL (bw m k E)))),f,d,x7]) rfl ⟨x7,?_⟩ ?_) ?_
 ·rw[iB,show Ro [] k a=a from funext λi=>funext λj=>jx (cU)]
 ·rintro t s g ⟨x7,rfl⟩;have p:=mem_bw.mp (cw (l:=bw m k E) g);obtain⟨x,r⟩:∃x,x=(bw m k E)[t]:=⟨_,rfl⟩;rw[<-r] at p ⊢
  have xn:x∉(bw m k E).take t:=λz=>by
   obtain⟨i,L,e⟩:=List.mem_take_iff_getElem.mp z;have n:i<t:=by omega
   have:=(List.pairwise_iff_getElem.mp (HG (m:=m) (k:=k) (E:=E))) i t (by omega) g n;omega
  have F:k∉(bw m k E).take t:=λz=>by have:=(mem_bw.mp (iC z)).1;omega
  have h:Ro ((bw m k E).take t) k a x=a x:=funext λj=>jx xn;have c:Ro ((bw m k E).take t) k a k=a k:=funext λj=>jx F;refine Lf (Od (v:=λj=>a x j-(a x k).fdiv (a k k)*a k j) (by omega) rfl (U0 (c3 (Rn (by omega) rfl rfl) (Rn (by omega) rfl rfl) (vC (C:=λ_ j=>j≠0) (op:=jb) (Ud (by omega) (by omega) rfl rfl rfl) (Ud (by omega) (by omega) rfl rfl rfl) ?_) ?_)) rfl) ⟨aA (.int (x:Int)),?_⟩
  ·rw[c];exact u
  ·rw[h,c];refine Mj A λj D=>?_;have q:=(PM.fd_any (x:=a x k) u).2.2;have b:=o x k (by omega) p.2.1 (by omega);refine K7 (G:=G+1) ?_ (aZ (o k j (aH _) B D) (PM.pw2 (by omega))) (by omega) (by omega);rw[dJ];omega
  ·show [aA (PV.lst (bL w E0)),aA (.int (m:Int)),aA (.int (k:Int)),aA (.lst (bL w (Yl x (λj=>a x j-(a x k).fdiv (a k k)*a k j) (Ro ((bw m k E).take t) k a)))),aA (.lst (iL (nL (bw m k E)))),f,d,aA (.int (x:Int))]=_;congr 4;congr 2;congr 1;funext i;unfold Yl;have tk:∀y,y∈(bw m k E).take (t+1)↔y∈(bw m k E).take t\/y=x:=λy=>by rw[List.take_succ_eq_append_getElem g,bj,aq,<-r]
   by_cases q:i=x
   ·rw[jw q,q];funext j;unfold Ro;rw[jw ((tk x).mpr (.inr rfl))]
   ·rw[jx q];funext j;unfold Ro;by_cases b:i∈(bw m k E).take t
    ·rw[jw b,jw ((tk i).mpr (.inl b))]
    ·rw[jx b,jx (λz=>by rcases(tk i).mp z with z | z;exact b z;exact q z)]
 ·rintro s ⟨x7,rfl⟩;rw[jN];exact⟨x7,rfl⟩
theorem IP{w m k f:Nat}{E:Mt}(F:PM.Fst m k E f)(d:k<m):Ro (bw m k E) k (PM.pre k f E)=PM.red m k (PM.pre k f E):=by
 funext i j;unfold Ro PM.red;by_cases q:i∈bw m k E
 ·have:=mem_bw.mp q;rw[jw q,jw ⟨this.1,this.2.1⟩]
 ·rw[jx q];by_cases c:k<i/\i<m
  ·rw[jw c];have z:E i k=0:=bt λz=>q (mem_bw.mpr ⟨c.1,c.2,z⟩)
   have e:PM.pre k f E i k=0:=by
    unfold PM.pre;split
    ·show E (PM.sw k f i) k=0;rw[PM.sw_c (a:=k) (b:=f) (by omega) (λy=>F.ne (by rw[<-y];exact z))];exact z
    ·exact z
   rw[e,Int.zero_fdiv,bb,jE]
  ·rw[jx c]
theorem R4{w m k G:Nat}{E0:Mt}(C:w<=100)(L:m<=w)(d:k<m)(Y:0<G)(U:G<=60000000)(hB:∀j,j<w->∃N M P,PM.Hyp m k E0 j N M P/\2*(N*(M+2)*P^3)<2^G):∃E,Zz [.lst (bL w E0),.int (m:Int),.int (k:Int)]=aA (.lst (bL w E))/\PM.CL m k E0 E:=by
 suffices g:Yv Wn (ZG 8 [.lst (bL w E0),.int (m:Int),.int (k:Int)]) λv=>∃E,v = .lst (bL w E)/\PM.CL m k E0 E by obtain⟨v,e,E,rfl,r⟩:=SR g;exact⟨E,e,r⟩
 have S:∀{N M P:Nat},1<=P->N<=2*(N*(M+2)*P^3):=λ{N M P} h=>by have c3:1<=P^3:=di _ _ h;have:N<=N*(M+2):=az N (by omega);have:N*(M+2)<=N*(M+2)*P^3:=az _ c3;omega
 refine Z9 (Zw (c1 rfl (by rw[PF,jw QZ]))) (Z9 (Zw (c3 rfl rfl rfl (WO L C d))) ?_)
 obtain⟨O,J⟩:∃O,∀f,PM.Fst m k E0 f->(PM.red m k (PM.pre k f E0) k k).natAbs<O:=by
  by_cases q:∃f,PM.Fst m k E0 f
  ·obtain⟨f,F⟩:=q;refine⟨(PM.red m k (PM.pre k f E0) k k).natAbs+1,λg D=>?_⟩
   have:g=f:=by
    rcases Nat.lt_trichotomy g f with z | z | z
    ·exact absurd (F.ze g D.lo z) D.ne
    ·exact z
    ·exact absurd (D.ze f F.lo z) F.ne
   rw[this];omega
  ·exact⟨0,λf F=>absurd ⟨f,F⟩ q⟩
 refine U7 (Mi (λn st=>∃E p c x7,st=FI w m k E0 E p c x7/\PM.RT m k E0 E/\((E=E0/\n=O)\/(PM.Aft m k E0 E/\n=(E k k).natAbs))) ⟨E0,none,none,none,rfl,.refl,.inl ⟨rfl,rfl⟩⟩ ?_) ?_
 ·rintro n st ⟨E,p,c,x7,rfl,rt,y⟩;have a:(iL (nL (bw m k E))).length=(bw m k E).length:=by simp[nL]
  have l:xB (Zj Ll (Zc YH [Za 4]) (eC (.int 0))) (FI w m k E0 E p c x7)=aA (decide (0<(bw m k E).length)):=xb (DZ (b:=0) (c1 rfl (by rw[O3,a])) rfl)
  cases e:bw m k E with
  | nil=>exact .inl (l.trans (by rw[e];rfl))
  | cons f r=>
   refine .inr ⟨l.trans (by rw[e];rfl),?_⟩;have F:=K8 e;have hkf:=F.lo
   -- the bounds
   have W:∀i j,k<=i->i<m->j<w->(E i j).natAbs<2^G:=λi j t o B=>by
    obtain⟨N,M,P',H,u⟩:=hB j B;rcases y with⟨rfl,_⟩ | ⟨A,_⟩
    ·exact bA (H.bo i t o) (bA (S H.one) u)
    ·obtain⟨N',X,Z,_⟩:=A.po j N M P' H;exact bA (X i t o) (bA Z u)
   have T:PM.Aft m k E0 (PM.red m k (PM.pre k f E))/\(PM.red m k (PM.pre k f E) k k).natAbs<n:=by
    rcases y with⟨rfl,rfl⟩ | ⟨A,rfl⟩
    ·exact⟨PM.Aft.first d F,J f F⟩
    ·exact A.next d F
   have pz:PM.pre k f E k k≠0:=by have:=T.1.nz;rwa [PM.red_k] at this
   have Q:∀i j,k<=i->i<m->j<w->(PM.pre k f E i j).natAbs<2^G:=λi j t o B=>by
    unfold PM.pre;split
    ·exact W _ j (by unfold PM.sw;split<;>(try split)<;>omega) (PM.sw_lt d F.hi o) B
    ·exact W i j t o B
   have x:∀p:Option PV,Lm (xB (Zj (W8 aB) (Zj ZX (Zj ZX (Za 3) (Za 2)) (Za 2)) (eC (.int 0)))) (xB (Zj JW (Zc OQ [Zj ZX (Zj ZX (Za 3) (Za 5)) (Za 2)]) (Zc OQ [Zj ZX (Zj ZX (Za 3) (Za 2)) (Za 2)]))) (FI w m k E0 E (aA (.int (f:Int))) c x7)=aA (decide (E k k=0) || decide ((E f k).natAbs<(E k k).natAbs)):=λ_=>xo (xb (Fi (Ud (by omega) (by omega) rfl rfl rfl) rfl)) (xb (Cn (c1 (Ud (by have:=F.hi;omega) (by omega) rfl rfl rfl) (K9 _)) (c1 (Ud (by omega) (by omega) rfl rfl rfl) (K9 _))));have hf:ZX (.lst (iL (nL (bw m k E)))) (.int 0)=aA (.int (f:Int)):=by rw[e];exact X0 (j:=0) rfl
   refine U8 (Zw (ep (o2 rfl rfl hf))) (HB (R:=λs=>∃c,s=[aA (.lst (bL w E0)),aA (.int (m:Int)),aA (.int (k:Int)),aA (.lst (bL w (PM.pre k f E))),aA (.lst (iL (nL (bw m k E)))),aA (.int (f:Int)),c,x7]) (KW (x p) (λz=>?_) λz=>?_) ?_)
   ·have I:E k k=0\/(E f k).natAbs<(E k k).natAbs:=by simpa using z
    refine U8 (Zw (ep (Rn (by omega) rfl rfl) (Wi _))) (U8 (Od (by omega) rfl (Rn (by have:=F.hi;omega) rfl rfl) rfl) (Lf (Od (v:=E k) (by have:=F.hi;omega) rfl rfl rfl) ⟨aA (cR w (E k)),?_⟩));show [aA (PV.lst (bL w E0)),aA (.int (m:Int)),aA (.int (k:Int)),aA (.lst (bL w (Yl f (E k) (Yl k (E f) E)))),aA (.lst (iL (nL (bw m k E)))),aA (.int (f:Int)),aA (cR w (E k)),x7]=_;rw[IL (by omega),show PM.pre k f E=λi j=>E (PM.sw k f i) j by unfold PM.pre;rw[jw I]]
   ·have I:¬(E k k=0\/(E f k).natAbs<(E k k).natAbs):=by simpa using z
    exact Lf rfl ⟨c,by rw[show PM.pre k f E=E by unfold PM.pre;rw[jx I]];rfl⟩
   ·rintro s ⟨y6,rfl⟩;refine HB (IM C L d Y U Q pz) ?_;rintro s ⟨y7,rfl⟩;rw[IP (w:=w) F d];exact Lf (Zw (c3 rfl rfl rfl (WO L C d))) ⟨_,T.2,_,_,_,_,rfl,(rt.trans (by omega) (PM.rt_pre d F.lo F.hi)).trans (by omega) (PM.rt_red d),.inr ⟨T.1,rfl⟩⟩
 ·rintro st ⟨n,⟨E,p,c,x7,rfl,rt,y⟩,q⟩;have a:(iL (nL (bw m k E))).length=(bw m k E).length:=by simp[nL]
  have l:xB (Zj Ll (Zc YH [Za 4]) (eC (.int 0))) (FI w m k E0 E p c x7)=aA (decide (0<(bw m k E).length)):=xb (DZ (b:=0) (c1 rfl (by rw[O3,a])) rfl);have q0:=of_decide_eq_false (ak (l.symm.trans q));have nil:bw m k E=[]:=List.eq_nil_of_length_eq_zero (by omega);have z:∀i,k<i->i<m->E i k=0:=λi t o=>bt λz=>by have:=mem_bw.mpr ⟨t,o,z⟩;rw[nil] at this;exact cU this
  refine Wg rfl ⟨E,rfl,?_⟩;rcases y with⟨rfl,_⟩ | ⟨A,_⟩
  ·exact .refl z
  ·exact .aft rt A z
section
variable {w m k:Nat} {E:Mt}
theorem WQ(b:w<=100):Yf [.lst (bL w E)]=aA (.lst (bL w (PM.tr E))):=by refine Yy (ret (Z8 (aJ w) (λ(i:Nat)=>PV.int (i:Int)) (λi=>cR w (PM.tr E i)) (ZZ (c1 rfl (by rw[O3,Vz])) (by omega)) (by simp;omega) λi a=>⟨_,rfl,rfl,ep (U0 ?_) (Wi _)⟩));have a:=aY.mp a;exact Xb (q:=λr=>cR w (E r)) (λr=>E r i) rfl b λr c=>⟨_,rfl,vP (EC a rfl rfl)⟩
noncomputable def beside(m k:Nat)(E:Mt):Bool:=((aJ (m-(k+1))).map λi=>E k (k+1+i)).any λz=>z != 0
theorem Lh(h:beside m k E=aB):∀j,k<j->j<m->E k j=0:=λj b a=>by have:=eN.mp h (E k j) (bq.mpr ⟨j-(k+1),aY.mpr (by omega),by rw[show k+1+(j-(k+1))=j by omega]⟩);simpa using this
theorem ND(h:∀j,k<j->j<m->E k j=0):beside m k E=aB:=eN.mpr λx a=>by obtain⟨i,b,rfl⟩:=bq.mp a;have:=aY.mp b;rw[h _ (by omega) (by omega)];simp
theorem IQ{l:List Int}{a b:Nat}(c:a<=l.length)(d:b<=l.length):XA (iL l) (aA (a:Int)) (aA (b:Int))=iL ((l.drop a).take (b-a)):=by unfold XA;rw[HT.sIx_nat,HT.sIx_nat,aQ,dF c,dF d,<-jg,<-jf]
theorem TB{v:Nat->Int}{a b:Nat}(c:a<=b)(d:b<=w):((ZQ w v).drop a).take (b-a)=(aJ (b-a)).map λi=>v (a+i):=by
 apply cO;intro i;rw[List.getElem?_take];by_cases h:i<b-a
 ·rw[jw h,dR,aR,bB h];unfold ZQ;rw[aR,bB (by omega)];rfl
 ·rw[jx h,bJ (by simp;omega)]
theorem Mk{s:Zy}{f g h:XE}(e:m<=w)(j:k<m)(q:f s=aA (.lst (bL w E)))(c:g s=aA (.int (k:Int)))(d:h s=aA (.int (m:Int))):xB (Zc Ss [Rc VP (Zj ZX f g) (U5 (Zj Yc g (eC (.int 1)))) (U5 h)]) s=aA (beside m k E):=by
 refine xb (c1 (a:=.lst (iL ((aJ (m-(k+1))).map λi=>E k (k+1+i)))) ?_ ?_)
 ·rw[X7,Rn (by omega) q c];simp only[a0];unfold U5;rw[E6 (a:=(k:Int)) (b:=1) c rfl,d];simp only[a0];show aA (PV.lst (XA (iL (ZQ w (E k))) (aA ((k:Int)+1)) (aA (m:Int))))=_;rw[show((k:Int)+1)=((k+1:Nat):Int) from rfl,IQ (by rw[ZM];omega) (by rw[ZM];omega),TB (by omega) e]
 ·show(Xy (iL _)).map _=_;rw[YS];rfl
end
theorem Ft{m k e a d G:Nat}{g E:Mt}(f:k<m)(h:PM.RZ m k e a d g E)(n:d+2*a+3*e+3<G):∀j,j<m+m->∃N M P,PM.Hyp m k E j N M P/\2*(N*(M+2)*P^3)<2^G:=λj p=>by
 have lt:∀{x},x<=d+2*a+3*e+3->2^x<2^G:=λ{x} o=>cE (by omega) (by omega);have col:∀i,k<=i->i<m->(E i k).natAbs<=2^a:=λi c b=>h.ab i k c b (aH _) f;by_cases q:j<m
 ·refine⟨2^a,2^a,2^e,⟨λi c b=>?_,b9,λ_=>h.pb,λz=>absurd z h.nz,.inl col⟩,bA (PM.bits3 _ _ _) (lt (by omega))⟩;by_cases l:j<k
  ·rw[(h.cr.d1 j i l b (by omega)).2];exact bz _
  ·exact h.ab i j c b (by omega) q
 ·refine⟨2^d,2^a,2^e,⟨λi c b=>?_,b9,λ_=>h.pb,λz=>absurd z h.nz,.inl col⟩,bA (PM.bits3 _ _ _) (lt (by omega))⟩;have:=h.lb i (j-m) b (by omega)
  rwa [show m+(j-m)=j by omega] at this
theorem SY{m k e d c G:Nat}{f E:Mt}(i:m<=50)(b:k<m)(h:PM.RZ m k e d c f E)(g:c+2*d+3*e+3<G)(a:G<=60000000):∃E',Zz [.lst (bL (m+m) E),.int (m:Int),.int (k:Int)]=aA (.lst (bL (m+m) E'))/\PM.CL m k E E':=
 R4 (G:=G) (by omega) (by omega) b (by omega) a (Ft b h g)
theorem Fu{m k e g f:Nat}{a E:Mt}{D:Int}(b:PM.Bs m a D)(h:PM.RZ m k e g f a (PM.tr E))(z:∀j,k<j->j<m->E k j=0):PM.RZ m k e g f a E:=
 ⟨h.cr.tr b,h.nz,h.pb,z,h.mb.tr,λi j c d=>h.rb j i d c,λi j c d=>h.lb j i d c⟩
abbrev E7(w m k:Nat)(B:List PV)(E:Mt):Zy:=[aA (.lst B),aA (.int (m:Int)),aA (.int (k:Int)),aA (.lst (bL w E))]
theorem Ue{m k e I x G sx bx:Nat}{s o:Nat->Nat}{l E:Mt}{B:List PV}{D:Int}(b:PM.Bs m l D)(T:PM.Bv m k I s o l)(Q:m<=50)(t:k<m)(he:e<=I)(U:I<=20)(h:PM.RZ m k e (o e) x l (PM.tr E))(H:∀e,e<=I->o e<=bx/\s e<=sx)
  (hG:x+PM.f1 s e+sx+2*bx+70<G) (u:G<=60000000) :
  Yv (Zr (XB (xB (Zc Ss [Rc VP (Zj ZX (Za 3) (Za 2)) (U5 (Zj Yc (Za 2) (eC (.int 1)))) (U5 (Za 1))])) (Zr (ZA 3 (Zc Yf [Zc Zz [Zc Yf [Za 3],Za 1,Za 2]])) (ZA 3 (Zc Zz [Za 3,Za 1,Za 2])))) (ZV (Za 3)))
   (E7 (m+m) m k B E) λv=>∃E' e' γ',v = .lst (bL (m+m) E')/\e'<=e/\γ'+PM.f1 s e'<=x+PM.f1 s e+2*s e'/\PM.RZ m k e' (o e') γ' l E'/\PM.RZ m k e' (o e') γ' l (PM.tr E')/\((¬ ∀i,k<i->i<m->E k k∣E k i)->e'<e):=by
 refine U7 (Mi (λn st=>∃d a c,st=E7 (m+m) m k B d/\((n=a+1/\a<=e/\c+PM.f1 s a<=x+PM.f1 s e/\PM.RZ m k a (o a) c l (PM.tr d)/\(a=e->d=E))\/(n=0/\a<=e/\c+PM.f1 s a<=x+PM.f1 s e+2*s a/\PM.RZ m k a (o a) c l d/\PM.RZ m k a (o a) c l (PM.tr d)/\((¬ ∀i,k<i->i<m->E k k∣E k i)->a<e)))) ⟨E,e,x,rfl,.inl ⟨rfl,aH _,aH _,h,λ_=>rfl⟩⟩ ?_) ?_
 ·rintro n st ⟨d,a,c,rfl,L⟩;have j:xB (Zc Ss [Rc VP (Zj ZX (Za 3) (Za 2)) (U5 (Zj Yc (Za 2) (eC (.int 1)))) (U5 (Za 1))]) (E7 (m+m) m k B d)=aA (beside m k d):=Mk (by omega) t rfl rfl rfl
  cases q:beside m k d with
  | false=>exact .inl (j.trans (by rw[q]))
  | true=>
   refine .inr ⟨j.trans (by rw[q]),?_⟩;rcases L with⟨rfl,f,N,g,r⟩ | ⟨_,_,_,g,_⟩
   ·have b1:=H a (by omega);obtain⟨F,Y,S⟩:=SY (G:=G) Q t g (by omega) u
    have c2:∃y,Zz [.lst (bL (m+m) (PM.tr F)),.int (m:Int),.int (k:Int)]=aA (.lst (bL (m+m) y))/\PM.CL m k (PM.tr F) y:=by
     rcases PM.HV b T t (by omega) g S with⟨_,A,_⟩ | ⟨w,rfl,A,_⟩
     ·exact SY (G:=G) Q t A (by omega) u
     ·have:=H w (by omega);exact SY (G:=G) Q t A (by omega) u
    obtain⟨y,O,R⟩:=c2;refine U8 (Zw (c1 (c3 (c1 rfl (WQ (by omega))) rfl rfl Y) (WQ (by omega)))) (Lf (Zw (c3 rfl rfl rfl O)) ?_);rcases PM.turnV b T t (by omega) g S R with⟨w,p,W,Z,C,J,M⟩ | ⟨w,p,W,Z,C⟩
    ·refine⟨0,by omega,y,w,p,rfl,.inr ⟨rfl,by omega,by omega,C,J,λz=>?_⟩⟩;by_cases P:a=e
     ·have:=M (by rw[r P];exact z);omega
     ·omega
    ·exact⟨w+1,by omega,y,w,p,rfl,.inl ⟨rfl,by omega,by omega,C,λz=>by omega⟩⟩
   ·exfalso;rw[ND g.rz] at q;cases q
 ·rintro st ⟨n,⟨d,a,c,rfl,L⟩,q⟩;have j:xB (Zc Ss [Rc VP (Zj ZX (Za 3) (Za 2)) (U5 (Zj Yc (Za 2) (eC (.int 1)))) (U5 (Za 1))]) (E7 (m+m) m k B d)=aA (beside m k d):=Mk (by omega) t rfl rfl rfl;have z:=Lh (ak (j.symm.trans q));rcases L with⟨rfl,f,N,g,r⟩ | ⟨_,f,N,g,A,M⟩
  ·refine Wg rfl ⟨d,a,c,rfl,f,by omega,Fu b g z,g,λX=>?_⟩;refine dC f λP=>X ?_;have e:=r P;subst e;exact λi C J=>by rw[z i C J];exact cC _
  ·exact Wg rfl ⟨d,a,c,rfl,f,N,g,A,M⟩
theorem Oe{w m k:Nat}{E:Mt}(c:w<=100)(d:m<=w)(b:k<m)(z:∀i,k<i->i<m->E i k=0):Zz [.lst (bL w E),.int (m:Int),.int (k:Int)]=aA (.lst (bL w E)):=by
 have nil:bw m k E=[]:=List.eq_nil_iff_forall_not_mem.mpr λx a=>by have:=mem_bw.mp a;exact this.2.2 (z x this.1 this.2.1)
 refine KU (Z9 (Zw (c1 rfl (by rw[PF,jw QZ]))) (Z9 (Zw (c3 rfl rfl rfl (WO d c b))) (U7 (Mi (k:=0) (λn st=>st=FI w m k E E none none none) rfl ?_) ?_)))
 ·rintro n st rfl;unfold FI;rw[nil];exact .inl rfl
 ·rintro st ⟨n,rfl,_⟩;exact Wg rfl rfl
theorem Fv{m k a d G:Nat}{g E:Mt}(f:k<m)(h:PM.Pl m k a d g E)(o:d+5*a+3<G):∀j,j<m+m->∃N M P,PM.Hyp m k E j N M P/\2*(N*(M+2)*P^3)<2^G:=λj r=>by
 have lt:∀{x},x<=d+5*a+3->2^x<2^G:=λ{x} p=>cE (by omega) (by omega);have col:∀i,k<=i->i<m->(E i k).natAbs<=2^a:=λi c b=>h.ab i k c b (aH _) f;have e:∀N,PM.Bo m k j N E->PM.Hyp m k E j N (2^a) (2^a):=λN n=>⟨n,b9,λ_=>col k (aH _) f,λ_ i c b=>col i (by omega) b,.inl col⟩;by_cases q:j<m
 ·refine⟨2^a,2^a,2^a,e _ λi c b=>?_,bA (PM.bits3 _ _ _) (lt (by omega))⟩;by_cases l:j<k
  ·rw[(h.cr.d1 j i l b (by omega)).2];exact bz _
  ·exact h.ab i j c b (by omega) q
 ·refine⟨2^d,2^a,2^a,e _ λi c b=>?_,bA (PM.bits3 _ _ _) (lt (by omega))⟩;have:=h.lb i (j-m) b (by omega)
  rwa [show m+(j-m)=j by omega] at this
structure ED(m k a e0 sf sx bx:Nat)(s β:Nat->Nat)(A0 E:Mt)(D:Int):Prop where
 bs:PM.Bs m A0 D
 bd:PM.Bv m k e0 s β A0
 m5:m<=50
 km:k<m
 e17:e0<=20
 b8:∀e,e<=e0->β e<=bx/\s e<=sx
 a5:7*a+6<=β e0
 a4:4*a+3<=sf
 small:sf+sx+sx+sx+2*bx+PM.f2 s e0<=28500000
 pb:∀E',PM.CL m k E E'->(E' k k).natAbs<=2^e0
section
variable {m k a e0 γ sf sx bx:Nat} {s β:Nat->Nat} {A0 E:Mt} {D:Int}
theorem Rq(P:ED m k a e0 sf sx bx s β A0 E D)(h:PM.Pl m k a γ A0 E)(x:γ<=31000000) :
  ∃e c b,Yr [.lst (bL (m+m) E),.int (m:Int),.int (k:Int)]=aA (.lst (bL (m+m) e))/\c<=e0/\b+PM.f1 s c<=γ+sf+PM.f1 s e0+2*s c/\PM.RZ m k c (β c) b A0 e/\PM.RZ m k c (β c) b A0 (PM.tr e):=by
 have p:=P.m5;have f:=P.km;have q:=P.a5;have o:=P.a4;have i:=P.e17;have F:=P.b8 e0 (aH _);have C:=P.small;have H:=PM.f2_ge s e0;obtain⟨u,A,d⟩:=R4 (w:=m+m) (G:=60000000) (by omega) (by omega) f (by omega) (by omega) (Fv f h (by omega));have r:=PM.Pl.first (s:=sf) P.bs f h d (P.pb u d) q o;have g:=Ue (G:=60000000) (sx:=sx) (bx:=bx) (B:=bL (m+m) E) P.bs P.bd p f (aH e0) i r P.b8 (by omega) (by omega);have z:Yv XD (ZG 4 [.lst (bL (m+m) E),.int (m:Int),.int (k:Int)]) _:=Z9 (Zw (c3 rfl rfl rfl A)) g;obtain⟨v,y,e,c,b,rfl,l,j,t,n,_⟩:=SR z;exact⟨e,c,b,y,l,j,t,n⟩
theorem Rr{e:Nat}(P:ED m k a e0 sf sx bx s β A0 E D){d:Mt}(l:e<=e0)(r:PM.RZ m k e (β e) γ A0 (PM.tr d))(j:γ+PM.f1 s e+sx+2*bx+70<60000000) :
  ∃f c b,Yr [.lst (bL (m+m) d),.int (m:Int),.int (k:Int)]=aA (.lst (bL (m+m) f))/\c<=e/\b+PM.f1 s c<=γ+PM.f1 s e+2*s c/\PM.RZ m k c (β c) b A0 f/\PM.RZ m k c (β c) b A0 (PM.tr f)/\((¬ ∀i,k<i->i<m->d k k∣d k i)->c<e):=by
 have o:=P.m5;have n:=P.km;have h:=P.e17;have x:=P.small;have y:=PM.f2_ge s e0;have z:=PM.f1_mono s l;have g:=Ue (G:=60000000) (sx:=sx) (bx:=bx) (B:=bL (m+m) d) P.bs P.bd o n l h r P.b8 j (by omega);have u:Yv XD (ZG 4 [.lst (bL (m+m) d),.int (m:Int),.int (k:Int)]) _:=Z9 (Zw (c3 rfl rfl rfl (Oe (w:=m+m) (by omega) (by omega) n λi q p=>r.rz i q p))) g;obtain⟨v,t,f,c,b,rfl,Z6⟩:=SR u;exact⟨f,c,b,t,Z6⟩
noncomputable def Fw(m k:Nat)(E:Mt)(i:Nat):Bool:=((aJ m).map λj=>!decide ((E i j).fmod (E k k)=0)).any id
theorem IS{i:Nat}(h:Fw m k E i=aB):∀j,j<m->E k k∣E i j:=λj a=>by have:=eN.mp h (!decide ((E i j).fmod (E k k)=0)) (bq.mpr ⟨j,aY.mpr a,rfl⟩);exact Int.dvd_of_fmod_eq_zero (by simpa using this)
theorem Ja{i:Nat}(h:Fw m k E i=aC):∃j,j<m/\¬E k k∣E i j:=by obtain⟨b,c,d⟩:=dq.mp h;obtain⟨j,a,rfl⟩:=bq.mp c;refine⟨j,aY.mp a,λz=>?_⟩;have:=Int.fmod_eq_zero_of_dvd z;simp[this] at d
theorem Of{w:Nat}(y:w<=100)(o:m<=w)(p:k<m)(n:E k k≠0):∃v,Xv [.lst (bL w E),.int (m:Int),.int (k:Int)]=aA v/\((v = .non/\∀i j,k<i->i<m->j<m->E k k∣E i j)\/(∃u:Nat,v = .int (u:Int)/\k<u/\u<m/\∃j,j<m/\¬E k k∣E u j)):=by
 refine SR (Z9 (Zw (ep (Ud (by omega) (by omega) rfl rfl rfl))) (Et (L:=(aJ (m-(k+1))).map λi=>k+1+i) (q:=λ(i:Nat)=>PV.int (i:Int)) (g:=λ(i:Nat)=>PV.int (i:Int)) (Fw m k E) (λs=>∃x,s=[aA (.lst (bL w E)),aA (.int (m:Int)),aA (.int (k:Int)),aA (.int (E k k)),x]) ?_ ⟨none,rfl⟩ ?_ ?_ ?_))
 ·rw[Uz (i:=(k:Int)+1) (j:=(m:Int)) (E6 rfl rfl) rfl (by omega) (by omega)];unfold Vn;rw[cp,show((m:Int)-((k:Int)+1)).toNat=m-(k+1) by omega];congr 1
 ·rintro i c s ⟨x,rfl⟩;obtain⟨t,d,rfl⟩:=bq.mp c;have:=aY.mp d;refine⟨_,rfl,xb (c1 (a:=.lst (((aJ m).map λj=>!decide ((E (k+1+t) j).fmod (E k k)=0)).map PV.bl)) ?_ (G7 _)),ret (vP rfl),⟨_,rfl⟩⟩;rw[cp];refine Z8 (aJ m) (λj=>PV.int (E (k+1+t) j)) _ ?_ (by simp;omega) λj r=>⟨_,rfl,rfl,o2 (vC (C:=λ_ j=>j≠0) (op:=Int.fmod) rfl rfl n) rfl (by rw[Uy];rfl)⟩;show(Rc VP (Zj ZX (Za 0) (Za 4)) OU (U5 (Za 1)) _).bind _=_;rw[X7,Rn (i:=k+1+t) (E:=E) (w:=w) (by omega) rfl rfl];simp only[a0,NZ];show(aA (PV.lst (XA (iL (ZQ w (E (k+1+t)))) none (aA (m:Int))))).bind _=_;rw[KO];show aA (iL ((ZQ w (E (k+1+t))).take m))=_;have:=TB (w:=w) (v:=E (k+1+t)) (a:=0) (b:=m) (by omega) o;rw[fj,gh] at this;rw[this];show aA (jD PV.int (jD _ _))=_;rw[cp];congr 1;refine bN λi _=>?_;show PV.int (E (k+1+t) (0+i))=_;rw[Nat.zero_add]
 ·intro i c;have e:=List.mem_of_find?_eq_some c;have f:=List.find?_some c;obtain⟨t,d,rfl⟩:=bq.mp e;have:=aY.mp d;exact .inr ⟨_,rfl,by omega,by omega,Ja f⟩
 ·rintro h s ⟨x,rfl⟩;refine Wg rfl (.inl ⟨rfl,λi j e f l=>IS ?_ j l⟩);have:=List.find?_eq_none.mp h i (bq.mpr ⟨i-(k+1),aY.mpr (by omega),by omega⟩);simpa using this
theorem Li{e c b:Nat}{g E:Mt}{G u:Nat}(h:PM.RZ m k e c b g E)(l:c<G)(n:b<G)(f:k<=u)(a:u<m):∀j,j<m+m->(E u j).natAbs<2^G:=λj o=>by
 have lt:∀{x},x<G->2^x<2^G:=λ{x} d=>cE (by omega) d;by_cases q:j<m
 ·by_cases i:j<k
  ·rw[(h.cr.d1 j u i a (by omega)).2];exact Nat.pow_pos (by omega)
  ·exact bA (h.ab u j f a (by omega) q) (lt l)
 ·have:=h.lb u (j-m) a (by omega);rw[show m+(j-m)=j by omega] at this;exact bA this (lt n)
theorem Q0(P:ED m k a e0 sf sx bx s β A0 E D)(h:PM.Pl m k a γ A0 E)(hγ:γ<=31000000)(f:Nat)(t:∀e,e<=e0->β e<=f) :
  ∃o d,YE [.lst (bL (m+m) E),.int (m:Int),.int (k:Int)]=aA (.lst (bL (m+m) o))/\d<=γ+sf+2*sx+PM.f2 s e0/\PM.Pl m (k+1) f d A0 o:=by
 have m5:=P.m5;have C:=P.km;have e17:=P.e17;obtain⟨Y,e1,B,v1,J,g1,l,p⟩:=Rq P h (by omega);obtain⟨x1,w1,S⟩:=Of (w:=m+m) (E:=Y) (by omega) (by omega) C l.nz
 suffices g:Yv V5 (ZG 5 [.lst (bL (m+m) E),.int (m:Int),.int (k:Int)]) λv=>∃o d,v = .lst (bL (m+m) o)/\d<=γ+sf+2*sx+PM.f2 s e0/\PM.Pl m (k+1) f d A0 o by obtain⟨v,e,o,d,rfl,r⟩:=SR g;exact⟨o,d,e,r⟩
 have sm:=P.small;have base:B+PM.f2 s e1<=γ+sf+2*sx+PM.f2 s e0:=by have:=PM.f2_le s J;have:=(P.b8 e1 J).2;omega
 refine Z9 (Zw (c3 rfl rfl rfl v1)) (Z9 (Zw (c3 rfl rfl rfl w1)) (U7 (Mi (λn st=>∃b c x,st=[aA (.lst (bL (m+m) E)),aA (.int (m:Int)),aA (.int (k:Int)),aA (.lst (bL (m+m) b)),aA x]/\n<=e0/\c+PM.f2 s n<=γ+sf+2*sx+PM.f2 s e0/\PM.RZ m k n (β n) c A0 b/\PM.RZ m k n (β n) c A0 (PM.tr b)/\((x = .non/\∀i j,k<i->i<m->j<m->b k k∣b i j)\/(∃u:Nat,x = .int (u:Int)/\k<u/\u<m/\∃j,j<m/\¬b k k∣b u j))) ⟨Y,B,x1,rfl,J,base,l,p,S⟩ ?_) ?_))
 ·rintro n st ⟨b,c,x,rfl,H,hg,l,p,L⟩;rcases L with⟨rfl,_⟩ | ⟨u,rfl,Z,F,j,A,nd⟩
  ·exact .inl rfl
  ·refine .inr ⟨rfl,?_⟩;have b8:=P.b8 n H;have fg:=PM.f2_ge s n;have O:=Li (G:=60000000) l (by omega) (by omega) (by omega) F;have lo:UE [cR (m+m) (b k),cR (m+m) (b u),.int 1]=aA (.lst (iL (ZQ (m+m) λj=>b k j-1*b u j))):=Mj (by omega) λj A=>K7 (G:=60000000) (by show 1<2^60000000;exact Nat.one_lt_two_pow (by omega)) (O j A) (by omega) (by omega);have r3:=l.unfit P.bs C p Z F
   have eE:Yl k (λj=>b k j-1*b u j) b=λi j=>if i=k then b i j-1*b u j else b i j:=by
    funext i;unfold Yl;by_cases q:i=k
    ·rw[jw q];funext j;rw[jw q,q]
    ·rw[jx q];funext j;rw[jx q]
   obtain⟨E3,U,I,v3,l3,g3,T,r5,d3⟩:=Rr P H r3 (by omega)
   have less:U<n:=d3 λz=>by
    have W:b u k=0:=p.rz u Z F
    have X:k<j:=by
     refine Nat.not_le.mp λle=>nd ?_;by_cases q:j=k
     ·rw[q,W];exact cC _
     ·rw[(l.cr.d1 j u (by omega) F (by omega)).2];exact cC _
    have:=z j X A;simp only[jw] at this;rw[W,l.rz j X A] at this;refine nd ?_;have h2:b k k∣-(1*b u j):=by simpa using this
    simpa using Int.dvd_neg.mp h2
   have st:=PM.f2_step s less;obtain⟨x3,w3,M⟩:=Of (w:=m+m) (E:=E3) (by omega) (by omega) C T.nz;refine U8 (Od (w:=m+m) (E:=b) (v:=λj=>b k j-1*b u j) (by omega) rfl (U0 (c3 (Rn (by omega) rfl rfl) (Rn (by omega) rfl rfl) rfl lo)) rfl) (U8 (Zw (c3 rfl rfl rfl ?_)) (Lf (Zw (c3 rfl rfl rfl w3)) ⟨U,less,E3,I,x3,rfl,by omega,by omega,T,r5,M⟩));rw[eE];exact v3
 ·rintro st ⟨n,⟨b,c,x,rfl,H,hg,l,p,L⟩,q⟩;rcases L with⟨rfl,dv⟩ | ⟨u,rfl,_⟩
  case inr=>cases q
  have nx:=l.next C p dv;have N:PM.Pl m (k+1) f c A0 (λi j=>if i=k/\b k k<0 then-b i j else b i j):=⟨nx.cr,nx.mb.up (PM.pw2 (t n H)),nx.lb,nx.rb⟩;have Q:xB (Zj JW (Zj ZX (Zj ZX (Za 3) (Za 2)) (Za 2)) (eC (.int 0))) [aA (.lst (bL (m+m) E)),aA (.int (m:Int)),aA (.int (k:Int)),aA (.lst (bL (m+m) b)),aA .non]=aA (decide (b k k<0)):=xb (o2 (Ud (by omega) (by omega) rfl rfl rfl) rfl rfl);refine U7 (R:=λs=>s=[aA (.lst (bL (m+m) E)),aA (.int (m:Int)),aA (.int (k:Int)),aA (.lst (bL (m+m) (λi j=>if i=k/\b k k<0 then-b i j else b i j))),aA .non]) (KW Q (λz=>?_) λz=>?_) ?_
  ·have z:=of_decide_eq_true z;refine Lf (Od (w:=m+m) (E:=b) (v:=λj=>- b k j) (by omega) rfl (U0 (Xb (q:=λj=>.int (b k j)) (λj=>- b k j) ?_ (by omega) λj A=>⟨_,rfl,vP (D3 rfl rfl)⟩)) rfl) ?_
   ·show(Zj ZX (Za 3) (Za 2) _).bind _=_;rw[Rn (i:=k) (E:=b) (w:=m+m) (by omega) rfl rfl];show aA (jD PV.int (jD (b k) (aJ (m+m))))=_;rw[cp];rfl
   ·show [_,_,_,aA (PV.lst (bL (m+m) (Yl k (λj=>- b k j) b))),_]=_;rw[show Yl k (λj=>- b k j) b=λi j=>if i=k/\b k k<0 then-b i j else b i j from ?_];funext i;unfold Yl;by_cases q:i=k
    ·rw[jw q];funext j;rw[jw ⟨q,z⟩,q]
    ·rw[jx q];funext j;rw[jx (λy=>q y.1)]
  ·have z:=of_decide_eq_false z;refine Lf rfl ?_;rw[show(λi j=>if i=k/\b k k<0 then-b i j else b i j)=b from funext λi=>funext λj=>jx (λy=>z y.2)]
  ·rintro s rfl;exact Wg rfl ⟨_,c,rfl,by omega,N⟩
end
noncomputable def E0(m:Nat)(A:Mt):Mt:=λi j=>if i<m then(if j<m then A i j else PM.one i (j-m)) else(if j<m then PM.one (i-m) j else 0)
theorem Fx{a b:Nat}(u v:Nat->Int):ZQ a u++ZQ b v=ZQ (a+b) λj=>if j<a then u j else v (j-a):=by
 apply cO;intro i;unfold ZQ;by_cases h:i<a
 ·rw[aw (by simpa using h),aR,aR,bB h,bB (by omega)];show aA (u i)=aA (if i<a then u i else v (i-a));rw[jw h]
 ·rw[bS (by simp;omega),aQ,b7,aR,aR];by_cases c:i<a+b
  ·rw[bB (by omega),bB c];show aA (v (i-a))=aA (if i<a then u i else v (i-a));rw[jx h]
  ·rw[bJ (by simp;omega),bJ (by simp;omega)];rfl
theorem Jb{a b:Nat}{u v:Nat->Int}(h:a+b<=100):Sd (.lst (iL (ZQ a u))) (.lst (iL (ZQ b v)))=aA (.lst (iL (ZQ (a+b) λj=>if j<a then u j else v (j-a)))):=by unfold Sd;simp only[];rw[jw ⟨by rw[aQ,aQ,ZM,ZM];omega,Yd _,Yd _⟩,<-eH,Fx]
theorem Ta{m i:Nat}(b:m<=100):X9 [.int (m:Int),.int (i:Int)]=aA (.lst (iL (ZQ m (PM.one i)))):=by
 refine Yy (ret (W4 (PM.one i) (ZZ rfl (by omega)) (by omega) λj a=>⟨_,rfl,rfl,vP ?_⟩));unfold PM.one;by_cases q:i=j
 ·rw[jw q];exact HD (xb ((Fi rfl rfl).trans (by rw[decide_eq_true (by omega)]))) rfl
 ·rw[jx q];exact HE (xb ((Fi rfl rfl).trans (by rw[decide_eq_false (by omega)]))) rfl
theorem EE{m:Nat}(a:m<=100):Pz (.lst [.int 0]) (.int (m:Int))=aA (.lst (iL (ZQ m λ_=>0))):=by
 unfold Pz;simp only[];rw[jw (by refine⟨?_,?_,?_,?_⟩<;>first | rfl | omega | (simp;omega))];congr 2;apply cO;intro i;unfold ZQ;by_cases h:i<m
 ·simp[h]
 ·simp[h]
theorem Og{m:Nat}{A:Mt}(f:m<=50):Vo [wP (Xq m m A)]=aA (.lst (bL (m+m) (E0 m A))):=by
 have up:∀i,i<m->cR (m+m) (E0 m A i) = .cst (iL (ZQ (m+m) λj=>if j<m then A i j else PM.one i (j-m))):=λi b=>by unfold cR E0;simp only[jw b]
 have lo:∀i,i<m->cR (m+m) (E0 m A (m+i)) = .cst (iL (ZQ (m+m) λj=>if j<m then PM.one i j else 0)):=λi b=>by unfold cR E0;rw[show m+i-m=i by omega];simp only[jx (show ¬m+i<m by omega)]
 have c:bL (m+m) (E0 m A)=(aJ m).map (λi=>cR (m+m) (E0 m A i))++(aJ m).map λi=>cR (m+m) (E0 m A (m+i)):=by unfold bL;rw[jc,eH,cp];rfl
 have d:∀(g:Nat->Nat->Int),Zv ((aJ m).map λi=>cR (m+m) (g i))=aC:=λg=>by rw[YG,aj];intro x e;obtain⟨i,_,rfl⟩:=bq.mp e;exact Wi _
 refine KU (Z9 (Zw (vP (c1 rfl (by rw[RY,Tx])))) (Z9 (Zw (Z8 (aJ m) (λi=>.tup [.int ((i:Nat):Int),pP (ZQ m (A i))]) (λi=>cR (m+m) (E0 m A i)) ?_ (by simp;omega) λi b=>⟨_,rfl,rfl,ep ?_ (Wi _)⟩)) (Z9 (Zw (Z8 (aJ m) (λ(i:Nat)=>PV.int (i:Int)) (λi=>cR (m+m) (E0 m A (m+i))) (ZZ rfl (by omega)) (by simp;omega) λi b=>⟨_,rfl,rfl,ep ?_ (Wi _)⟩)) (Wg (o2 rfl rfl ?_) rfl))))
 ·show aA (Wx (tL (Xq m m A)))=_;rw[U6,SV];congr 1;refine bN λi b=>?_;rw[aM,SW (aY.mp b)];rfl
 ·rw[up i (aY.mp b)];exact U0 (o2 (a:=.lst (iL (ZQ m (A i)))) (c1 rfl (by rw[Kh,jw (Yd _)])) (c2 rfl rfl (Ta (by omega))) (Jb (by omega)))
 ·rw[lo i (aY.mp b)];exact U0 (o2 (c2 rfl rfl (Ta (by omega))) (o2 rfl rfl (EE (by omega))) (Jb (by omega)))
 ·unfold Sd;simp only[];rw[jw ⟨by simp;omega,d _,d _⟩,c]
theorem DK(m:Nat)(A:Mt):PM.Adm m A (E0 m A):=by
 have e:PM.EqM m (λi k=>E0 m A i (m+k)) PM.one:=λi j b a=>by show E0 m A i (m+j)=_;unfold E0;rw[jw b,jx (by omega),show m+j-m=j by omega]
 have d:PM.EqM m (λi k=>E0 m A (m+i) k) PM.one:=λi j b a=>by show E0 m A (m+i) j=_;unfold E0;rw[jx (by omega),jw a,show m+i-m=i by omega]
 have c:PM.EqM m (PM.mul m PM.one PM.one) PM.one:=λi j b a=>PM.mul_one a;refine⟨⟨PM.one,PM.one,e.mulL.trans c,e.mulR.trans c,d.mulL.trans c,d.mulR.trans c⟩,λi j b a=>?_,λi j b a=>?_⟩
 ·rw[e.mulL i j b a,PM.one_mul b,d.mulR i j b a,PM.mul_one a];unfold E0;rw[jw b,jw a]
 ·unfold E0;rw[jx (by omega),jx (by omega)]
theorem Ml(i j:Nat):(PM.one i j).natAbs<=2^0:=by unfold PM.one;split<;>decide
theorem Co{m:Nat}{A:Mt}(c:m<=6)(h:∀i j,i<m->j<m->(A i j).natAbs<=2^6):PM.Pl m 0 46 0 A (E0 m A):=by
 refine⟨⟨DK m A,λi _ a=>by omega,λi a=>by omega,λi _ _ a=>by omega⟩,?_,λi j a b=>?_,λi j a b=>?_⟩
 ·refine(PM.Mn.ent (n:=6) (B:=2^6) (by decide) (by omega) λi j _ a _ b=>?_).up (show PM.fct 6*(2^6)^6<=2^46 by decide);unfold E0;rw[jw a,jw b];exact h i j a b
 ·unfold E0;rw[jw a,jx (by omega)];exact Ml _ _
 ·unfold E0;rw[jx (by omega),jw b];exact Ml _ _
section
variable {W:List (List Int)} {m:Nat}
theorem Fy(ok:Yz W)(d:SK W)(h:W.length<=7)(l:W.length=m+1):PM.Bs m (ZC W 0) (ZU m (ZC W 0)):=by
 have bk:=K0 ok d (b:=0) ok.pos (λ_=>0);rw[show W.length-1=m by omega] at bk;have I:=W5 bk (aH m);refine⟨λi j c a=>bk.sym j i a c,⟨PM.tr (Lp m (ZC W 0)),λi j c a=>?_⟩,?_,?_⟩
 ·have e:=Mc (A:=ZC W 0) a c;show sN m (λk=>Lp m (ZC W 0) k i*ZC W 0 k j)=_;rw[Zh (g:=λk=>ZC W 0 j k*Lp m (ZC W 0) k i) λk f=>by rw[bF,bk.sym k j f a],e];unfold PM.one;by_cases q:i=j
  ·rw[jw q.symm];show _=ZU m (ZC W 0)*(if i=j then 1 else 0);rw[jw q,fE]
  ·rw[jx (λz=>q z.symm)];show _=ZU m (ZC W 0)*(if i=j then 1 else 0);rw[jx q,b5]
 ·rw[<-I.de];exact I.nz
 ·omega
theorem o0(i:Nat):Y2 0 i=i+1:=by unfold Y2;rw[jx (by omega)]
theorem Jc{W:List (List Int)}(ok:Yz W)(m:SK W)(r:2<=W.length):1<=(Zx W 0).sum:=by
 have c:=ok.pos;rw[V9 ok c,Y9];refine bt λh=>?_;have h:¬1<=sN W.length (ent W 0):=h
 have z:∀j,j<W.length->ent W 0 j=0:=λj g=>by
  have e:=Z3 (n:=W.length) (f:=λi=>if i=j then ent W 0 j else 0) g λi _ ne=>jx ne
  have l:=Xh (n:=W.length) (f:=λi=>ent W 0 i+(-1)*(if i=j then ent W 0 j else 0)) λi o=>by
   have:=ok.lo 0 i c o;split
   ·rename_i q;subst q;omega
   ·omega
  rw[Yg,ZI,e,jw rfl] at l;have:=ok.lo 0 j c g;omega
 have:=(m (· = 0) (λa b k p d=>⟨λq=>by rw[q,z b p] at d;omega,λq=>by rw[q,ok.sym a 0 k c,z a k] at d;omega⟩) 1 0 (by omega) c).mpr rfl;omega
theorem Oh(ok:Yz W)(c:SK W)(g:2<=W.length):sN (W.length-1) (λi=>ZC W 0 i i)<=2*((Ve W).length:Int)-1:=by
 have l:=Jc ok c g;have t:=P5 ok;rw[Y9] at t;have e:=Nw (m:=W.length-1) (b:=0) (f:=λh=>if h=0 then 0 else(Zx W h).sum) (jw rfl) (by omega);rw[show W.length-1+1=W.length by omega] at e
 have j:sN (W.length-1) (λi=>ZC W 0 i i)=sN W.length λh=>if h=0 then 0 else(Zx W h).sum:=by
  rw[e];exact Zh λi _=>by unfold ZC;rw[jw rfl,o0,jx (by omega)]
 have a:=Z3 (n:=W.length) (f:=λh=>if h=0 then(Zx W 0).sum else 0) (k:=0) ok.pos λi _ ne=>jx ne
 have d:sN W.length (λh=>(Zx W h).sum)=sN W.length (λh=>(if h=0 then 0 else(Zx W h).sum)+if h=0 then(Zx W 0).sum else 0):=Zh λi _=>by
  split
  ·rename_i q;rw[q];omega
  ·omega
 rw[d,Yg,a,jw rfl] at t;omega
theorem IT(ok:Yz W)(b:W.length=m+1):∀i,i<m->0<=ZC W 0 i i:=λi a=>by unfold ZC;rw[jw rfl,V9 ok (by rw[b];exact Xo a),Y9];exact Xh λj c=>ok.lo _ _ (by rw[b];exact Xo a) c
theorem HH(ok:Yz W)(a:SK W)(h:W.length=m+1)(j:(Ve W).length<=28):∀i,i<m->ZC W 0 i i<=55:=λi c=>by
 have d:=Oh ok a (by omega);rw[show W.length-1=m by omega] at d;have g:=IT ok h;have e:=Z3 (n:=m) (f:=λx=>if x=i then ZC W 0 i i else 0) c λx _ ne=>jx ne
 have l:=Xh (n:=m) (f:=λx=>ZC W 0 x x+(-1)*(if x=i then ZC W 0 i i else 0)) λx b=>by
  have:=g x b;split
  ·rename_i z;subst z;omega
  ·omega
 rw[Yg,ZI,e,jw rfl] at l;omega
theorem EF(ok:Yz W)(f:SK W)(e:W.length=m+1)(h:(Ve W).length<=28):∀i j,i<m->j<m->(ZC W 0 i j).natAbs<=55:=λi j a g=>by
 have c:Y2 0 i<W.length:=by have:=Xo (b:=0) a;omega
 have d:Y2 0 j<W.length:=by have:=Xo (b:=0) g;omega
 by_cases q:Y2 0 j=Y2 0 i
 ·rw[show j=i from IG q];have:=IT ok e i a;have:=HH ok f e h i a;omega
 ·unfold ZC;rw[jx q];have:=ok.lo _ _ c d;have:=ok.hi _ _ c d;omega
theorem Cp:∀x,x<56->x^12<=2^(2*x+21):=by decide +kernel
theorem EG{A:Mt}:∀{m:Nat},(∀i,i<m->0<=A i i/\A i i<=55)->∃s:Nat,sN m (λi=>A i i)=(s:Int)/\(EB A m).natAbs^12<=2^(2*s+21*m)
 | 0,_=>⟨0,rfl,show(1:Int).natAbs^12<=2^(2*0+21*0) by decide⟩
 | m+1,h=>by
  obtain⟨s,e,l⟩:=EG (m:=m) λi a=>h i (by omega);have b:=h m (by omega);refine⟨s+(A m m).natAbs,?_,?_⟩
  ·show sN m (λi=>A i i)+A m m=_;rw[e];omega
  ·show(EB A m*A m m).natAbs^12<=_;rw[cZ,Nat.mul_pow];refine aV (dB l (Cp (A m m).natAbs (by omega))) ?_;rw[<-fJ];exact PM.pw2 (by omega)
theorem Cq(ok:Yz W)(f:SK W)(e:W.length=m+1)(B:W.length<=7)(r:(Ve W).length<=28):(ZU m (ZC W 0)).natAbs<=2^20:=by
 have n:=ok.pos;have a:W.length-1=m:=by omega
 by_cases z:m=0
 ·subst z;show(1:Int).natAbs<=_;decide
 have bk:=K0 ok f (b:=0) n (λ_=>0);rw[a] at bk;have I:=W5 bk (aH m)
 obtain⟨S,u⟩:=K4 bk (λi j c v ne=>by
  unfold ZC;rw[o0,o0,jx (by omega)];have:=ok.lo (i+1) (j+1) (by omega) (by omega)
  omega) (λi c=>by
  have g:=KZ ok n (Y:=λh=>if h=0 then 0 else 1) (jw rfl) (k:=i) (by omega);rw[a,Zh (g:=ZC W 0 i) λj _=>by rw[o0,jx (by omega),fE]] at g
  have:0<=sN W.length λh=>(-1)*(ent W (Y2 0 i) h*((if h=0 then 0 else 1)-(if Y2 0 i=0 then 0 else 1))):=Xh λh q=>by
   have:=ok.lo (Y2 0 i) h (by rw[e];exact Xo c) q;rw[o0] at this ⊢;rw[jx (show ¬i+1=0 by omega)];split
   ·rw[Int.zero_sub,gG,fE];omega
   ·simp
  rw[ZI] at this;have g:(sN W.length λh=>ent W (Y2 0 i) h*((if h=0 then(0:Int) else 1)-(if Y2 0 i=0 then 0 else 1))) = - sN m (ZC W 0 i):=g;omega) (IT ok e) (aH m)
 have d:=Oh ok f (by omega);rw[a] at d;obtain⟨s,p,l⟩:=EG (A:=ZC W 0) (m:=m) λi c=>⟨IT ok e i c,HH ok f e r i c⟩;rw[p] at d;rw[I.de] at u;have o:0<ZU m (ZC W 0):=by rw[<-I.de];exact S.dp
 refine f9.mp λt=>?_;have x:(2^20)^12<=(EB (ZC W 0) m).natAbs^12:=fP (by omega) 12;have w:2^(2*s+21*m)<=2^236:=PM.pw2 (by omega);have y:(2^236:Nat)<(2^20)^12:=by decide
 omega
theorem IU{k a e:Nat}{c E:Mt}{D:Int}(b:PM.Bs m c D)(p:D.natAbs<=2^20)(o:k+1=m)(h:PM.Pl m k a e c E):PM.Pl m k 20 e c E:=by refine⟨h.cr,?_,h.lb,h.rb⟩;have d:=(h.cr.piv b (by omega) λi f g=>by omega).2;have:=eD (by have:=b.nz;omega) (cA.mpr d);refine(PM.Mn.ent (n:=1) (B:=2^20) (by decide) (by omega) λi j f g q l=>?_).up (show PM.fct 1*(2^20)^1<=2^20 by decide);rw[show i=k by omega,show j=k by omega];omega
noncomputable def aK:Nat->Nat
 | 0=>46
 | 1=>500
 | 2=>4900
 | 3=>36000
 | 4=>254000
 | _=>1800000
noncomputable def gK:Nat->Nat
 | 0=>0
 | 1=>50000
 | 2=>470000
 | 3=>3470000
 | 4=>24470000
 | 5=>30870000
 | _=>30920000
theorem IV{k a c bx:Nat}{g E:Mt}{D:Int}(b:PM.Bs m g D)(j:k<m)(d:c<=20)(n:7*a+6+PM.ad c<=bx)(l:4*a+3+3*(bx+63)+2*bx+c*(4*(bx+63)+1)<=28500000)(i:∀E',PM.CL m k E E'->(E' k k).natAbs<=2^c) :
  ED m k a c (4*a+3) (bx+63) bx (PM.sB (PM.be (7*a+6) c)) (PM.be (7*a+6) c) g E D/\PM.f2 (PM.sB (PM.be (7*a+6) c)) c<=c*(4*(bx+63)+1):=by
 have o:=b.m7;have be:∀e,e<=c->PM.be (7*a+6) c e<=bx/\PM.sB (PM.be (7*a+6) c) e<=bx+63:=λe h=>by unfold PM.sB PM.be;omega
 have f:=PM.f2_top λe d=>(be e d).2;exact⟨⟨b,PM.Bv.gen b,by omega,j,d,be,by unfold PM.be;omega,aH _,by omega,i⟩,f⟩
theorem Mm{k a:Nat}{c E:Mt}{D:Int}(b:PM.Bs m c D)(d:k<m)(i:m<=k+2)(h:D.natAbs<=2^20)(j:a<=300000)(g:∀E',PM.CL m k E E'->(E' k k).natAbs<=2^20) :
  ED m k a 20 (4*a+3) (7*a+6+273) (7*a+6+210) (PM.sB (PM.bE (7*a+6))) (PM.bE (7*a+6)) c E D:=by
 have n:=b.m7;have f:=PM.f2_end (7*a+6);exact⟨b,PM.Bv.end b d h i,by omega,d,by omega,λe l=>by unfold PM.sB PM.bE;split<;>omega,by unfold PM.bE;rw[jw (by omega)];exact aH _,aH _,by omega,g⟩
theorem Jd{k w:Nat}{q E:Mt}{D:Int}(b:PM.Bs m q D)(v:D.natAbs<=2^20)(M:m<=6)(n:k<m)(F:k=0->∀i j,i<m->j<m->(E i j).natAbs<=2^6)(h:PM.Pl m k (aK k) w q E)(z:w<=gK k) :
  ∃g d,YE [.lst (bL (m+m) E),.int (m:Int),.int (k:Int)]=aA (.lst (bL (m+m) g))/\d<=gK (k+1)/\PM.Pl m (k+1) (aK (k+1)) d q g:=by
 have kk:k=0\/k=1\/k=2\/k=3\/k=4\/k=5:=by omega
 have l:w<=31000000:=by rcases kk with r | r | r | r | r | r<;>subst r<;>exact aV z (by decide)
 have t:∀{a},PM.Pl m k a w q E->∀g,PM.CL m k E g->(g k k).natAbs<=2^20:=λ{a} h g c=>aV (h.small b n c λi H y=>h.ab i k H y (aH _) n).2 v;have c:(k+1=m)\/(k+2=m)\/(k+3<=m):=by omega
 rcases c with c | c | c
 ·have B:=IU b v c h;have P:=Mm b n (by omega) v (a:=20) (by omega) (t B)
  obtain⟨g,d,s,A,p⟩:=Q0 P B l (aK (k+1)) λe _=>by
   have:PM.bE (7*20+6) e<=210:=by unfold PM.bE;split<;>omega
   refine aV this ?_;rcases kk with r | r | r | r | r | r<;>subst r<;>decide
  have f:=PM.f2_end (7*20+6);refine⟨g,d,s,?_,p⟩;have:gK k+50000<=gK (k+1):=by rcases kk with r | r | r | r | r | r<;>subst r<;>decide
  omega
 ·have J:aK k<=254000/\7*aK k+6<=aK (k+1)/\210<=aK (k+1)/\gK k+25*aK k+24000<=gK (k+1):=by
   have kk:k=0\/k=1\/k=2\/k=3\/k=4:=by omega
   rcases kk with r | r | r | r | r<;>subst r<;>decide
  have P:=Mm b n (by omega) v (a:=aK k) (by omega) (t h);obtain⟨g,d,s,A,p⟩:=Q0 P h l (aK (k+1)) λe _=>by unfold PM.bE;split<;>omega
  have f:=PM.f2_end (7*aK k+6);exact⟨g,d,s,by omega,p⟩
 ·have u:∀o,o<=20->7*aK k+6+PM.ad o<=aK (k+1)->4*aK k+3+3*(aK (k+1)+63)+2*aK (k+1)+o*(4*(aK (k+1)+63)+1)<=28500000->gK k+(4*aK k+3)+2*(aK (k+1)+63)+o*(4*(aK (k+1)+63)+1)<=gK (k+1)->(∀g,PM.CL m k E g->(g k k).natAbs<=2^o)->∃g d,YE [.lst (bL (m+m) E),.int (m:Int),.int (k:Int)]=aA (.lst (bL (m+m) g))/\d<=gK (k+1)/\PM.Pl m (k+1) (aK (k+1)) d q g:=λo x I C L G=>by obtain⟨P,f⟩:=IV b n x I C G;obtain⟨g,d,s,A,p⟩:=Q0 P h l (aK (k+1)) λe x=>(P.b8 e x).1;exact⟨g,d,s,by omega,p⟩
  have kk:k=0\/k=1\/k=2\/k=3:=by omega
  rcases kk with r | r | r | r
  ·subst r;exact u 6 (by omega) (by decide) (by decide) (by decide) λg c=>(h.small b n c λi _ y=>F rfl i 0 y n).1
  ·subst r;exact u 20 (by omega) (by decide) (by decide) (by decide) (t h)
  ·subst r;exact u 20 (by omega) (by decide) (by decide) (by decide) (t h)
  ·subst r;exact u 20 (by omega) (by decide) (by decide) (by decide) (t h)
end
section
variable {m:Nat} {A B:Mt} {u v:Nat->Int}
theorem EH{i j:Nat}(b:i<m)(c:j<m){f g h:XE}{s:Zy}(q:f s=aA (wP (Xq m m B)))(d:g s=aA (.int (i:Int)))(a:h s=aA (.int (j:Int))):Zj ZX (Zj ZX f g) h s=aA (.int (B i j)):=o2 (o2 q d (X0 (SW b))) a (Nv c)
theorem U1{j:Nat}(d:m<=50)(c:j<m)(b:∀k,k<m->CMulW (u k) (B k j)):YV [pP (ZQ m u),wP (Xq m m B),.int (j:Int)]=aA (.int (sN m λk=>u k*B k j)):=by
 refine Yy (ret (vP (c1 (Xb (q:=λi=>.tup [.int ((i:Nat):Int),.int (u i)]) (λk=>u k*B k j) ?_ (by omega) λi a=>⟨_,rfl,vC (C:=CMulW) (op:=(· * ·)) rfl (EH a c rfl rfl rfl) (b i a)⟩) ?_)))
 ·show aA (Wx (iL (ZQ m u)))=_;rw[Fj,ZM];congr 1;refine bN λi a=>?_;rw[Wh (aY.mp a)]
 ·rw[O2];congr 2;exact Y9 _ _
theorem Q1(d:m<=50)(b:∀k j,k<m->j<m->CMulW (u k) (B k j)):WC [pP (ZQ m u),wP (Xq m m B)]=aA (pP (ZQ m λj=>sN m λk=>u k*B k j)):=
 Yy (ret (FH (c1 (W4 (λj=>sN m λk=>u k*B k j) (ZZ (n:=m) (c1 rfl (by rw[Kg,aQ,ZM])) (by omega)) (by omega) λj a=>⟨_,rfl,rfl,c3 rfl rfl rfl (U1 d a λk c=>b k j c a)⟩) (Xk _))))
theorem Oi{M:List (List Int)}{f:XE}{s:Zy}(q:f s=aA (.lst (tL M))):eP (Zc ZY [f]) s=aA (wP M):=ep (c1 q (Xk _)) (by rw[WV];exact VV _)
theorem Vh(e:m<=50)(a:∀i k j,i<m->k<m->j<m->CMulW (A i k) (B k j)):Yk [wP (Xq m m A),wP (Xq m m B)]=aA (wP (Xq m m (PM.mul m A B))):=
 Yy (ret (Oi (W6 (w:=m) (PM.mul m A B) (q:=λi=>pP (ZQ m (A i))) (by show aA (tL (Xq m m A))=_;rw[SU]) (by omega) λi c=>⟨_,rfl,c2 rfl rfl (Q1 e λk j b d=>a i k j c b d)⟩)))
theorem S2(b:m<=100)(c:∀j,j<m->Sl (u j) (v j)):WZ [pP (ZQ m u),pP (ZQ m v)]=aA (pP (ZQ m λj=>(u j).fdiv (v j))):=
 Yy (ret (FH (c1 (Xb (q:=λj=>.tup [.int (u j),.int (v j)]) (λj=>(u j).fdiv (v j)) (by show aA (W9 (iL (ZQ m u)) (iL (ZQ m v)))=_;rw[K5]) b λj a=>⟨_,rfl,vC (C:=Sl) (op:=jb) rfl rfl (c j a)⟩) (Xk _))))
theorem Q2{W:List (List Int)}(ok:Yz W)(a:W.length=m+1):WB [wP W]=aA (wP (Xq m m (ZC W 0))):=by have h:=Ub ok (b:=0) ok.pos;rw[show W.length-1=m by omega] at h;exact Yy (ret (c2 rfl rfl h))
theorem IW{l:List PV}{k:Nat}(a:k<=l.length):XA l none (aA (k:Int))=l.take k:=by unfold XA;rw[HT.sIx_none,HT.sIx_nat,fj,gh,dF a]
theorem IX{l:List PV}{k:Nat}(a:k<=l.length):XA l (aA (k:Int)) none=l.drop k:=by unfold XA;rw[HT.sIx_none,HT.sIx_nat,dF a,bX (by rw[cv];omega)]
theorem IY:(ZQ (m+m) u).take m=ZQ m u:=by have:=TB (w:=m+m) (v:=u) (a:=0) (b:=m) (by omega) (by omega);rw[fj,gh] at this;rw[this];unfold ZQ;refine bN λi _=>?_;rw[Nat.zero_add]
theorem IZ:(ZQ (m+m) u).drop m=ZQ m λj=>u (m+j):=by have:=TB (w:=m+m) (v:=u) (a:=m) (b:=m+m) (by omega) (by omega);rw[bX (by rw[cv,ZM];omega),show m+m-m=m by omega] at this;exact this
theorem Fz{x:Int}(b:1<=m)(a:m<=100):PH (.tup [.int x]) (.int (m:Int))=aA (pP (ZQ m λ_=>x)):=by
 unfold PH;simp only[];rw[jw (by refine⟨rfl,by simp,by omega,by omega,by simp;omega⟩)];congr 2;apply cO;intro i;unfold ZQ;by_cases h:i<m
 ·simp[h]
 ·simp[h]
end
abbrev Vi(m:Nat)(E:Mt):Mt:=λi j=>E i (m+j)
abbrev Q3(m:Nat)(E:Mt):Mt:=λi j=>E (m+i) j
abbrev Ha(W:List (List Int))(m:Nat)(E:Mt):List (List Int):=Xq m m λi j=>(PM.mul m (ZC W 0) (Q3 m E) i j).fdiv (E j j)
abbrev Hb(W:List (List Int))(m:Nat)(E:Mt):List (List Int):=Xq m m λi j=>(PM.mul m (Vi m E) (ZC W 0) i j).fdiv (E i i)
theorem Je{W:List (List Int)}{m:Nat}(ok:Yz W)(F:SK W)(O:W.length<=7)(M:(Ve W).length<=28)(D:W.length=m+1) :
  ∃E c,W0 [wP W]=aA (.tup [wP (Xq m m (Vi m E)),wP (Ha W m E),wP (Xq m m (Q3 m E)),wP (Hb W m E),pP (ZQ m λi=>E i i)])/\PM.Cr m m (ZC W 0) E/\c<=43000000/\(∀i j,i<m->j<m->(E i (m+j)).natAbs<=2^c)/\(∀i j,i<m->j<m->(E (m+i) j).natAbs<=2^c)/\(∀i,i<m->E i i∣ZU m (ZC W 0)):=by
 have P:m<=6:=by omega
 have bs:=Fy ok F O D;have H:=Cq ok F D O M;have f:=EF ok F D M
 suffices g:Yv N7 (ZG 10 [wP W]) λv=>∃E c,v = .tup [wP (Xq m m (Vi m E)),wP (Ha W m E),wP (Xq m m (Q3 m E)),wP (Hb W m E),pP (ZQ m λi=>E i i)]/\PM.Cr m m (ZC W 0) E/\c<=43000000/\(∀i j,i<m->j<m->(E i (m+j)).natAbs<=2^c)/\(∀i j,i<m->j<m->(E (m+i) j).natAbs<=2^c)/\(∀i,i<m->E i i∣ZU m (ZC W 0)) by obtain⟨v,e,E,c,rfl,r⟩:=SR g;exact⟨E,c,e,r⟩
 refine Z9 (Zw (c1 rfl (Q2 ok D))) (Z9 (Zw (vP (c1 rfl (by rw[RY,Tx])))) (Z9 (Zw (c1 rfl (Og (by omega)))) (U7 (HC (n:=m) (λk s=>∃E c y,s=[aA (wP W),aA (wP (Xq m m (ZC W 0))),aA (.int (m:Int)),aA (.lst (bL (m+m) E)),y,none,none,none,none,none]/\c<=gK k/\(k=0->∀i j,i<m->j<m->(E i j).natAbs<=2^6)/\PM.Pl m k (aK k) c (ZC W 0) E) rfl ⟨E0 m (ZC W 0),0,none,rfl,bz _,λ_ i j b d=>?_,?_⟩ ?_) ?_)))
 ·rw[show E0 m (ZC W 0) i j=ZC W 0 i j by unfold E0;rw[jw b,jw d]];exact aV (f i j b d) (by decide)
 ·exact Co P λi j b d=>aV (f i j b d) (by decide)
 ·rintro k s t ⟨E,c,y,rfl,u,S,h⟩;obtain⟨Z,I,e,l,p⟩:=Jd bs H P t S h u;exact Lf (Zw (c3 rfl rfl rfl e)) ⟨Z,I,_,rfl,l,λz=>absurd z (by omega),p⟩
 ·rintro s ⟨E,c,y,rfl,u,_,h⟩
  have C:c<=43000000:=aV u (by
   have kk:m=0\/m=1\/m=2\/m=3\/m=4\/m=5\/m=6:=by omega
   rcases kk with r | r | r | r | r | r | r<;>subst r<;>decide)
  have J:∀i,i<m->E i i∣ZU m (ZC W 0):=λi b=>by
   obtain⟨Z0,T⟩:=bs.z;refine h.cr.adm.div T b λx X=>?_;by_cases q:x=i
   ·rw[q];exact eu _
   ·rw[(h.cr.d1 i x b X q).2];exact cC _
  have dl:∀i,i<m->E i i≠0/\(E i i).natAbs.log2<9000:=λi b=>by have h1:=h.cr.d2 i b;have h2:=eD (by have:=bs.nz;omega) (cA.mpr (J i b));refine⟨by omega,?_⟩;have:=K6 (x:=E i i) (G:=21) (by omega) (by omega);omega
  have L:∀{i j G},6<=G->i<m->j<m->(ZC W 0 i j).natAbs<2^G:=λ{i j G} U b d=>aZ (show _<2^6 by have:=f i j b d;omega) (PM.pw2 U);have Q:∀i j,i<m->j<m->(E (m+i) j).natAbs<2^(c+6):=λi j b d=>bA (h.rb i j b d) (cE (by omega) (by omega));have R:∀i j,i<m->j<m->(E i (m+j)).natAbs<2^(c+6):=λi j b d=>bA (h.lb i j b d) (cE (by omega) (by omega));have e8:=Vh (m:=m) (A:=ZC W 0) (B:=Q3 m E) (by omega) λi k j b t d=>K7 (G:=c+6) (L (by omega) b t) (Q k j t d) (by omega) (by omega);have Y:=Vh (m:=m) (A:=Vi m E) (B:=ZC W 0) (by omega) λi k j b t d=>K7 (G:=c+6) (R i k b t) (L (by omega) t d) (by omega) (by omega);have lst:bL (m+m) E=(aJ m).map (λi=>cR (m+m) (E i))++(aJ m).map λi=>cR (m+m) (E (m+i)):=by unfold bL;rw[jc,eH,cp];rfl
  refine Z9 (Zw (FH (c1 (W4 (λi=>E i i) (ZZ rfl (by omega)) (by omega) λi b=>⟨_,rfl,rfl,Ud (w:=m+m) (E:=E) (by omega) (by omega) rfl rfl rfl⟩) (Xk _)))) (Z9 (Zw (Oi (W6 (w:=m) (Vi m E) (q:=λi=>cR (m+m) (E i)) ?_ (by omega) λi b=>⟨_,rfl,c1 (a:=.lst (iL (ZQ m λj=>E i (m+j)))) ?_ (Xk _)⟩))) (Z9 (Zw (Oi (W6 (w:=m) (Q3 m E) (q:=λi=>cR (m+m) (E (m+i))) ?_ (by omega) λi b=>⟨_,rfl,c1 (a:=.lst (iL (ZQ m (E (m+i))))) ?_ (Xk _)⟩))) (Z9 (Zw (Oi (W6 (m:=m) (w:=m) (λi j=>(PM.mul m (ZC W 0) (Q3 m E) i j).fdiv (E j j)) (q:=λi=>pP (ZQ m (PM.mul m (ZC W 0) (Q3 m E) i))) ?_ (by omega) λi b=>⟨_,rfl,c2 rfl rfl (S2 (by omega) λj d=>dl j d)⟩))) (Z9 (Zw (Oi (W6 (m:=m) (w:=m) (λi j=>(PM.mul m (Vi m E) (ZC W 0) i j).fdiv (E i i)) (q:=λi=>.tup [pP (ZQ m (PM.mul m (Vi m E) (ZC W 0) i)),.int (E i i)]) ?_ (by omega) λi b=>⟨_,rfl,c2 rfl (o2 (a:=.tup [.int (E i i)]) rfl rfl (Fz (by omega) (by omega))) (S2 (by omega) λj d=>dl i b)⟩))) (Wg (ep rfl ?_) ⟨E,c,rfl,h.cr,C,h.lb,h.rb,J⟩)))))
  ·show(Rc VP (Za 3) OU (U5 (Za 2)) _).bind _=_;rw[X7];show(aA (PV.lst (XA (bL (m+m) E) none (aA (m:Int))))).bind _=_;rw[IW (by rw[Vz];omega),lst,List.take_left' (by simp)];rfl
  ·rw[X7];show aA (PV.lst (XA (iL (ZQ (m+m) (E i))) (aA (m:Int)) none))=_;rw[KP,IZ]
  ·show(Rc VP (Za 3) (U5 (Za 2)) OU _).bind _=_;rw[X7];show(aA (PV.lst (XA (bL (m+m) E) (aA (m:Int)) none))).bind _=_;rw[IX (by rw[Vz];omega),lst,List.drop_left' (by simp)];rfl
  ·rw[X7];show aA (PV.lst (XA (iL (ZQ (m+m) (E (m+i)))) none (aA (m:Int))))=_;rw[KO,IY]
  ·have:Zc Yk [Za 1,Za 7] [aA (wP W),aA (wP (Xq m m (ZC W 0))),aA (.int (m:Int)),aA (.lst (bL (m+m) E)),y,aA (pP (ZQ m λi=>E i i)),aA (wP (Xq m m (Vi m E))),aA (wP (Xq m m (Q3 m E))),none,none]=aA (wP (Xq m m (PM.mul m (ZC W 0) (Q3 m E)))):=c2 rfl rfl e8;refine(Sg this).trans ?_;show aA (tL (Xq m m _))=_;rw[SU]
  ·have:∀N,Zc Yk [Za 6,Za 1] [aA (wP W),aA (wP (Xq m m (ZC W 0))),aA (.int (m:Int)),aA (.lst (bL (m+m) E)),y,aA (pP (ZQ m λi=>E i i)),aA (wP (Xq m m (Vi m E))),aA (wP (Xq m m (Q3 m E))),N,none]=aA (wP (Xq m m (PM.mul m (Vi m E) (ZC W 0)))):=λN=>c2 rfl rfl Y;rw[Sf];refine(congrArg (λo=>jW o _) (this _)).trans ?_;show aA (W9 (tL (Xq m m (PM.mul m (Vi m E) (ZC W 0)))) (iL (ZQ m λi=>E i i)))=_;rw[Xl _ _ (by rw[SV];simp[ZM]),SV];congr 1;refine bN λi b=>?_;have b:=aY.mp b;rw[aM,SW b,Y8 _ i (by rw[ZM];exact b),Wh b];rfl
  ·rw[WV];simp only[Zv,WV,VV,Yd,Bool.and_self]
section
variable {m:Nat} {u v:Nat->Int} {L:Mt}
theorem Lj{l:List Int}(d:l.length=m)(e:m<=50)(b:∀j,j<m->CMulW (u j) (Yq l j)):Su [pP (ZQ m u),pP l]=aA (.int (sN m λj=>u j*Yq l j)):=by
 refine Yy (ret (vP (c1 (Xb (q:=λj=>.tup [.int (u j),.int (Yq l j)]) (λj=>u j*Yq l j) ?_ (by omega) λj c=>⟨_,rfl,vC (C:=CMulW) (op:=(· * ·)) rfl rfl (b j c)⟩) ?_)))
 ·show aA (W9 (iL (ZQ m u)) (iL l))=_;rw[Xl _ _ (by simp[ZM,d]),aQ,ZM];congr 1;refine bN λi a=>?_;have a:=aY.mp a;rw[Y8 _ i (by rw[ZM];exact a),Y8 _ i (by omega),Wh a]
 ·rw[O2];congr 2;exact Y9 _ _
abbrev NF(m:Nat)(L:Mt)(bk:List (List Int))(R:Mt)(fo:List (List Int))(r:Nat->Int):PV:=.tup [wP (Xq m m L),wP bk,wP (Xq m m R),wP fo,pP (ZQ m r)]
theorem EI{l:List Int}(h:1<=l.length){f:XE}{s:Zy}(q:f s=aA (pP l)):Rc Qs f (U5 (eC (.int 1))) OU s=aA (pP (l.drop 1)):=by rw[X7,q];simp only[a0,NZ];show Qs (pP l) (aA ((1:Nat):Int)) none=_;unfold Qs;simp only[];rw[jx,KP];rw[HT.sIx_none,HT.sIx_nat,aQ];omega
noncomputable def Mo(m:Nat)(L:Mt)(D:List Int)(i:Nat):Int:=sN m λj=>L i j*Yq D (j+1)
theorem Jf{R:Mt}{bk fo:List (List Int)}{D:List Int}(f:m<=50)(h:D.length=m+1)(d:∀i j,i<m->j<m->CMulW (L i j) (Yq D (j+1)))(g:∀i,i<m->1<=v i):QF [NF m L bk R fo v,pP D]=aA (pP (ZQ m λi=>Mo m L D i%v i)):=by
 have c:∀j,Yq (D.drop 1) j=Yq D (j+1):=λj=>by unfold Yq;rw[aM,dR,aM,Nat.add_comm]
 refine Yy (sq (Zw (ep (v:=wP (Xq m m L)) rfl (by rw[WV];exact VV _))) (ret (FH (c1 (Xb (q:=λi=>.tup [pP (ZQ m (L i)),.int (v i)]) (λi=>Mo m L D i%v i) ?_ (by omega) λi b=>⟨_,rfl,vC (C:=λ_ j=>0<j) (op:=(· % ·)) (a:=Mo m L D i) (c2 rfl (EI (by omega) rfl) ?_) rfl (by have:=g i b;omega)⟩) (Xk _)))))
 ·rw[Sf];show aA (W9 (tL (Xq m m L)) (iL (ZQ m v)))=_;rw[Xl _ _ (by rw[SV];simp[ZM]),SV];congr 1;refine bN λi b=>?_;have b:=aY.mp b;rw[aM,SW b,Y8 _ i (by rw[ZM];exact b),Wh b];rfl
 ·rw[Lj (l:=D.drop 1) (by rw[cv];omega) f λj e=>by rw[c];exact d i j b e];unfold Mo;rw[Zh λj _=>by rw[c]]
end
end PW
namespace PW
open L2 VL
noncomputable def Ug(n:Nat)(M:List (List Int)):Int:=sN n λi=>sN n (ent M i)
theorem Lk(n:Nat):Ug n (aT n (aT n (0:Int)))=0:=We λi a=>We λj b=>by simp[ent,Zx,Yq,a,b]
theorem R5{n a b:Nat}{c:Int}(d:a<n)(g:b<n):(sN n λi=>sN n λj=>if i=a/\j=b then c else 0)=c:=by rw[Z3 d λi _ e=>We λj _=>jx λz=>e z.1,Z3 g λj _ f=>jx λz=>f z.2,jw ⟨rfl,rfl⟩]
theorem Mp{n:Nat}{M:List (List Int)}{a b:Nat}{t:Int}(ok:MatOk n M)(c:a<n)(d:b<n)(f:a≠b):Ug n (SO M a b t)=Ug n M+2*(t-ent M a b):=by
 have e:Ug n (SO M a b t)=sN n λi=>sN n λj=>(ent M i j+if i=a/\j=b then t-ent M a b else 0)+if i=b/\j=a then t-ent M a b else 0:=Zh λi k=>Zh λj h=>by
  rw[Tw ok c d];have s:=ok.sym a b c d;by_cases p:b=i/\a=j
  ·obtain⟨rfl,rfl⟩:=p;rw[jw ⟨rfl,rfl⟩,jx λz=>f z.1.symm,jw ⟨rfl,rfl⟩];omega
  ·rw[jx p,jx (show ¬(i=b/\j=a) from λz=>p ⟨z.1.symm,z.2.symm⟩)];by_cases p2:a=i/\b=j
   ·obtain⟨rfl,rfl⟩:=p2;rw[jw ⟨rfl,rfl⟩,jw ⟨rfl,rfl⟩];omega
   ·rw[jx p2,jx (show ¬(i=a/\j=b) from λz=>p2 ⟨z.1.symm,z.2.symm⟩)];omega
 rw[e]
 have g:(sN n λi=>sN n λj=>(ent M i j+if i=a/\j=b then t-ent M a b else 0)+if i=b/\j=a then t-ent M a b else 0)=(Ug n M+sN n λi=>sN n λj=>if i=a/\j=b then t-ent M a b else 0)+sN n λi=>sN n λj=>if i=b/\j=a then t-ent M a b else 0:=by
  unfold Ug;rw[<-Yg,<-Yg];exact Zh λi _=>by rw[<-Yg,<-Yg]
 rw[g,R5 c d,R5 d c];omega
theorem DL{c:List Int}{mo n:Nat}{M:List (List Int)}{sp:List Int}{x7 x8 x9:Option PV}{k:Nat}(h:c.length<=63)(R:n<=7)(C:1<=k)(o:k<n)(f:NamesOk n sp)(ok:MatOk n M)(N:Grown M sp k) :
  ∃M' y7,MatOk n M'/\Grown M' sp (k+1)/\Ug n M'<=Ug n M+6/\EZ (Xm c mo n M sp (aA (.int (k:Int))) x7 x8 x9)=aA (.nx (Xm c mo n M' sp (aA (.int (k:Int))) y7 x8 x9)):=by
 obtain⟨v,I,H⟩:=Xa (Z5 c k) (t:=1) (m:=k) (by omega) (by omega);obtain⟨w,O,F⟩:=Xa (Z5 c k) (t:=2) (m:=3) (by omega) (by omega);have G:=Xg h (k:=k) (by omega);have P:=f.at (x:=k) o;have T:=f.at (x:=v) (by omega);have ne:=f.ne (x:=k) (y:=v) o (by omega) (by omega);obtain⟨a,ea⟩:∃a:Nat,Yq sp k=(a:Int):=⟨(Yq sp k).toNat,by omega⟩;obtain⟨b,B⟩:∃b:Nat,Yq sp v=(b:Int):=⟨(Yq sp v).toNat,by omega⟩;have e:a<n:=by omega
 have d:b<n:=by omega
 have D:=P8 (k:=1+(w:Int)) ok e d;have lo:=ok.lo a b e d;generalize s:(if ent M a b+(1+(w:Int))<9 then ent M a b+(1+(w:Int)) else 9)=t at D;have z:0<t/\t<=9:=by rw[<-s];split<;>omega
 have S:t<=ent M a b+3:=by rw[<-s];have:=ok.hi a b e d;split<;>omega
 have r:a≠b:=by omega
 have Q:=Mp (t:=t) ok e d r;have u:=WA (l:=sp) (k:=k) (by rw[f.len];exact o);have A:=WA (l:=sp) (k:=v) (by rw[f.len];omega);rw[ea] at u;rw[B] at A;obtain⟨E,J⟩:=Me ok e d z.1;refine⟨SO M a b t,aA (.int (Z5 c k)),KS ok e d (by omega) (by omega) z.2,λj C U=>?_,?_,?_⟩
 ·by_cases q:j<k
  ·exact(N.mono E) j C q
  ·have:j=k:=by omega
   subst this;exact⟨v,I,by rw[ea,B];exact J⟩
 ·omega
 ·have L:ZA 7 (Zc ZP [Za 0,Za 6]) (Xm c mo n M sp (aA (.int (k:Int))) x7 x8 x9)=aA (.nx (Xm c mo n M sp (aA (.int (k:Int))) (aA (.int (Z5 c k))) x8 x9)):=by simp[Xm,G]
  unfold EZ;rw[Xp L,Md (i:=4) (l0:=.lst (rL M)) (ls:=[.int (a:Int),.int (b:Int),.int (1+(w:Int))]) rfl ?_ rfl D]
  ·rfl
  ·have g:Zq [PV.int (Z5 c k),PV.int 1,PV.int (k:Int)]=aA (.int (v:Int)):=H;have p:Zq [PV.int (Z5 c k),PV.int 2,PV.int 3]=aA (.int (w:Int)):=F;simp[Xm,u,A,g,p]
theorem DM{e:List Int}{mo n:Nat}{M:List (List Int)}{sp:List Int}{x7 x8 x9:Option PV}{i:Nat}(p:e.length<=63)(O:n<=7)(Q:2<=n)(R:i<6)(ok:MatOk n M) :
  ∃M' y7 y8 y9,MatOk n M'/\(∀i j,0<ent M i j->0<ent M' i j)/\Ug n M'<=Ug n M+4/\E4 (Xm e mo n M sp (aA (.int (i:Int))) x7 x8 x9)=aA (.nx (Xm e mo n M' sp (aA (.int (i:Int))) y7 y8 y9)):=by
 generalize E:Z5 e (7+i)=c;obtain⟨a,g,ea⟩:=Xa c (t:=4) (m:=n) (by omega) (by omega);obtain⟨d,L,x⟩:=Xa c (t:=5) (m:=n-1) (by omega) (by omega);obtain⟨w,J,C⟩:=Xa c (t:=6) (m:=2) (by omega) (by omega);have s:=Xg p (k:=7+i) (by omega);rw[E] at s
 obtain⟨b,f,h,F⟩:∃b:Nat,b<n/\a≠b/\((a:Int)+1+(d:Int))%(n:Int)=(b:Int):=by
  refine⟨(a+1+d)%n,ij _ (by omega),?_,?_⟩
  ·by_cases q:a+1+d<n
   ·rw[jP q];omega
   ·rw[Nat.mod_eq_sub_mod (by omega),jP (by omega)];omega
  ·have:((a:Int)+1+(d:Int))=((a+1+d:Nat):Int):=by omega
   rw[this];exact(Int.natCast_emod _ _).symm
 have z:=P8 (k:=1+(w:Int)) ok g f;have lo:=ok.lo a b g f;generalize v:(if ent M a b+(1+(w:Int))<9 then ent M a b+(1+(w:Int)) else 9)=t at z;have y:0<t/\t<=9:=by rw[<-v];split<;>omega
 have P:t<=ent M a b+2:=by rw[<-v];have:=ok.hi a b g f;split<;>omega
 have N:=Mp (t:=t) ok g f h;obtain⟨B,S⟩:=Me ok g f y.1;refine⟨SO M a b t,aA (.int c),aA (.int (a:Int)),aA (.int (b:Int)),KS ok g f h (by omega) y.2,B,by omega,?_⟩;have H:((7+i:Nat):Int)=7+(i:Int):=by omega
 rw[H] at s;have I:ZA 7 (Zc ZP [Za 0,Zj Yc (eC (.int 7)) (Za 6)]) (Xm e mo n M sp (aA (.int (i:Int))) x7 x8 x9)=aA (.nx (Xm e mo n M sp (aA (.int (i:Int))) (aA (.int c)) x8 x9)):=by simp[Xm,s]
 have l:Zq [PV.int c,PV.int 4,PV.int (n:Int)]=aA (.int (a:Int)):=ea;have A:ZA 8 (Zc Zq [Za 7,eC (.int 4),Za 3]) (Xm e mo n M sp (aA (.int (i:Int))) (aA (.int c)) x8 x9)=aA (.nx (Xm e mo n M sp (aA (.int (i:Int))) (aA (.int c)) (aA (.int (a:Int))) x9)):=by simp[Xm,l]
 have o:((n-1:Nat):Int)=(n:Int)-1:=by omega
 rw[o] at x;have r:Zq [PV.int c,PV.int 5,PV.int ((n:Int)-1)]=aA (.int (d:Int)):=x;have G:0<n:=by omega
 have D:ZA 9 (eP (Zj YU (Zj Yc (Zj Yc (Za 8) (eC (.int 1))) (Zc Zq [Za 7,eC (.int 5),Zj Tg (Za 3) (eC (.int 1))])) (Za 3))) (Xm e mo n M sp (aA (.int (i:Int))) (aA (.int c)) (aA (.int (a:Int))) x9)=aA (.nx (Xm e mo n M sp (aA (.int (i:Int))) (aA (.int c)) (aA (.int (a:Int))) (aA (.int (b:Int))))):=by simp[Xm,r,G,F]
 have u:Zq [PV.int c,PV.int 6,PV.int 2]=aA (.int (w:Int)):=C;unfold E4;rw[Xp I,Xp A,Xp D,Md (i:=4) (l0:=.lst (rL M)) (ls:=[.int (a:Int),.int (b:Int),.int (1+(w:Int))]) rfl ?_ rfl z]
 ·rfl
 ·simp[Xm,u]
theorem NG{a:List Int}(w:a.length<=63){mo:Nat}(h1:1<=mo)(h7:mo<=7):∃W,QC [.cst (iL a),.int (mo:Int)]=aA (wP W)/\Yz W/\SK W/\W.length<=mo/\(Ve W).length<=28:=by
 obtain⟨p0,hp0,O⟩:=Xa (Z5 a 0) (t:=0) (m:=mo) (by omega) (by omega);have F:Zq [PV.int (Z5 a 0),PV.int 0,PV.int (mo:Int)]=aA (.int (p0:Int)):=O;have ec0:=Xg w (k:=0) (by omega);have H:ZP [PV.cst (iL a),PV.int 0]=aA (.int (Z5 a 0)):=ec0;obtain⟨n,hn⟩:∃n:Nat,n=1+p0:=⟨_,rfl⟩;have S:(1:Int)+(p0:Int)=(n:Int):=by omega
 let Z:=aT n (aT n (0:Int));have e1:ZA 2 (Zc ZP [Za 0,eC (.int 0)]) [aA (.cst (iL a)),aA (.int (mo:Int)),none,none,none,none,none,none,none,none]=aA (.nx [aA (.cst (iL a)),aA (.int (mo:Int)),aA (.int (Z5 a 0)),none,none,none,none,none,none,none]):=by simp[H]
 have e2:ZA 3 (eP (Zj Yc (eC (.int 1)) (Zc Zq [Za 2,eC (.int 0),Za 1]))) [aA (.cst (iL a)),aA (.int (mo:Int)),aA (.int (Z5 a 0)),none,none,none,none,none,none,none]=aA (.nx [aA (.cst (iL a)),aA (.int (mo:Int)),aA (.int (Z5 a 0)),aA (.int (n:Int)),none,none,none,none,none,none]):=by simp[F,S]
 have e3:ZA 4 (Zs 1 [3] (ZW [Za 3]) (.one 0) ZH (Zj Pz (Qm [eC (.int 0)]) (Za 1))) [aA (.cst (iL a)),aA (.int (mo:Int)),aA (.int (Z5 a 0)),aA (.int (n:Int)),none,none,none,none,none,none]=aA (.nx [aA (.cst (iL a)),aA (.int (mo:Int)),aA (.int (Z5 a 0)),aA (.int (n:Int)),aA (.lst (rL Z)),none,none,none,none,none]):=by rw[PD,Lc (n:=n) rfl (by omega)];rfl
 have e4:ZA 5 (Qm []) [aA (.cst (iL a)),aA (.int (mo:Int)),aA (.int (Z5 a 0)),aA (.int (n:Int)),aA (.lst (rL Z)),none,none,none,none,none]=aA (.nx (Xm a mo n Z [] none none none none)):=by simp[Xm]
 -- the houses' order
 obtain⟨s5,f5,sp,B,hs5,E⟩:=XW (T:=.one 6) (fb:=EY) (ls:=Uu n) (s:=Xm a mo n Z [] none none none none)
  (λi st=>∃sp B,st=Xm a mo n Z sp B none none none/\NamesOk i sp) ⟨[],none,rfl,NamesOk.nil⟩ (by
   rintro i l st G ⟨sp,B,rfl,E⟩;obtain⟨J,rfl⟩:=V0 G;obtain⟨sp',Q,e⟩:=Fh (mo:=mo) (n:=n) (M:=Z) (x7:=none) (x8:=none) (x9:=none) w (by omega) E;exact⟨_,_,rfl,e,sp',_,rfl,Q⟩)
 subst hs5;rw[Se] at E;have e5:Y7 [4,5] (ZW [Za 3]) (.one 6) EY (Xm a mo n Z [] none none none none)=aA (.nx (Xm a mo n Z sp B none none none)):=by show(ZW [Za 3] (Yn [4,5] (Xm a mo n Z [] none none none none))).bind _=_;rw[ZZ (n:=n) (by simp[Xm,Yn]) (by omega)];exact f5
 -- each to one ahead
 obtain⟨s6,f6,M,o,h,hs6,z,L,sm⟩:=XW (T:=.one 6) (fb:=EZ) (ls:=Vn 1 (n-1)) (s:=Xm a mo n Z sp B none none none)
  (λi st=>∃M o h,st=Xm a mo n M sp o h none none/\MatOk n M/\Grown M sp (i+1)/\Ug n M<=6*(i:Int)) ⟨Z,B,none,rfl,MatOk.zero n,λj h1 h2=>by omega,by rw[Lk];omega⟩ (by
   rintro i l st G ⟨M,o,h,rfl,z,L,sm⟩;obtain⟨J,rfl⟩:=Ki G;have hk:(1:Int)+(i:Int)=((i+1:Nat):Int):=by omega
   rw[hk];obtain⟨d,p,b,f,x,e⟩:=DL (mo:=mo) (x7:=h) (x8:=none) (x9:=none) (k:=i+1) w (by omega) (by omega) (by omega) E z L;exact⟨_,_,rfl,e,d,_,p,rfl,b,f,by omega⟩)
 subst hs6;rw[Kj] at L sm
 have e6:Y7 [4,5] (Ww [eC (.int 1),Za 3]) (.one 6) EZ (Xm a mo n Z sp B none none none)=aA (.nx (Xm a mo n M sp o h none none)):=by
  show(Ww [eC (.int 1),Za 3] (Yn [4,5] (Xm a mo n Z sp B none none none))).bind _=_;rw[Uz (i:=1) (j:=(n:Int)) rfl (by simp[Xm,Yn]) (by omega) (by omega)];have:((n:Int)-1).toNat=n-1:=by omega
  rw[this];exact f6
 have C:Grown M sp n:=λj h1 h2=>L j h1 (by omega)
 -- more ties
 obtain⟨Y,hp3,U⟩:=Xa (Z5 a 0) (t:=3) (m:=6) (by omega) (by omega);have D:Zq [PV.int (Z5 a 0),PV.int 3,PV.int 6]=aA (.int (Y:Int)):=U
 have N:∃d A p u y,MatOk n d/\Grown d sp n/\Ug n d<=56/\RL (xB (Zj Ll (Za 3) (eC (.int 1)))) (Y7 [4,5] (ZW [Zc Zq [Za 2,eC (.int 3),eC (.int 6)]]) (.one 6) E4) YC (Xm a mo n M sp o h none none)=aA (.nx (Xm a mo n d sp A p u y)):=by
  by_cases q:1<n
  ·obtain⟨s7,f7,d,A,p,u,y,R,b,f,x⟩:=XW (T:=.one 6) (fb:=E4) (ls:=Uu Y) (s:=Xm a mo n M sp o h none none)
    (λi st=>∃d A p u y,st=Xm a mo n d sp A p u y/\MatOk n d/\Grown d sp n/\Ug n d<=36+4*(i:Int)) ⟨M,o,h,none,none,rfl,z,C,by omega⟩ (by
     rintro i l st G ⟨d,A,p,u,y,rfl,b,f,x⟩;obtain⟨J,rfl⟩:=V0 G;obtain⟨M2,u7,u8,u9,P,g2,sm2,e⟩:=DM (mo:=mo) (sp:=sp) (x7:=p) (x8:=u) (x9:=y) (i:=i) w (by omega) (by omega) (by omega) b;exact⟨_,_,rfl,e,M2,_,u7,u8,u9,rfl,P,f.mono g2,by omega⟩)
   subst R;rw[Se] at x;refine⟨d,A,p,u,y,b,f,by omega,?_⟩
   have c:xB (Zj Ll (Za 3) (eC (.int 1))) (Xm a mo n M sp o h none none)=aA aC:=by
    have X:(1:Int)<(n:Int):=by omega
    simp[Xm,q,X]
   rw[YD,c];simp only[a0,if_true];show(ZW [Zc Zq [Za 2,eC (.int 3),eC (.int 6)]] (Yn [4,5] (Xm a mo n M sp o h none none))).bind _=_;rw[ZZ (n:=Y) (by simp[Xm,Yn,D]) (by omega)];exact f7
  ·refine⟨M,o,h,none,none,z,C,by omega,?_⟩
   have c:xB (Zj Ll (Za 3) (eC (.int 1))) (Xm a mo n M sp o h none none)=aA aB:=by
    have X:¬(1:Int)<(n:Int):=by omega
    simp[Xm,X]
   rw[YD,c];rfl
 obtain⟨d,A,p,u,y,b,f,x,N⟩:=N;refine⟨d,?_,b.web (by omega) (by omega),f.conn b.len E,by rw[b.len];omega,?_⟩
 ·have hc2:Zs 1 [] (Ut (Za 4)) (.one 0) ZH (Zc ZY [Za 0]) (Xm a mo n d sp A p u y)=aA (.lst (d.map pP)):=by rw[Z8 d (λr=>.lst (iL r)) pP (by simp[Xm,rL]) (by rw[b.len];omega) (λr _=>⟨_,rfl,rfl,by simp[ZO]⟩)]
  show YT 10 QB _=_;unfold QB;show(Zr _ _ [aA (.cst (iL a)),aA (.int (mo:Int)),none,none,none,none,none,none,none,none]).bind OY=_;rw[Xp e1,Xp e2,Xp e3,Xp e4,Xp e5,Xp e6,Xp N,Lb (v:=wP d)]
  ·rfl
  ·rw[O0,XU,ZL,hc2];simp
 ·have I:=b.web (by omega) (by omega);have t:=P5 I;rw[Y9,b.len,Zh (g:=λi=>sN n (ent d i)) λi J=>by rw[V9 I (by rw[b.len];exact J),Y9,b.len]] at t;have:Ug n d=2*((Ve d).length:Int):=t;omega
end PW
namespace PW
open PySem L2 VL VX
theorem DN{f:XE}{s:Zy}{v:PV}(q:f s=aA v):MJ [f] s=aA (.tup [v]):=by rw[Kb,ZL,q];rfl
section
variable {W:List (List Int)} {m:Nat}
theorem EJ{d:Type}{n:Nat}{ix:List Nat}{e:XL}{c:XE}{s:Zy}(ls:List d)(q:d->PV)(b:e s=aA (ls.map q))(k:ls.length<=100)(h:∀a∈ls,∃s1,YF (.one 0) (q a) (ZO n ix s)=aA s1/\c s1=aA (.bl aC)):Zc S8 [Zs n ix e (.one 0) ZH c] s=aA (.bl aC):=by refine c1 (a:=.lst ((ls.map λ_=>aC).map PV.bl)) ?_ (by rw[Kf];simp);rw[Z8 ls q (λ_=>.bl aC) b (by omega) (λi j=>by obtain⟨s1,g,f⟩:=h i j;exact⟨s1,g,rfl,f⟩),cp];rfl
theorem Oj{B:Mt}(a:m<=50):Vq [wP (Xq m m B),.int (m:Int)]=aA (.bl aC):=by refine Yy (ret (ep (dH (ea (p:=aC) (p2:=aC) rfl (dH (ea (p:=aC) (p2:=aC) (dH (Fi (c1 rfl (by rw[RY,Tx])) rfl) (by rw[decide_eq_true rfl])) (EJ (aJ m) (λi=>pP (ZQ m (B i))) ((Sg rfl).trans (by rw[<-SU];rfl)) (by simp;omega) λi _=>⟨_,rfl,c2 rfl rfl (SX (ZM _ _) (by omega))⟩)) rfl)) rfl)))
theorem Hd{L B R F:Mt}{v:Nat->Int}(a:m<=50):Sv [.tup [wP (Xq m m L),wP (Xq m m B),wP (Xq m m R),wP (Xq m m F),pP (ZQ m v)],.int (m:Int)]=aA (.bl aC):=by refine Yy (sq (E5 (dH (xo (p:=aB) (p2:=aB) (xn (xb (p:=aC) rfl)) (dH (xo (p:=aB) (p2:=aB) (xb (dH (o2 (c1 rfl (Kg _)) rfl (Uy aC _ _)) (by simp))) (xn (xb (c2 (o2 rfl rfl rfl) rfl (SX (ZM _ _) (by omega)))))) rfl)) rfl)) (ret (ep (EJ [L,B,R,F] (λX=>wP (Xq m m X)) rfl (show 4<=100 by omega) λX _=>⟨_,rfl,c2 rfl rfl (Oj a)⟩))))
theorem Jg{E:Mt}{c:Nat}(p:W.length=m+1)(n:W.length<=7)(eP:W0 [wP W]=aA (NF m (Vi m E) (Ha W m E) (Q3 m E) (Hb W m E) λi=>E i i))(e:PM.Cr m m (ZC W 0) E)(k:c<=43000000)(f:∀i j,i<m->j<m->(E i (m+j)).natAbs<=2^c){D:List Int}(o:D.length=W.length)(l:∀h,h<W.length->(Yq D h).natAbs<=2^200) :
  (∀i j,i<m->j<m->CMulW (E i (m+j)) (Yq D (j+1)))/\Vp [wP W,pP D]=aA (pP (D.sum::ZQ m λi=>Mo m (Vi m E) D i%E i i)):=by
 have d:∀i j,i<m->j<m->CMulW (E i (m+j)) (Yq D (j+1)):=λi j b g=>K7 (G:=c+202) (bA (f i j b g) (cE (by omega) (by omega))) (bA (l (j+1) (by omega)) (cE (by omega) (by omega))) (by omega) (by omega);refine⟨d,?_⟩;have r:=Jf (m:=m) (L:=Vi m E) (R:=Q3 m E) (bk:=Ha W m E) (fo:=Hb W m E) (v:=λi=>E i i) (D:=D) (by omega) (by omega) d (λi b=>e.d2 i b);refine Yy (ret (FH (o2 (a:=pP [D.sum]) (DN (c1 rfl (KG D))) (c2 (c1 rfl eP) rfl r) ?_)));rw[IB (by rw[List.length_singleton,ZM];omega)];rfl
end
theorem law_true(c:List Int)(e:c.length<=63)(D:∀n∈c,n.natAbs.log2<=1048576):D_law [.cst (iL c)]=aA (.bl aC):=by
 obtain⟨W,eW,ok,U,G,h8⟩:=NG e (mo:=7) (by omega) (by omega);have hp:=ok.pos;obtain⟨m,N⟩:∃m,W.length=m+1:=⟨W.length-1,by omega⟩;obtain⟨E,γ,eP,J,A,lb,rb,dg⟩:=Je ok U G h8 N;obtain⟨P,H⟩:∃P:List Int,P=UX c 13 W.length:=⟨_,rfl⟩;have S:P.length=W.length:=by rw[H,Ld]
 have eU:XX [.cst (iL c),.int ((13:Nat):Int),.int (W.length:Int)]=aA (pP P):=by rw[H];exact Nu e D (by omega) G
 have bP:∀h,h<W.length->(Yq P h).natAbs<=2^200:=λh Z=>by
  rw[H];unfold UX;rw[Vd Z];have:=Nt (Z5 c (13+h));have:(10:Nat)^29<=2^200:=by decide
  omega
 obtain⟨X,Y⟩:=Jg N G eP J A lb S bP;have u:=Hd (m:=m) (L:=Vi m E) (B:=λi j=>(PM.mul m (ZC W 0) (Q3 m E) i j).fdiv (E j j)) (R:=Q3 m E) (F:=λi j=>(PM.mul m (Vi m E) (ZC W 0) i j).fdiv (E i i)) (v:=λi=>E i i) (by omega);obtain⟨v7,Q,z⟩:=Xa (Z5 c 12) (t:=7) (m:=2) (by omega) (by omega);have I:=Xg e (k:=12) (by omega);have d:∀{f:XE}{s:Zy},f s=aA (wP W)->Zj Tg (Zc YH [f]) (eC (.int 1)) s=aA (.int (m:Int)):=λ{f s} q=>(Cm (c1 q RY) rfl).trans (by congr 2;omega);have dn:∀j,Yq (P.drop 1) j=Yq P (j+1):=λj=>by unfold Yq;rw[aM,dR,aM,Nat.add_comm]
 refine KU (Z9 (Zw (c2 rfl rfl eW)) (Z9 (Zw (c3 rfl rfl (c1 rfl RY) eU)) (Z9 (Zw (c1 rfl eP)) (Z9 (Zw (c2 rfl rfl Y)) (U7 (R:=λs=>s=[aA (.cst (iL c)),aA (wP W),aA (pP P),aA (NF m (Vi m E) (Ha W m E) (Q3 m E) (Hb W m E) λi=>E i i),aA (pP (P.sum::ZQ m λi=>Mo m (Vi m E) P i%E i i)),none,none]) (KW (xb (Fi (c3 (c2 rfl rfl I) rfl rfl z) rfl)) (λ_=>Lf (Zw (c1 rfl eP)) rfl) λ_=>Lf rfl rfl) ?_)))));rintro s rfl;refine Z9 (E5 (dH (xo (p:=aB) (p2:=aB) (xn (xb (c2 rfl (d rfl) u))) (dH (xo (p:=aB) (p2:=aB) (xn (xb (c2 rfl (c1 rfl RY) (SX (n:=W.length) (by rw[bW,ZM];omega) (by omega))))) (xb (dH (o2 (a:=.int P.sum) (b:=.int P.sum) (o2 rfl rfl (WA (l:=P.sum::ZQ m λi=>Mo m (Vi m E) P i%E i i) (k:=0) (by simp))) (c1 rfl (G6 P)) (Uy aC _ _)) (by simp)))) rfl)) rfl)) (U7 (HC (n:=m) (λi s=>∃y r,s=[aA (.cst (iL c)),aA (wP W),aA (pP P),aA (NF m (Vi m E) (Ha W m E) (Q3 m E) (Hb W m E) λi=>E i i),aA (pP (P.sum::ZQ m λi=>Mo m (Vi m E) P i%E i i)),y,r]) (d rfl) ⟨none,none,rfl⟩ ?_) ?_)
 ·rintro i s x ⟨y,r,rfl⟩;have d1:=J.d2 i x;refine U8 (Zw (vP (a:=Mo m (Vi m E) P i) (c1 (Xb (w:=m) (q:=λj=>.tup [.int (E i (m+j)),.int (Yq P (j+1))]) (λj=>E i (m+j)*Yq P (j+1)) ?_ (by omega) λj g=>⟨_,rfl,vC (C:=CMulW) (op:=(· * ·)) rfl rfl (X i j x g)⟩) ?_))) (Lf (E5 ?_) ⟨_,_,rfl⟩)
  ·have e1:Zj ZX (Zj ZX (Za 3) (eC (.int 0))) (Za 5) [aA (.cst (iL c)),aA (wP W),aA (pP P),aA (NF m (Vi m E) (Ha W m E) (Q3 m E) (Hb W m E) λi=>E i i),aA (pP (P.sum::ZQ m λi=>Mo m (Vi m E) P i%E i i)),aA (.int (i:Int)),r]=aA (pP (ZQ m (Vi m E i))):=o2 (o2 rfl rfl rfl) rfl (X0 (SW x));have O:Rc Qs (Za 2) (U5 (eC (.int 1))) OU [aA (.cst (iL c)),aA (wP W),aA (pP P),aA (NF m (Vi m E) (Ha W m E) (Q3 m E) (Hb W m E) λi=>E i i),aA (pP (P.sum::ZQ m λi=>Mo m (Vi m E) P i%E i i)),aA (.int (i:Int)),r]=aA (pP (P.drop 1)):=EI (by omega) rfl;have T:W9 (iL (ZQ m (Vi m E i))) (iL (P.drop 1))=(aJ m).map λj=>.tup [.int (E i (m+j)),.int (Yq P (j+1))]:=by rw[Xl _ _ (by simp[ZM];omega),aQ,ZM];refine bN λj g=>?_;have g:=aY.mp g;rw[Y8 _ j (by rw[ZM];exact g),Y8 _ j (by rw[cv];omega),Wh g,dn]
   rw[Sf];refine(congrArg (λo=>jW o _) e1).trans ?_;refine(congrArg (λo=>jW o _) O).trans ?_;rw[<-T];rfl
  ·rw[O2];congr 2;exact Y9 _ _
  ·have M:∀x6':Option PV,Zj ZX (Zj ZX (Za 3) (eC (.int 4))) (Za 5) [aA (.cst (iL c)),aA (wP W),aA (pP P),aA (NF m (Vi m E) (Ha W m E) (Q3 m E) (Hb W m E) λi=>E i i),aA (pP (P.sum::ZQ m λi=>Mo m (Vi m E) P i%E i i)),aA (.int (i:Int)),x6']=aA (.int (E i i)):=λ_=>o2 (o2 rfl rfl rfl) rfl (Nv x);refine dH (xo (p:=aB) (p2:=aB) (xb (dH (o2 (M _) rfl rfl) ?_)) (xb (dH (o2 (a:=.int (Mo m (Vi m E) P i%E i i)) (o2 (b:=.int ((i+1:Nat):Int)) rfl ((E6 (a:=(i:Int)) (b:=1) rfl rfl).trans rfl) (dH (WA (l:=P.sum::ZQ m λi=>Mo m (Vi m E) P i%E i i) (k:=i+1) (by rw[bW,ZM];omega)) ?_)) (Ck (b:=E i i) rfl (M _)) (Uy aC _ _)) (by simp)))) rfl
   ·show aA (PV.bl (decide (E i i<1)))=_;rw[decide_eq_false (by omega)]
   ·congr 2;show Yq (ZQ m _) i=_;exact Wh x
 ·rintro s ⟨y,r,rfl⟩;exact Wg (ep rfl) rfl
end PW
namespace PW
open PySem L2 VL
theorem all_mk{P:bI}{w:br}{K:aD}{mg:ah->Option aF}{fa:aG}(hfa:mg "law" = aA (.ref fa))(B:WR mg)(T:P.given.tree=none)
  (d0:Def K mg "_law_cell" SA)
  (d1:Def K mg "_law_part" SD)
  (d2:Def K mg "_law_tie" QK)
  (d3:Def K mg "_law_web" QL)
  (d4:Def K mg "_law_coins" UM)
  (d5:Def K mg "_law_purse" UN)
  (d6:Def K mg "ties_at" UO)
  (d7:Def K mg "row_of" SE)
  (d8:Def K mg "square_without" YL)
  (d9:Def K mg "square_of" WI)
  (d10:Def K mg "unit_row" Vv)
  (d11:Def K mg "block_of" Vw)
  (d12:Def K mg "rows_to_clear" YZ)
  (d13:Def K mg "less" Ni)
  (d14:Def K mg "cleared_below" Y0)
  (d15:Def K mg "turned_over" XJ)
  (d16:Def K mg "crossed_out" XM)
  (d17:Def K mg "unfit_row" WK)
  (d18:Def K mg "part_found" Wc)
  (d19:Def K mg "divided" US)
  (d20:Def K mg "row_by_column" Y1)
  (d21:Def K mg "row_times" WL)
  (d22:Def K mg "multiplied" Wd)
  (d23:Def K mg "parts" QR)
  (d24:Def K mg "by_row" SI)
  (d25:Def K mg "rests" QS)
  (d26:Def K mg "total" QT)
  (d27:Def K mg "place_of" Vx)
  (d28:Def K mg "_law_whole" UW)
  (d29:Def K mg "_law_row" QU)
  (d30:Def K mg "_law_square" Vy)
  (d31:Def K mg "_law_told" SJ)
  (d32:Def K mg "law" KD)
  : ∃fd:dN,(∀(s:aL)(u:aF),ir s fd ⟨[u],[]⟩ [("_law_script",u)])/\∀base:bR,K.In base->base.Ns cD mg->Tb P w K mg base OD 41 fa fd ["_law_script"] (Xj K D_law 1):=by
 refine Ka d32 hfa (λ_ _ _ _ _ _ _=>rfl) λbase f fd _ _ F=>?_;have C_m_cell:WD P w K mg base:=M0 d0 B;have C_l_part:V6 P w K mg base:=M1 d1 B;have C_l_tie:=Ku (P:=P) (w:=w) (base:=base) d2 B;have C_l_web:QG P w K mg base:=Kv d3 B C_m_cell C_l_part C_l_tie;have C_m_coins:UH P w K mg base:=Nc d4 B;have C_l_purse:UI P w K mg base:=Nf d5 B C_m_coins C_m_cell;have C_ties_at:UJ P w K mg base:=Nh d6 B;have C_row_of:Sx P w K mg base:=M4 d7 B C_ties_at;have C_square_without:YJ P w K mg base:=V8 d8 B C_row_of;have C_square_of:WE P w K mg base:=QN d9 B C_square_without;have C_unit_row:Vr P w K mg base:=PR d10 B;have C_block_of:Vs P w K mg base:=PU d11 B C_unit_row;have C_rows_to_clear:YW P w K mg base:=UQ d12 B;have C_less:QH P w K mg base:=Iu d13 B;have C_cleared_below:YX P w K mg base:=UR d14 B T C_rows_to_clear C_less;have C_turned_over:XH P w K mg base:=SG d15 B;have C_crossed_out:XI P w K mg base:=SH d16 B C_cleared_below C_turned_over;have C_unfit_row:WG P w K mg base:=QO d17 B;have C_part_found:Wa P w K mg base:=Rj d18 B C_crossed_out C_unfit_row C_less;have C_divided:UK P w K mg base:=Nk d19 B;have C_row_by_column:YY P w K mg base:=UU d20 B;have C_row_times:WH P w K mg base:=QQ d21 B C_row_by_column;have C_multiplied:Wb P w K mg base:=Rl d22 B C_row_times;have C_parts:Tu P w K mg base:=Kw d23 B C_square_of C_block_of C_part_found C_divided C_multiplied;have C_by_row:Sy P w K mg base:=M6 d24 B;have C_rests:QI P w K mg base:=Kx d25 B C_by_row;have C_total:QJ P w K mg base:=Kz d26 B;have C_place_of:Vt P w K mg base:=PY d27 B C_total C_rests C_parts;have C_l_whole:UL P w K mg base:=Nm d28 B;have C_l_row:V7 P w K mg base:=KC d29 B C_l_whole;have C_q_square:Vu P w K mg base:=P0 d30 B C_l_row;have C_q_told:Sz P w K mg base:=M8 d31 B C_l_row C_q_square;exact Ff F B C_l_web C_l_purse C_parts C_place_of C_l_part C_m_cell C_l_row C_q_told
end PW
namespace PySem.W.Fast
def tw8806309541789929943:=()
def tw15234328766374209569:=()
def tw17212182226315344722:=()
def tw15377887213446147115:=()
def tw10759169189642243885:=()
def tw2956676911670872749:=()
def tw4585071961403150230:=()
def tw5947353216223177205:=()
def tw3473130527044146360:=()
def tw2288642586483113546:=()
def tw6752337902464885657:=()
def tw13084335760870291495:=()
def tw11666830536880278588:=()
def tw13272839910176674742:=()
def tw2941300106561312911:=()
def tw15449820841586151518:=()
def tw7531066630536393076:=()
def tw11936277066899889002:=()
def tw16413510572744946433:=()
def tw12572048396699035201:=()
def tw13071552439904725497:=()
def tw4621580308134038247:=()
def tw3845331899035766336:=()
def tw3737605575658726563:=()
def tw7607619270576426331:=()
def tw10459394498873652999:=()
def tw17056684494609546811:=()
def tw15100485514408751883:=()
def tw7253602356804953365:=()
def tw3867713645242798355:=()
def tw18300781905131342754:=()
def tw4744088346684693885:=()
def tw5654329529782340769:=()
def tw8691251967471690822:=()
def tw6643145033577843194:=()
def tw12958276615143255712:=()
def tw12870358210542734611:=()
def tw12090614872094451724:=()
def tw132233777263500003:=()
def tw14121970662958443222:=()
def tw8872409344932102634:=()
def tw17624663323077041250:=()
def tw14736475635960053703:=()
def tw5975395481609617156:=()
def tw1021459810262942574:=()
def tw484898079583160862:=()
def tw450707991212008162:=()
def tw13809702446295436909:=()
def tw7105643820381986379:=()
def tw3430292057007862851:=()
def tw8271958299636070622:=()
def tw9600913019713400229:=()
def tw1030121521644229146:=()
def tw11606698186346871708:=()
def tw10751958035258897599:=()
def tw11113521679374653320:=()
def tw683717750021816046:=()
def tw16277364724100379560:=()
def tw8135375854260498479:=()
def tw16052319469259273564:=()
def tw2879817113410553247:=()
def tw15335569728148127591:=()
def tw8877426174196414809:=()
def tw7525312065231992705:=()
def tw9836157761037660602:=()
def tw2251071792266089707:=()
def tw16378512636766559748:=()
def tw5923686285428307170:=()
def tw4468141988822271457:=()
def tw11348871258874899695:=()
def tw4200169592406855200:=()
def tw1174935669519449774:=()
def tw18072449453493926553:=()
def tw15442128411602577213:=()
def tw1339640603256224347:=()
def tw12991966057210568652:=()
end PySem.W.Fast
open PySem PySem.W PyProof.Rows
set_option maxRecDepth 100000 in
set_option maxHeartbeats 0 in
theorem PySem.Challenge.cw_purseweb_k64_places_holds : PySem.Challenge.rw_purseweb_k64_places.Holds := by
 w_on;o_law;k_head;(case hw=>w_witness2)
 k_fill
 refine VL.law_walkB (l:=iJ) (D:=PW.D_law) (x:="_law_script") 41 rfl rfl ⟨rfl,by decide,by decide,rfl⟩ (λw=>VL.noLam (by kernel_rfl)) PW.law_true (λw h Y=>PySem.W.kIn_of Y) ?F
 case F=>
  intro w mg fa h KX G hmg
  refine' PW.all_mk hmg ?B rfl ?d0 ?d1 ?d2 ?d3 ?d4 ?d5 ?d6 ?d7 ?d8 ?d9 ?d10 ?d11 ?d12 ?d13 ?d14 ?d15 ?d16 ?d17 ?d18 ?d19 ?d20 ?d21 ?d22 ?d23 ?d24 ?d25 ?d26 ?d27 ?d28 ?d29 ?d30 ?d31 ?d32
  case B=>constructor<;>(refine PySem.W.mg_none_of KX G ?_;k_is)
  case d0 | d1 | d2 | d3 | d4 | d5 | d6 | d7 | d8 | d9 | d10 | d11 | d12 | d13 | d14 | d15 | d16 | d17 | d18 | d19 | d20 | d21 | d22 | d23 | d24 | d25 | d26 | d27 | d28 | d29 | d30 | d31 | d32=>(refine' L2.def_mk KX G ?a ?l ?c ?k;(case a=>k_is);(case l=>k_is);(case c=>k_is);(case k=>k_is))
