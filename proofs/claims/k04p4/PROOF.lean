import PyProof.Rows.All
import Wide.All
import OpenK.AllK
import Wide.FinOn
import Lean
import PyProof.EqAt
import PyProof.EqKinds
import PyProof.TupleCall
import PyProof.NeKinds
import PyProof.ListMulRoad
import PyProof.WalkInts
import KE.KSortTup
import KE.KDictSum
import PyProof.Rows.SortWalk
import PyProof.ListRange
import KE.KRevIter
import PyProof.ExcInit
import PyProof.InstStoreFacts
import OpenK.KMake
import OpenK.KCls
import PyProof.FString2
import PySem.Challenge.RW_purseweb_k04_whole_webs_read
open Option renaming some → aA,bind_some → aD,map_some → av,isSome_iff_exists → cQ,map_eq_some_iff → eG,bind → eK,join_some → gi,isSome_map → ic,bind_none → jU,getD_none → lH,none → mS
open Bool renaming false → aB,true → aC,false_ne_true → a0,and_eq_true → bE,false_eq_true → bS,or_true → g7,eq_false_iff → g8,false_or → gj,true_and → jF,false_and → jw,not_eq_true' → ku,not_true → mH,and_true → mI
open PySem renaming Value → aE,wpAny_bind → aF,Addr → aH,Shared → aI,starEach → aO,Str → aR,wpAny → aZ,wpAny_pure → aa,mainGlobals → ao,Expr → aw,wpAny_mono → ay,Program → bC,Heap → bV,Around → b5,World → b6,compareOp → ba,wpAny_loadPart_at → bc,wpAny_truthy_bool → bg,Stmt → bj,foldedSetIterable → bw,backTo → cL,behindInMarks → cP,excClassObj → cR,wpAny_isSubtype_exc → cS,wpAny_field → cg,Obj → ck,Str → cq,wpAny_Call_Name_kw → dA,wpAny_newObj_type → dN,wpAny_setField → dQ,swapsWith → dX,wpAny_holding → dY,wpAny_typeNameOfWhole_keyiter → dh,Pos → dm,FuncData → dy,mem_of_lookup → dz,bootBuiltins → eD,rawInt → eE,cLine → eJ,wpAny_passesOwn → eV,codeAny_mono → eX,ExcBaseFacts → eY,codeAny_call_builtin → eZ,sysModules → eh,wpAny_typeNameOf_keyiter → el,strLen_append → fB,NameKind → fC,wpAny_callSpecial?_slot → fD,wpAny_call_entry → fE,call_meets → fH,Scope → fJ,getAttrByItsOwn → fN,wpAny_standAt → fO,attributeBase → fP,noteFrame → fS,ExceptHandler → fU,wpAny_call → f9,wpAny_execs_cons → gE,codeAny → gF,wpAny_comprehension_free → gH,wpAny_execs_nil → gN,tupleKind_room_in1 → gQ,sliceBounds → gS,binaryOp → gW,keywordEach → gm,unbindBehindTheSuite → gz,letOwnedTupleGo → hU,wpAny_loadPart' → hV,Keyword → iH,PassesOwn → iK,assignEach → iO,bindArgs → iP,typeIs_str → iQ,compEnvC → iR,firstArgMember → iS,intText? → iT,wpAny_assign_Name → i8,wpAny_Assign_Name → i9,notedBy → ie,wpAny_dictEntries → ig,Env → iu,wpAny_attempt → jB,tupleKind → jI,CmpOp → jJ,lastMarks → jK,DictEntry → jL,setFlight → jP,checkBuiltinCall → jQ,wpAny_Try_except → jR,reprText → jS,callerA → j6,codeAny_compStart_list → j7,OwnTail → j9,isInstance → ja,wpAny_dictEpoch → je,wpAny_isTrue_Compare1 → jk,exec_Assign_Name_used → jl,wpAny_isOneOf_keyiter → jn,ofString_length → jr,wpAny_loadName_local → jv,sizeLine_eq → jx,backToKw → jy,wpAny_newFunctionEnv → jz,wpAny_loadPart → kD,BindsTo → kI,getItem → kK,valueAt → kL,wpAny_loadName_cell → kN,length_partsBetween → kO,pyNext → k4,int_text_length_le → kf,GenState → kh,seqIndex_neg → km,wpAny_mkText → kz,pyIter → lG,Model → lQ,seqIndex_of → lR,atKey → lS,wpAny_throw → lU,builtinKind → lV,builtinsNs → l4,isTrue → l5,wpAny_Name → l6,Operator → l7,bindL → l8,bindC → l9,typeLookup → la,typeIs_int → lg,call → lh,getAttr? → lq,Result → mK,passOn → mQ,Tok → mR
open PySem.W renaming Frag → aG,kitOne → aX,mg_of → ak,findIn → az,nsIn → bH,ktsIn → cB,looks_findIn → cM,fnOf → cV,InstAt → di,kts_cls → dt,keepIn → eM,callWith_K → eN,codeIn → fu,excIn → gK,mroIn → gL,clsIn → gM,takerIn → iB,methodObj → iZ,cellsFrom_some → jX,class_get → lB,handedIn → lJ,OpenLaw → lX,kia_one → l3,notCls → lx,lookIn → ly,WalkO → mD,ownOf → mG,KitX → mO
open List renaming replicate → aJ,getElem?_eq_getElem → aK,getElem?_eq_some_iff → aL,length_map → aN,mem_singleton → aP,mem_cons_of_mem → aQ,getElem?_map → aS,getD_eq_getElem?_getD → aU,mem_cons → aV,map_cons → aW,mem_cons_self → a9,mem_append_right → ag,mem_map → ah,size_toArray → aj,length_append → aq,mem_append → au,all_eq_true → bB,mem_append_left → bG,append_nil → bI,length_cons → bK,getElem?_set → bM,range → bN,nodup_cons → bP,getElem?_append_left → bT,mem_range → bX,mem_of_getElem? → b7,length_range → bb,getElem?_append_right → bh,length_take → br,map_append → bt,nodup_nil → bx,mem_of_mem_take → bz,replicate_succ → cC,getElem?_replicate → cG,lookup_cons → cH,map_map → cO,nodup_append → cX,map_congr_left → cu,length_set → cz,zip_cons_cons → dB,getElem?_set_ne → dC,length_drop → dD,take_length → dF,getElem_mem → dG,flatten_cons → dJ,append_assoc → dM,getElem?_range → dS,getElem_of_mem → dU,find?_cons → dW,map_nil → dZ,mem_filter → dj,take_of_length_le → eI,contains_cons → eO,length_replicate → eQ,drop_eq_getElem_cons → eU,cons_append → fF,getElem?_set_self → fG,length_nil → fK,getElem?_eq_none → fV,take_sublist → fX,length → fj,all_cons → gJ,nil_append → gO,getElem?_cons_zero → gU,drop_eq_nil_of_le → gZ,take_succ_eq_append_getElem → g9,length_singleton → gh,map_take → gk,mem_iff_getElem → gq,mem_of_mem_drop → gy,filterMap_cons → iC,drop_succ_cons → iD,all_map → iI,map_replicate → iV,drop_left → iX,take_add_one → ij,getElem?_take_of_lt → jA,set_eq_of_length_le → jC,filterMap_cons_some → jE,any_eq_true → jN,getElem?_cons_succ → jO,nodup_range → jT,not_mem_nil → jV,pairwise_lt_range → jb,of_mem_zip → jc,foldl_cons → jd,map_const' → ji,take_append_drop → jo,length_filter_le → ju,getElem?_zipIdx → kC,getElem_toArray → kE,getElem?_of_mem → kG,perm_iff_count → kT,any_cons → kY,mem_filterMap → k6,foldl → k7,getElem?_drop → k9,zip_nil_right → kg,getElem_take → lD,getElem?_inj → lE,getElem_inj → lF,getElem_map → lK,sum_append → lY,take_zero → lp,take_nil → mE,drop_nil → mF
open PySem.Heap renaming get?_push_of_some → aM,lt_size → aT,get?_push_size → bD,get?_update_other → bQ,get?_update_self → bo,get?_none_of_le → cZ,SameBut → gD,size_push → gY,get?_update_ne → kS,get?_push_at → kx,ExtBut → lT
open Or renaming inl → aY,inr → mL
open Nat renaming lt_of_lt_of_le → af,le_refl → ar,ne_of_lt → bO,le_trans → bu,lt_irrefl → cI,le_of_lt → cy,zero_le → gC,ne_of_gt → gV,lt_succ_self → jM,min_eq_left → jf,le_succ → kB,lt_of_le_of_lt → k8,le_succ_of_le → ko,min_eq_right → lI,log2_le_self → lN
open PySem.Value renaming ref → bF,none → bJ,bool → gP,int → jG,str → jH,type → kZ,isStrOf → lz
open Option.some renaming inj → bU,injEq → kq
open PySem.Obj renaming data_mapFields → bY,mapFields → bq,isFreed_of_fields → cw,cls_mapFields → fY,mapSeq → jZ
open Array renaming getElem?_eq_some_iff → bZ,length_toList → dw,getElem?_eq_getElem → iY,getElem?_toList → jt,find?_toList → ke,toList_push → kn,toList → mJ
open PySem.PassesOwn renaming never → b8
open False renaming elim → b9
open PySem.NameKind renaming free → bp,cell → fQ
open PySem.Builtin.Str renaming occurrences → cF,strSliceIndices → fZ,partsBetween → jD,strKind → kQ
open Ne renaming symm → cJ
open Int renaming toNat_natCast → cK,toNat_of_nonneg → eB,emod_lt_of_pos → gR,emod_nonneg → h8,le_refl → kF,min_eq_right → lO
open PySem.Str renaming ofString → cN,join → iU,empty → kM
open True renaming intro → cU
open PySem.F renaming plainAttrs_list → cY,slot_list_append → de,type_list_append → df
open PySem.Txt renaming find → cj,slice → dH,endswith → iJ,split → iM
open Sum renaming inl → dI,inr → kH
open List.Pairwise renaming map → dR,filter → hG
open PyProof.Rows renaming callWith_type1 → eF,envOfC → gX,AllBare → iG,subscriptTail_builtinR → jY,IntsAre → kJ,Constant_none → kU,subscriptTail → kX,Subscript_ → lb
open PySem.Builtin.SmallTypes renaming nextOf → eT
open PySem.Builtin.List renaming listTooLong → ei
open PySem.PyData renaming int → eu,hasDictAll → ik,shownAll → jh,showableAll → kd,depth → ky,depthAll → lZ,tuple → mM
open ForInStep renaming yield → fL
open List.cons renaming injEq → fM,inj → fT
open PySem.Calls renaming evalArgs_plain → gA,Name_function_global → iN,callWith_builtin → j4
open PySem.Heap.SameBut renaming update → gG
open PySem.Builtin.ObjectAttr renaming ownThenClass → gg
open Prod.mk renaming inj → gu
open PySem.SeqAt.EqAt renaming bool_bool → gv,same → jg,of_refs → ka
open PySem.Builtin.Dict_items renaming ownsTuple → hZ
open PySem.Challenge renaming pw_purseweb_k04_whole_webs_read → il,rw_purseweb_k04_whole_webs_read → ir
open PySem.StrLaws renaming sliceText → ip,occ_length_le → jq,At → mU
open PySem.Around renaming under → jW
open PySem.SeqAt renaming EqAt → j8
open PySem.Builtin.Dict renaming showsAll → jm
open PySem.W.KF renaming type_class → js
open PySem.EntryCells renaming newEntry → kR
open PySem.Code renaming quiet_builtin → kc,isFrame → kj
open PySem.NumText renaming digitsVal → lC
open Sum.inl renaming inj → lP
open Prod renaming ext → mT
theorem mZ.{u}{c:Prop}{h:Decidable c}(hc:c){α:Sort u}{t e:α}:ite c t e=t:=if_pos hc
theorem ma.{u}{c:Prop}{h:Decidable c}(hc:Not c){α:Sort u}{t e:α}:ite c t e=e:=if_neg hc
noncomputable section
set_option Elab.async false
set_option linter.all false
set_option maxRecDepth 100000
namespace L2
open PySem PySem.Spec PyProof.Rows
abbrev Xp:=Sum Int aR
def OM:Xp->aE->Bool
 | .inl k,v=>aE.isInt k v
 | .inr x,v=>lz x v
def Za8(w:b6):Xp->Int
 | .inl k=>hashInt k
 | .inr x=>hashStr w x
theorem Y9:∀{k:Xp}{v:aE},OM k v=aC->(∃i t,k=dI i/\v=jG i t)\/(∃x t,k=kH x/\v=jH x t)
 | .inl i,v,h=>by obtain⟨t,e⟩:=aE.isInt_shape (k:=i) (v:=v) h;exact .inl ⟨i,t,rfl,e⟩
 | .inr x,v,h=>by obtain⟨t,e⟩:=aE.isStrOf_shape (x:=x) (v:=v) h;exact .inr ⟨x,t,rfl,e⟩
theorem JS(i:Int)(t:mR):OM (.inl i) (.int i t)=aC:=by simp[OM,aE.isInt]
theorem JU(x:aR)(t:mR):OM (.inr x) (.str x t)=aC:=by simp[OM,lz]
theorem CA(a b:Int):decide ((dI a:Xp)=dI b)=(a==b):=by
 by_cases e:a=b
 ·subst e;simp
 ·have h:¬(dI a:Xp)=dI b:=λq=>e (lP q);rw[decide_eq_false h];exact(beq_eq_false_iff_ne.mpr e).symm
theorem CB(a b:aR):decide ((kH a:Xp)=kH b)=decide (a=b):=by
 by_cases e:a=b
 ·subst e;simp
 ·have h:¬(kH a:Xp)=kH b:=λq=>e (kH.inj q);rw[decide_eq_false h,decide_eq_false e]
theorem CC(a:Int)(b:aR):decide ((dI a:Xp)=kH b)=aB:=decide_eq_false (λq=>nomatch q)
theorem CD(a:aR)(b:Int):decide ((kH a:Xp)=dI b)=aB:=decide_eq_false (λq=>nomatch q)
def Xr(prog:bC)(w:b6):PySem.KeyKind prog w Xp where
 is:=OM
 hash:=Za8 w
 inj:=λv a b ha hb=>by
  rcases Y9 ha with⟨i,t,rfl,rfl⟩ | ⟨x,t,rfl,rfl⟩
  ·rcases Y9 hb with⟨j,u,rfl,e⟩ | ⟨y,u,rfl,e⟩
   ·injection e with e1 _;rw[e1]
   ·exact nomatch e
  ·rcases Y9 hb with⟨j,u,rfl,e⟩ | ⟨y,u,rfl,e⟩
   ·exact nomatch e
   ·injection e with e1 _;rw[e1]
 byValue:=λk v h=>by rcases Y9 h with⟨i,t,rfl,rfl⟩ | ⟨x,t,rfl,rfl⟩<;>rfl
 pyHash:=λhv h=>by
  rcases Y9 hv with⟨i,t,rfl,rfl⟩ | ⟨x,t,rfl,rfl⟩
  ·exact wpAny_pyHash_int h
  ·exact wpAny_pyHash_str h
 eqBool:=λhu hv h=>by
  rcases Y9 hu with⟨i,t,rfl,rfl⟩ | ⟨x,t,rfl,rfl⟩
  ·rcases Y9 hv with⟨j,u,rfl,rfl⟩ | ⟨y,u,rfl,rfl⟩
   ·rw[CA] at h;exact wpAny_eqBool_int h
   ·rw[CC] at h;exact j8.int_str i t y u _ _ _ _ h
  ·rcases Y9 hv with⟨j,u,rfl,rfl⟩ | ⟨y,u,rfl,rfl⟩
   ·rw[CD] at h;exact j8.str_int x t j u _ _ _ _ h
   ·rw[CB] at h;exact wpAny_eqBool_str h
 «strs»:=λk x t v h=>by
  rcases Y9 h with⟨i,u,rfl,e⟩ | ⟨y,u,rfl,e⟩
  ·exact nomatch e
  ·injection e with e1 _;subst e1;cases v<;>rfl
theorem Mj(prog:bC)(w:b6)(i:Int)(t:mR):(Xr prog w).is (.inl i) (.int i t)=aC:=JS i t
theorem Mk(prog:bC)(w:b6)(x:aR)(t:mR):(Xr prog w).is (.inr x) (.str x t)=aC:=JU x t
inductive V where
 | non | bl (b:Bool) | int (i:Int) | str (x:aR) | byt (b:Array UInt8) | flt (b:UInt64) | ref (a:aH) | ty (n:String)
 deriving DecidableEq
def RelV:V->aE->Prop
 | .non,u=>u=bJ
 | .bl b,u=>u=gP b
 | .int i,u=>∃t,u=jG i t
 | .str x,u=>∃t,u=jH x t
 | .byt b,u=>∃t,u=aE.bytes b t
 | .flt b,u=>∃t,u=aE.float b t
 | .ref a,u=>u=bF a
 | .ty n,u=>u=kZ n
abbrev Vals:List V->List aE->Prop:=Paired RelV
theorem Vals.length{xs:List V}{us:List aE}(r:Vals xs us):xs.length=us.length:=Paired.length r
theorem Vals.get:∀{xs:List V}{us:List aE}{i:Nat}{x:V},Vals xs us->xs[i]?=aA x->∃u,us[i]?=aA u/\RelV x u
 | _,_,_,_,.nil,e=>by simp at e
 | _,_,0,_,.cons r _,e=>by simp at e;subst e;exact⟨_,rfl,r⟩
 | _,_,i+1,x,.cons _ t,e=>by obtain⟨u,h1,h2⟩:=Vals.get (i:=i) (x:=x) t (by simpa using e);exact⟨u,by simpa using h1,h2⟩
theorem Vals.set{x:V}{u:aE}(r:RelV x u):∀{xs:List V}{us:List aE}(i:Nat),Vals xs us->Vals (xs.set i x) (us.set i u)
 | _,_,_,.nil=>.nil
 | _,_,0,.cons _ t=>.cons r t
 | _,_,i+1,.cons q t=>.cons q (Vals.set r i t)
theorem Vals.append:∀{xs ys:List V}{us ws:List aE},Vals xs us->Vals ys ws->Vals (xs++ys) (us++ws)
 | _,_,_,_,.nil,s=>s
 | _,_,_,_,.cons r t,s=>.cons r (Vals.append t s)
theorem Vals.take:∀{xs:List V}{us:List aE}(n:Nat),Vals xs us->Vals (xs.take n) (us.take n)
 | _,_,0,_=>.nil
 | _,_,_+1,.nil=>.nil
 | _,_,n+1,.cons r t=>.cons r (Vals.take n t)
theorem Vals.drop:∀{xs:List V}{us:List aE}(n:Nat),Vals xs us->Vals (xs.drop n) (us.drop n)
 | _,_,0,r=>r
 | _,_,_+1,.nil=>.nil
 | _,_,n+1,.cons _ t=>Vals.drop n t
def RelO:Option V->Option aE->Prop
 | some v,aA u=>RelV v u
 | none,none=>True
 | _,_=>False
def KV{κ:Type}:List (κ×V)->List (κ×aE)->Prop:=Paired λ(p:κ×V) (q:κ×aE)=>p.1=q.1/\RelV p.2 q.2
def kV:Xp->V
 | .inl i=>.int i
 | .inr x=>.str x
inductive HO where
 /-- a list -/
 | lst (xs:List V)
 /-- a tuple (never changes) -/
 | tup (xs:List V)
 /-- a dict whose keys are ints and texts;one whose keys are tuples of ints and texts (the empty one is both) -/
 | dK (m4:List (Xp×V)) | dT (m4:List (List Xp×V))
 /-- a set of ints: mY members,mY size -/
 | set (S:Int->Bool) (n:Nat)
 /-- an instance of the class at C,mY dict at dx,mY attributes -/
 | ins (C dx:aH) (fs:List (aR×V))
 /-- the dict of the instance at x -/
 | own (x:aH)
 /-- the dict of an exception -/
 | xd (fs:List (aR×V))
 /-- a bound method,f of x -/
 | met (f x:aH)
 /-- a range object lo,lo+1,.. below hi -/
 | rng (lo hi:Int)
 /-- a thing that is known to the object (the script;a dict while a loop walks it): read,never written while it is so -/
 | frz (o:ck) (u:HO)
 /-- a code object's table -/
 | tbl (ps:Array aE)
 /-- any other thing,by what is aC of mY one object (a def of one's own: SetO a S n:=HO.ext λh=>..) -/
 | ext (φ:bV->Prop)
abbrev Hp:=aH->Option HO
def upd(H:Hp)(a:aH)(o:HO):Hp:=λb=>if b=a then aA o else H b
theorem upd_same{H:Hp}{a:aH}{o:HO}:upd H a o a=aA o:=by unfold upd;rw[mZ rfl]
theorem upd_ne{H:Hp}{a b:aH}{o:HO}(h:b≠a):upd H a o b=H b:=by unfold upd;rw[ma h]
theorem Ah{H:Hp}{a b:aH}{o u:HO}(h:H a=aA o)(h':H b=aA u)(d:o≠u):a≠b:=by intro e;subst e;rw[h] at h';exact d (bU h')
theorem ZJ{H:Hp}{a b:aH}{o:HO}(h:H a=aA o)(h':H b=none):a≠b:=by intro e;subst e;rw[h] at h';cases h'
section
variable (P:bC) (w:b6)
def ObjOk(H:Hp)(h:bV)(a:aH):HO->Prop
 | .lst xs=>xs.length<=sizeLine/\∃(mY:List aE) (n:Nat),Vals xs mY/\h.get? a=aA { cls:=.type "list",data:=.seq mY.toArray n }
 | .tup xs=>xs.length<=sizeLine/\∃mY:List aE,Vals xs mY/\IsTup h a mY.toArray
 | .dK m4=>m4.length<=sizeLine/\(a==eh)=aB/\∃vs,KV m4 vs/\h.DictOf (Xr P w) a vs
 | .dT m4=>m4.length<=sizeLine/\(a==eh)=aB/\∃xs:List (List Xp×aH×aE),
   Paired (λ(p:List Xp×V) (q:List Xp×aH×aE)=>p.1=q.1/\H q.2.1=aA (.tup (p.1.map kV))/\RelV p.2 q.2.2) m4 xs/\
   ∃o es ep,h.get? a=aA o/\o.ExactDict/\o.data = .dict es ep/\es.toList=xs.map (entryOfKey (jI (Xr P w)))/\(xs.map (·.1)).Nodup
 | .set S n=>h.SetOf (intKind P w) a S n
 | .ins C dx fs=>H dx=aA (.own a)/\fs.length<=1000/\dx≠a/\h.get? a=aA (PySem.W.instObj C dx)/\
   ∃mA,h.Ns1 dx mA/\(∀f,RelO (fs.lookup f) (mA f))/\PySem.Within mA (fs.map (·.1))
 | .own _=>∃o,h.get? a=aA o
 | .xd fs=>∃mA,h.Ns1 a mA/\∀f,RelO (fs.lookup f) (mA f)
 | .rng lo hi=>∃t u v,h.get? a=aA { cls:=.type "range",data:=.fields #[.int lo t,.int hi u,.int 1 v] }
 | .frz o u=>h.get? a=aA o/\ObjOk H h a u
 | .tbl ps=>h.get? a=aA { cls:=.none,data:=.fields ps }
 | .met f x=>h.get? a=aA (iZ (.ref f) (.ref x))
 | .ext φ=>φ h/\(∃o,h.get? a=aA o)/\∀h1 h2:bV,φ h1->(∀o,h1.get? a=aA o->h2.get? a=aA o)->φ h2
def HOk(H:Hp)(h:bV):Prop:=∀a o,H a=aA o->ObjOk P w H h a o
end
section
variable {P:bC} {w:b6} {H H':Hp} {h h':bV} {a:aH} {o:HO}
theorem ObjOk.lt(x:ObjOk P w H h a o):a<h.objs.size:=by
 cases o with
 | lst xs=>obtain⟨_,_,_,_,e⟩:=x;exact aT e
 | tup xs=>obtain⟨_,_,_,p⟩:=x;exact p.lt
 | dK m4=>obtain⟨_,_,_,_,o,_,_,e,_⟩:=x;exact aT e
 | dT m4=>obtain⟨_,_,_,_,o,_,_,e,_⟩:=x;exact aT e
 | set S n=>obtain⟨o,_,_,_,e,_⟩:=x;exact aT e
 | ins C dx fs=>obtain⟨_,_,_,e,_⟩:=x;exact aT e
 | own y=>obtain⟨_,e⟩:=x;exact aT e
 | xd fs=>obtain⟨_,⟨_,_,_,e,_⟩,_⟩:=x;exact aT e
 | rng lo hi=>obtain⟨_,_,_,e⟩:=x;exact aT e
 | frz ob u=>obtain⟨e,_⟩:=x;exact aT e
 | tbl ps=>exact aT (show h.get? a=aA _ from x)
 | met f y=>exact aT (show h.get? a=aA _ from x)
 | ext φ=>obtain⟨_,⟨_,e⟩,_⟩:=x;exact aT e
theorem Paired.mapP{α β:Type}{F G:α->β->Prop}:∀{l₁:List α}{l₂:List β},Paired F l₁ l₂->(∀a b,F a b->G a b)->Paired G l₁ l₂
 | _,_,.nil,_=>.nil
 | _,_,.cons r t,f=>.cons (f _ _ r) (Paired.mapP t f)
theorem ObjOk.stay(x:ObjOk P w H h a o)(k:∀b u,(b=a\/H b=aA (.own a))->h.get? b=aA u->h'.get? b=aA u)
  (ho:∀b,H b=aA (.own a)->H' b=aA (.own a)) (ht:∀b xs,H b=aA (.tup xs)->H' b=aA (.tup xs)):ObjOk P w H' h' a o:=by
 induction o with
 | lst xs=>obtain⟨z,mY,n,r,e⟩:=x;exact⟨z,mY,n,r,k _ _ (.inl rfl) e⟩
 | tup xs=>obtain⟨z,mY,r,ob,e,c⟩:=x;exact⟨z,mY,r,ob,k _ _ (.inl rfl) e,c⟩
 | dK m4=>obtain⟨z,y,vs,r,ob,es,ep,e,c⟩:=x;exact⟨z,y,vs,r,ob,es,ep,k _ _ (.inl rfl) e,c⟩
 | dT m4=>
  obtain⟨z,y,xs,r,ob,es,ep,e,c⟩:=x;exact⟨z,y,xs,Paired.mapP r λp q z=>⟨z.1,ht _ _ z.2.1,z.2.2⟩,ob,es,ep,k _ _ (.inl rfl) e,c⟩
 | set S n=>obtain⟨ob,es,ep,t,e,c⟩:=x;exact⟨ob,es,ep,t,k _ _ (.inl rfl) e,c⟩
 | ins C dx fs=>
  obtain⟨d,z,ne,e,mA,⟨od,es,ep,e2,c⟩,r⟩:=x;exact⟨ho _ d,z,ne,k _ _ (.inl rfl) e,mA,⟨od,es,ep,k _ _ (.inr d) e2,c⟩,r⟩
 | own y=>obtain⟨ob,e⟩:=x;exact⟨ob,k _ _ (.inl rfl) e⟩
 | xd fs=>obtain⟨mA,⟨od,es,ep,e,c⟩,r⟩:=x;exact⟨mA,⟨od,es,ep,k _ _ (.inl rfl) e,c⟩,r⟩
 | rng lo hi=>obtain⟨t,u,v,e⟩:=x;exact⟨t,u,v,k _ _ (.inl rfl) e⟩
 | frz ob u ih=>obtain⟨e,q⟩:=x;exact⟨k _ _ (.inl rfl) e,ih q⟩
 | tbl ps=>
  have e:h.get? a=aA { cls:=.none,data:=.fields ps }:=x;show h'.get? a=aA { cls:=.none,data:=.fields ps };exact k a _ (.inl rfl) e
 | met f y=>
  have e:h.get? a=aA (iZ (.ref f) (.ref y)):=x;show h'.get? a=aA (iZ (.ref f) (.ref y));exact k a _ (.inl rfl) e
 | ext φ=>obtain⟨p,⟨o,e⟩,st⟩:=x;exact⟨st _ _ p λo q=>k _ _ (.inl rfl) q,⟨o,k _ _ (.inl rfl) e⟩,st⟩
theorem HOk.lt(x:HOk P w H h)(e:H a=aA o):a<h.objs.size:=(x a o e).lt
theorem HOk.fresh(x:HOk P w H h)(e:h.objs.size<=a):H a=none:=by
 cases q:H a with
 | none=>rfl
 | some u=>exact absurd (af (x.lt q) e) (cI _)
theorem HOk.kept(x:HOk P w H h)(k:∀b u,h.get? b=aA u->h'.get? b=aA u):HOk P w H h':=λa o e=>
 (x a o e).stay (λb u _ q=>k b u q) (λ_ q=>q) λ_ _ q=>q
theorem HOk.laid(x:HOk P w H h)(k:∀b u,h.get? b=aA u->h'.get? b=aA u)(hp:h.objs.size<=a)(new:ObjOk P w (upd H a o) h' a o):HOk P w (upd H a o) h':=λb u e=>by
 have hn:=x.fresh hp;by_cases hb:b=a
 ·subst hb;rw[upd_same] at e;cases e;exact new
 ·rw[upd_ne hb] at e;exact(x b u e).stay (λc v _ q=>k c v q) (λc q=>by rw[upd_ne (ZJ q hn)];exact q) λc xs q=>by rw[upd_ne (ZJ q hn)];exact q
end
def Rd(H:Hp)(a:aH)(u:HO):Prop:=H a=aA u\/∃o,H a=aA (.frz o u)
theorem Rd.ok{P:bC}{w:b6}{H:Hp}{h:bV}{a:aH}{u:HO}(r:Rd H a u)(x:HOk P w H h):ObjOk P w H h a u:=by
 rcases r with r | ⟨o,r⟩
 ·exact x a u r
 ·obtain⟨_,q⟩:=x a _ r;exact q
def UR:Option HO->Prop
 | some (.lst _)=>True
 | some (.dK _)=>True
 | some (.dT _)=>True
 | some (.set _ _)=>True
 | some (.ins _ _ _)=>True
 | some (.ext _)=>True
 | _=>False
section
variable {P:bC} {w:b6} {H:Hp} {h h':bV} {x e:aH} {o':HO}
theorem HOk.write(ok:HOk P w H h)(mu:UR (H x))(he:e=x\/H e=aA (.own x))(k:∀b u,b≠e->h.get? b=aA u->h'.get? b=aA u)(heo:∃u,h'.get? e=aA u)
  (new:ObjOk P w (upd H x o') h' x o'):HOk P w (upd H x o') h':=λb u q=>by
 have nown:∀c y,H c=aA (.own y)->c≠x:=λc y r z=>by subst z;rw[r] at mu;exact mu
 have ntup:∀c xs,H c=aA (.tup xs)->c≠x:=λc xs r z=>by subst z;rw[r] at mu;exact mu
 by_cases hb:b=x
 ·subst hb;rw[upd_same] at q;cases q;exact new
 ·rw[upd_ne hb] at q;by_cases hbe:b=e
  ·have q':H b=aA (.own x):=by
    rcases he with z | z
    ·exact absurd (hbe.trans z) hb
    ·rw[hbe];exact z
   rw[q] at q';cases q';obtain⟨v,hv⟩:=heo;exact⟨v,by rw[hbe];exact hv⟩
  ·refine(ok b u q).stay (λc v hc r=>k c v ?_ r) (λc r=>by rw[upd_ne (nown c b r)];exact r) λc xs r=>by rw[upd_ne (ntup c xs r)];exact r
   rcases hc with rfl | hc
   ·exact hbe
   ·rintro rfl;rcases he with z | z
    ·exact nown c b hc z
    ·rw[hc] at z;cases z;exact hb rfl
end
structure Un(fs ex:List aH)(H H':Hp)(h h':bV):Prop where
 keep:∀b o,h.get? b=aA o->H b=none->b∉fs->b∉ex->h'.get? b=aA o
 slot:∀b o,h.get? b=aA o->H b=none->b∈fs->b∉ex->∃sl,h'.get? b=aA { o with slots:=sl }
 free:∀b o,h.get? b=aA o->H b=none->b∉ex->H' b=none
 there:∀b o,h.get? b=aA o->b∉ex->∃o',h'.get? b=aA o'
 tups:∀b xs,H b=aA (.tup xs)->H' b=aA (.tup xs)
 frzs:∀b o u,H b=aA (.frz o u)->H' b=aA (.frz o u)
 tbls:∀b ps,H b=aA (.tbl ps)->∃more,H' b=aA (.tbl (ps++more))
section
variable {fs fs' ex ex':List aH} {H H1 H2:Hp} {h h1 h2 h':bV} {a x e:aH} {o:HO}
theorem Un.any(u:Un fs ex H H1 h h1){b:aH}{ob:ck}(q:h.get? b=aA ob)(n:H b=none)(hx:b∉ex):∃sl,h1.get? b=aA { ob with slots:=sl }:=by
 by_cases hb:b∈fs
 ·exact u.slot b ob q n hb hx
 ·exact⟨ob.slots,u.keep b ob q n hb hx⟩
theorem Un.kept(k:∀b u,h.get? b=aA u->h'.get? b=aA u):Un fs ex H H h h':=
 ⟨λb ob q _ _ _=>k b ob q,λb ob q _ _ _=>⟨ob.slots,k b ob q⟩,λ_ _ _ n _=>n,λb ob q _=>⟨ob,k b ob q⟩,λ_ _ q=>q,λ_ _ _ q=>q,λ_ ps q=>⟨#[],by rw[q];simp⟩⟩
theorem Un.refl:Un fs ex H H h h:=Un.kept λ_ _ q=>q
theorem Un.laid(k:∀b u,h.get? b=aA u->h'.get? b=aA u)(hp:h.objs.size<=a)(hn:H a=none):Un fs ex H (upd H a o) h h' where
 keep:=λb u q _ _ _=>k b u q
 slot:=λb u q _ _ _=>⟨u.slots,k b u q⟩
 free:=λb u q n _=>by rw[upd_ne (bO (af (aT q) hp))];exact n
 there:=λb u q _=>⟨u,k b u q⟩
 tups:=λb xs q=>by rw[upd_ne (ZJ q hn)];exact q
 frzs:=λb u xs q=>by rw[upd_ne (ZJ q hn)];exact q
 tbls:=λb ps q=>⟨#[],by rw[upd_ne (ZJ q hn),q];simp⟩
theorem Un.write(mu:UR (H x))(he:e=x\/H e=aA (.own x))(k:∀b u,b≠e->h.get? b=aA u->h'.get? b=aA u)(heo:∃u,h'.get? e=aA u):Un fs ex H (upd H x o) h h':=by
 have hx:∀b,H b=none->b≠x:=λb n z=>by subst z;rw[n] at mu;exact mu
 have hb:∀b,H b=none->b≠e:=λb n z=>by
  subst z;rcases he with r | r
  ·exact hx b n r
  ·rw[n] at r;cases r
 have hm:∀b u,H b=aA u->¬UR (aA u)->b≠x:=λb u q nm z=>by subst z;rw[q] at mu;exact nm mu
 refine⟨λb u q n _ _=>k b u (hb b n) q,λb u q n _ _=>⟨u.slots,k b u (hb b n) q⟩,λb u q n _=>by rw[upd_ne (hx b n)];exact n,λb u q _=>?_,
  λb xs q=>by rw[upd_ne (hm b _ q λz=>z)];exact q,λb u xs q=>by rw[upd_ne (hm b _ q λz=>z)];exact q,λb ps q=>⟨#[],by rw[upd_ne (hm b _ q λz=>z),q];simp⟩⟩
 by_cases hbe:b=e
 ·subst hbe;exact heo
 ·exact⟨u,k b u hbe q⟩
end
def trk(h:bV)(H:Hp):List aH:=(bN h.objs.size).filter λa=>(H a).isSome
def Ny(h:bV)(H:Hp):bV:=PySem.W.hideAll h (trk h H)
theorem JV(h:bV)(H:Hp):(Ny h H).objs.size=h.objs.size:=PySem.W.hideAll_size _ _
theorem HC{h:bV}{H:Hp}{b:aH}{o:ck}(e:h.get? b=aA o)(n:H b=none):(Ny h H).get? b=aA o:=
 PySem.W.hideAll_get _ e λhm=>by have q:(H b).isSome=aC:=(dj.mp hm).2;rw[n] at q;simp at q
theorem F1{h:bV}{H:Hp}{b:aH}{o:ck}(e:(Ny h H).get? b=aA o):h.get? b=aA o/\H b=none:=by
 have e':h.get? b=aA o:=PySem.W.of_hideAll (trk h H) e;refine⟨e',?_⟩
 cases q:H b with
 | none=>rfl
 | some x=>
  have hm:b∈trk h H:=dj.mpr ⟨bX.mpr (aT e'),by simp[q]⟩;have z:(Ny h H).get? b=none:=PySem.W.hideAll_none (trk h H) hm;rw[z] at e;cases e
def F2(g h:bV)(L:aH):List (aH×ck):=(bN h.objs.size).filterMap λa=>if a=L\/(g.get? a).isSome=aC then none else(h.get? a).map λo=>(a,o)
def m6(g h:bV)(L d:aH):List (aH×ck):=(F2 g h L).filter λp=>decide (p.1≠d)
structure Mod(K:aG)(mg:aR->Option aE)(base:bV):Prop where
 kin:K.In base
 glob:base.Ns ao mg
 blt:∃mb,base.Ns l4 mb/\∀x:aR,x≠"__name__"->mb x=eD x
 nolimit:base.NoLimit
structure Cx where
 prog:bC
 w:b6
 K:aG
 mg:aR->Option aE
 base:bV
 A:b5
 N:List aR
 s₀:aI
 H₀:Hp
 env:iu
 outer:List iu
 stack:List iu
 ex:List aH
 fn:aR->Bool
 calm:Bool
 pn:List (aH×ck)
 xe:aE->aI->Prop
def Nz(l:List iu):List aH:=l.filterMap (·.frame)
abbrev Cx.fs(X:Cx):List aH:=Nz X.outer
def Vis(sc:fJ)(x:aR):Prop:=sc.names.lookup x=aA .local\/sc.names.lookup x=aA .cell\/sc.names.lookup x=aA .free
def DN(sc:fJ)(x:aR):Prop:=sc.names.lookup x=aA .local\/sc.names.lookup x=aA .cell
def Za9(env:iu)(h:bV)(m:aR->Option aE)(x:aR)(u:aE):Prop:=
 (env.kindOf x=aA .local/\m x=aA u)\/((env.kindOf x=aA .cell\/env.kindOf x=aA .free)/\∃c,env.cells.lookup x=aA c/\h.IsCell c (aA u))
structure Cx.Ok(X:Cx):Prop where
 mod:Mod X.K X.mg X.base
 kind:X.env.scope.kind = .function
 glob:X.env.globals=ao
 blt:X.env.builtins=l4
 above:X.s₀.heap.objs.size<=X.env.locals
 inj:∀x y c,X.env.cells.lookup x=aA c->X.env.cells.lookup y=aA c->x=y
 has:∀x,(X.env.kindOf x=aA .cell\/X.env.kindOf x=aA .free)->∃c,X.env.cells.lookup x=aA c
 cab:∀x c,X.fn x=aC->X.env.cells.lookup x=aA c->X.s₀.heap.objs.size<=c
 hd:X.calm=aC->X.A.handled=none
 frames:X.A.frames=aA X.stack
 stk:X.stack=X.outer\/(X.stack=X.env::X.outer/\X.env.frame=aA X.env.locals)
 exf:∀b∈X.ex,b≠X.env.locals/\∀x c,X.env.cells.lookup x=aA c->c≠b
 bs:∀b o,X.base.get? b=aA o->X.s₀.heap.get? b=aA o/\X.H₀ b=none
 bsz:X.base.objs.size<=X.s₀.heap.objs.size
 noex:∀b o,X.base.get? b=aA o->b∉X.ex
 exfs:∀b∈X.ex,b∉X.fs
 funs:X.s₀.heap.FunFrames X.base X.outer
 frf:∀b∈X.fs,X.H₀ b=none
structure Inv(X:Cx)(m3:List (aH×ck))(σ:List (Option V))(H:Hp)(s:aI):Prop where
 ok:X.Ok
 os:s.os=X.s₀.os
 bare:iG s.gens
 base:Un X.fs X.ex X.H₀ H X.s₀.heap s.heap
 loc:∃m,s.heap.Ns X.env.locals m/\∀(i:Nat)(x:aR)(v:V),X.N[i]?=aA x->σ[i]?=aA (aA v)->Vis X.env.scope x->∃u,RelV v u/\Za9 X.env s.heap m x u
 cell:∀x c,X.env.cells.lookup x=aA c->∃v,s.heap.IsCell c v
 free:H X.env.locals=none
 freeC:∀x c,X.env.cells.lookup x=aA c->H c=none
 pin:∀p∈X.pn++m3,s.heap.get? p.1=aA p.2/\H p.1=none/\p.1≠X.env.locals/\p.1∉X.fs/\∀v,p.2.data≠.cell v
 hok:HOk X.prog X.w H s.heap
 len:σ.length=X.N.length
section
variable {X:Cx} {m3:List (aH×ck)} {σ:List (Option V)} {H H':Hp} {s:aI} {h':bV}
theorem Cx.Ok.nofr(ok:X.Ok){b:aH}{o:ck}(e:X.base.get? b=aA o):b∉X.fs:=λhb=>by have:=(ok.funs.mem hb).1;rw[e] at this;cases this
theorem Inv.bs(I:Inv X m3 σ H s):∀b o,X.base.get? b=aA o->s.heap.get? b=aA o/\H b=none:=λb o e=>
 ⟨I.base.keep b o (I.ok.bs b o e).1 (I.ok.bs b o e).2 (I.ok.nofr e) (I.ok.noex b o e),I.base.free b o (I.ok.bs b o e).1 (I.ok.bs b o e).2 (I.ok.noex b o e)⟩
theorem Inv.bk(I:Inv X m3 σ H s):∀b o,X.base.get? b=aA o->s.heap.get? b=aA o:=λb o e=>(I.bs b o e).1
theorem Inv.mod(I:Inv X m3 σ H s):Mod X.K X.mg X.base:=I.ok.mod
theorem Inv.kIn(I:Inv X m3 σ H s):X.K.In s.heap:=I.ok.mod.kin.keeps I.bk
theorem Inv.fr(I:Inv X m3 σ H s):∃m,Fr X.base X.env.locals s.heap m:=
 let⟨m,hn,_⟩:=I.loc
 ⟨m,hn,I.bk,bu I.ok.bsz I.ok.above⟩
theorem Inv.lt(I:Inv X m3 σ H s):X.env.locals<s.heap.objs.size:=let⟨_,hn,_⟩:=I.loc;hn.lt
theorem Inv.sz(I:Inv X m3 σ H s):X.s₀.heap.objs.size<=s.heap.objs.size:=bu I.ok.above (cy I.lt)
theorem Inv.nofs(I:Inv X m3 σ H s){a:aH}(h:s.heap.objs.size<=a):a∉X.fs:=λhb=>by obtain⟨_,o,ho,_⟩:=I.ok.funs.mem hb;exact absurd (af (aT ho) (bu I.sz h)) (cI _)
theorem Inv.cne(I:Inv X m3 σ H s):∀x c,X.env.cells.lookup x=aA c->c≠X.env.locals:=λx c e z=>by obtain⟨v,o,ho,hd⟩:=I.cell x c e;obtain⟨m,⟨o',es,ep,ho',hd',_⟩,_⟩:=I.loc;rw[z,ho'] at ho;cases ho;rw[hd'] at hd;cases hd
theorem Inv.funs(I:Inv X m3 σ H s):s.heap.FunFrames X.base X.outer:=by
 have all:∀(l:List iu),(∀b∈Nz l,b∈X.fs)->X.s₀.heap.FunFrames X.base l->s.heap.FunFrames X.base l:=by
  intro l
  induction l with
  | nil=>intro _ _;trivial
  | cons env r ih=>
   intro hs hl;obtain⟨hk,⟨L,o,hf,hn,ho,hd⟩,hr⟩:=hl;have hL:L∈X.fs:=hs L (by unfold Nz;rw[iC,hf];exact a9);obtain⟨sl,e⟩:=I.base.slot L o ho (I.ok.frf L hL) hL λz=>I.ok.exfs L z hL;exact⟨hk,⟨L,_,hf,hn,e,hd⟩,ih (λb hb=>hs b (by unfold Nz;rw[iC,hf];exact aQ _ hb)) hr⟩
 exact all X.outer (λ_ hb=>hb) I.ok.funs
theorem Inv.stack(I:Inv X m3 σ H s):s.heap.FunFrames X.base X.stack:=by
 rcases I.ok.stk with e | ⟨e,hf⟩
 ·rw[e];exact I.funs
 ·rw[e];obtain⟨m,hn,_⟩:=I.loc;refine .cons (by rw[I.ok.kind];decide) hf hn ?_ I.funs;exact cZ (bu I.ok.bsz I.ok.above)
theorem Inv.stkSub(I:Inv X m3 σ H s):∀b∈Nz X.stack,b∈X.env.locals::X.fs:=λb hb=>by
 rcases I.ok.stk with e | ⟨e,hf⟩
 ·rw[e] at hb;exact aQ _ hb
 ·rw[e] at hb;unfold Nz at hb;rw[iC,hf] at hb;exact hb
theorem Inv.stkFree(I:Inv X m3 σ H s):∀b∈Nz X.stack,H b=none:=λb hb=>by
 rcases aV.mp (I.stkSub b hb) with e | hb
 ·rw[e];exact I.free
 ·obtain⟨_,o,ho,_⟩:=I.ok.funs.mem hb;exact I.base.free b o ho (I.ok.frf b hb) λz=>I.ok.exfs b z hb
theorem Inv.step{g':Array kh}{t':Nat}{d':Drawn}{ch:List aH}(I:Inv X m3 σ H s)
  (hch:∀b∈ch,(b∈X.ex\/X.s₀.heap.objs.size<=b)/\b≠X.env.locals/\(∀x c,X.env.cells.lookup x=aA c->c≠b)/\∀p∈X.pn++m3,p.1≠b)
  (keep:∀b o,b≠X.env.locals->b∉X.fs->b∉ch->s.heap.get? b=aA o->H b=none->h'.get? b=aA o)
  (slot:∀b o,b≠X.env.locals->b∈X.fs->b∉ch->s.heap.get? b=aA o->H b=none->∃sl,h'.get? b=aA { o with slots:=sl }) (free:∀b o,b∉ch->s.heap.get? b=aA o->H b=none->H' b=none)
  (there:∀b o,b∉ch->s.heap.get? b=aA o->∃o',h'.get? b=aA o')
  (tups:∀b xs,H b=aA (.tup xs)->H' b=aA (.tup xs)) (frzs:∀b o u,H b=aA (.frz o u)->H' b=aA (.frz o u)) (tbls:∀b ps,H b=aA (.tbl ps)->∃more,H' b=aA (.tbl (ps++more)))
  (ns:∀m,s.heap.Ns X.env.locals m->h'.Ns X.env.locals m) (hok:HOk X.prog X.w H' h') (hg:iG g') :
  Inv X m3 σ H' { s with heap:=h',gens:=g',drawn:=d',toks:=t' }:=by
 have neL:∀b o,X.s₀.heap.get? b=aA o->b≠X.env.locals:=λb o e=>bO (af (aT e) I.ok.above)
 have neC:∀b o,X.s₀.heap.get? b=aA o->b∉X.ex->b∉ch:=λb o e hx hb=>by
  rcases(hch b hb).1 with z | z
  ·exact hx z
  ·exact absurd (af (aT e) z) (cI _)
 have cellK:∀x c,X.env.cells.lookup x=aA c->∀v,s.heap.IsCell c v->h'.IsCell c v:=λx c e v ⟨o,ho,hd⟩=>by
  have nch:c∉ch:=λz=>(hch c z).2.2.1 x c e rfl;by_cases hc:c∈X.fs
  ·obtain⟨sl,q⟩:=slot c o (I.cne x c e) hc nch ho (I.freeC x c e);exact⟨_,q,hd⟩
  ·exact⟨o,keep c o (I.cne x c e) hc nch ho (I.freeC x c e),hd⟩
 refine⟨I.ok,I.os,hg,⟨λb o e n hb hx=>?_,λb o e n hb hx=>?_,λb o e n hx=>?_,λb o e hx=>?_,λb xs e=>tups b xs (I.base.tups b xs e),λb o xs e=>frzs b o xs (I.base.frzs b o xs e),λb ps e=>?_⟩,?_,λx c e=>?_,?_,λx c e=>?_,λp hp=>?_,hok,I.len⟩
 ·exact keep b o (neL b o e) hb (neC b o e hx) (I.base.keep b o e n hb hx) (I.base.free b o e n hx)
 ·obtain⟨sl,e1⟩:=I.base.slot b o e n hb hx;obtain⟨sl',e2⟩:=slot b _ (neL b o e) hb (neC b o e hx) e1 (I.base.free b o e n hx);exact⟨sl',e2⟩
 ·obtain⟨o',e1⟩:=I.base.there b o e hx;exact free b o' (neC b o e hx) e1 (I.base.free b o e n hx)
 ·obtain⟨o',e1⟩:=I.base.there b o e hx;exact there b o' (neC b o e hx) e1
 ·obtain⟨m1,e1⟩:=I.base.tbls b ps e;obtain⟨m2,e2⟩:=tbls b _ e1;exact⟨m1++m2,by rw[e2,Array.append_assoc]⟩
 ·obtain⟨m,hn,hl⟩:=I.loc;refine⟨m,ns m hn,λi x v e1 e2 e3=>?_⟩;obtain⟨u,r,l⟩:=hl i x v e1 e2 e3;refine⟨u,r,?_⟩;rcases l with l | ⟨k,c,e,z⟩
  ·exact .inl l
  ·exact .inr ⟨k,c,e,cellK x c e _ z⟩
 ·obtain⟨v,z⟩:=I.cell x c e;exact⟨v,cellK x c e v z⟩
 ·obtain⟨m,⟨o,_,_,ho,_⟩,_⟩:=I.loc;exact free _ o (λz=>(hch _ z).2.1 rfl) ho I.free
 ·obtain⟨v,o,ho,hd⟩:=I.cell x c e;exact free c o (λz=>(hch c z).2.2.1 x c e rfl) ho (I.freeC x c e)
 ·obtain⟨e,n,ne,nf,d⟩:=I.pin p hp;have nch:p.1∉ch:=λz=>(hch p.1 z).2.2.2 p hp rfl;exact⟨keep p.1 p.2 ne nf nch e n,free p.1 p.2 nch e n,ne,nf,d⟩
theorem Inv.un{t':Nat}(I:Inv X m3 σ H s)(u:Un X.fs [] H H' s.heap h')(hok:HOk X.prog X.w H' h'):Inv X m3 σ H' { s with heap:=h',toks:=t' }:=by
 obtain⟨m,⟨o,es,ep,ho,r⟩,_⟩:=id I.loc;obtain⟨sl,hL⟩:=u.any ho I.free (by simp)
 exact I.step (g':=s.gens) (d':=s.drawn) (ch:=[]) (λ_ z=>nomatch z) (λb o _ hb _ e n=>u.keep b o e n hb (by simp)) (λb o _ hb _ e n=>u.slot b o e n hb (by simp)) (λb o _ e n=>u.free b o e n (by simp)) (λb o _ e=>u.there b o e (by simp)) u.tups u.frzs u.tbls (λm' hm=>by
  obtain⟨o',es',ep',ho',r'⟩:=hm;rw[ho] at ho';cases ho';exact⟨_,es',ep',hL,r'⟩) hok I.bare
theorem Inv.call{g':Array kh}{t':Nat}{d':Drawn}{ch:List aH}(I:Inv X m3 σ H s)(u:Un (Nz X.stack) ch H H' s.heap h')(hok:HOk X.prog X.w H' h')(hg:iG g')
  (hch:∀b∈ch,(b∈X.ex\/X.s₀.heap.objs.size<=b)/\b≠X.env.locals/\(∀x c,X.env.cells.lookup x=aA c->c≠b)/\∀p∈X.pn++m3,p.1≠b) :
  Inv X m3 σ H' { s with heap:=h',gens:=g',drawn:=d',toks:=t' }:=by
 obtain⟨m,⟨o,es,ep,ho,r⟩,_⟩:=id I.loc;obtain⟨sl,hL⟩:=u.any ho I.free λz=>(hch _ z).2.1 rfl
 exact I.step (ch:=ch) hch (λb o hL hb hc e n=>u.keep b o e n (λz=>(aV.mp (I.stkSub b z)).elim hL hb) hc) (λb o _ _ hc e n=>u.any e n hc) (λb o hc e n=>u.free b o e n hc) (λb o hc e=>u.there b o e hc) u.tups u.frzs u.tbls (λm' hm=>by
  obtain⟨o',es',ep',ho',r'⟩:=hm;rw[ho] at ho';cases ho';exact⟨_,es',ep',hL,r'⟩) hok hg
theorem Inv.turned{t':Nat}{it:aH}(I:Inv X m3 σ H s)(k:∀b o,b≠it->s.heap.get? b=aA o->h'.get? b=aA o)(hn:H it=none)(hL:it≠X.env.locals)
  (h1:it∈X.ex\/X.s₀.heap.objs.size<=it) (h2:∀x c,X.env.cells.lookup x=aA c->c≠it) (h3:∀p∈X.pn++m3,p.1≠it):Inv X m3 σ H { s with heap:=h',toks:=t' }:=by
 have nit:∀b u,H b=aA u->b≠it:=λb u e z=>by rw[z,hn] at e;cases e
 refine I.step (g':=s.gens) (d':=s.drawn) (ch:=[it]) (λb hb=>?_) (λb o _ _ hc e _=>k b o (λz=>hc (by simp[z])) e) (λb o _ _ hc e _=>⟨o.slots,k b o (λz=>hc (by simp[z])) e⟩) (λ_ _ _ _ n=>n)
  (λb o hc e=>⟨o,k b o (λz=>hc (by simp[z])) e⟩) (λ_ _ e=>e) (λ_ _ _ e=>e) (λb ps e=>⟨#[],by rw[e];simp⟩) (λm hm=>?_) (λb u e=>?_) I.bare
 ·have e:b=it:=by simpa using hb
  subst e;exact⟨h1,hL,h2,h3⟩
 ·obtain⟨o,es,ep,ho,r⟩:=hm;exact⟨o,es,ep,k _ o (cJ hL) ho,r⟩
 ·refine(I.hok b u e).stay (λc v hc q=>k c v ?_ q) (λ_ q=>q) λ_ _ q=>q;rcases hc with z | z
  ·rw[z];exact nit b u e
  ·exact nit c _ z
theorem Inv.tok(I:Inv X m3 σ H s)(t:Nat):Inv X m3 σ H { s with toks:=t }:=I.un (h':=s.heap) (t':=t) Un.refl I.hok
theorem Inv.kept{t':Nat}(I:Inv X m3 σ H s)(k:∀b u,s.heap.get? b=aA u->h'.get? b=aA u):Inv X m3 σ H { s with heap:=h',toks:=t' }:=I.un (Un.kept k) (I.hok.kept k)
theorem Inv.laid{a:aH}{o:HO}{t':Nat}(I:Inv X m3 σ H s)(k:∀b u,s.heap.get? b=aA u->h'.get? b=aA u)(hp:s.heap.objs.size<=a)(new:ObjOk X.prog X.w (upd H a o) h' a o) :
  Inv X m3 σ (upd H a o) { s with heap:=h',toks:=t' }:=I.un (Un.laid k hp (I.hok.fresh hp)) (I.hok.laid k hp new)
theorem Inv.write{x e:aH}{o:HO}{t':Nat}(I:Inv X m3 σ H s)(mu:UR (H x))(he:e=x\/H e=aA (.own x))(k:∀b u,b≠e->s.heap.get? b=aA u->h'.get? b=aA u)(heo:∃u,h'.get? e=aA u)
  (new:ObjOk X.prog X.w (upd H x o) h' x o):Inv X m3 σ (upd H x o) { s with heap:=h',toks:=t' }:=I.un (Un.write mu he k heo) (I.hok.write mu he k heo new)
theorem Inv.weak{σ':List (Option V)}(I:Inv X m3 σ H s)(hl:σ'.length=σ.length)(w:∀(i:Nat) v,σ'[i]?=aA (aA v)->σ[i]?=aA (aA v)):Inv X m3 σ' H s:=
 ⟨I.ok,I.os,I.bare,I.base,let⟨m,hn,hl'⟩:=I.loc;⟨m,hn,λi x v e1 e2 e3=>hl' i x v e1 (w i v e2) e3⟩,I.cell,I.free,I.freeC,I.pin,I.hok,hl.trans I.len⟩
theorem Inv.pins_of{pins':List (aH×ck)}(I:Inv X m3 σ H s)(h:∀p∈pins',s.heap.get? p.1=aA p.2/\H p.1=none/\p.1≠X.env.locals/\p.1∉X.fs/\∀v,p.2.data≠.cell v):Inv X pins' σ H s:=
 ⟨I.ok,I.os,I.bare,I.base,I.loc,I.cell,I.free,I.freeC,λp hp=>(au.mp hp).elim (λz=>I.pin p (bG _ z)) (h p),I.hok,I.len⟩
theorem Pc{N:List aR}(hN:N.Nodup){i j:Nat}{x:aR}(a:N[i]?=aA x)(b:N[j]?=aA x):i=j:=by obtain⟨h1,e1⟩:=aL.mp a;obtain⟨h2,e2⟩:=aL.mp b;exact(lF hN).mp (e1.trans e2.symm)
theorem JW{M:lQ}{A:b5}{E:aE->aI->Prop}{i:Nat}{x:aR}{v:V}{u:aE}{Q:Unit->aI->Prop}(I:Inv X m3 σ H s)(hN:X.N.Nodup)(hi:X.N[i]?=aA x)(hx:DN X.env.scope x)(r:RelV v u)
  (h:∀s',Inv X m3 (σ.set i (aA v)) H s'->(∃a,gD a s.heap s'.heap/\(a=X.env.locals\/X.env.cells.lookup x=aA a))->Q () s') (hf:X.fn x=aC\/X.env.scope.names.lookup x=aA .local:=by first | exact .inl rfl | exact .inr rfl | assumption):aZ M A (storeName X.env x u) Q E s:=by
 obtain⟨m,hn,hl⟩:=id I.loc;have hcls:(X.env.scope.kind==.class || (X.env.scope.kind==.module&&X.env.locals != X.env.globals))=aB:=by rw[I.ok.kind];rfl
 have hiσ:i<σ.length:=by rw[I.len];exact(aL.mp hi).1
 have cne:=I.cne
 have tracked:∀{a:aH}{h':bV},(∃o,s.heap.get? a=aA o/\H a=none)->gD a s.heap h'->HOk X.prog X.w H h':=λ{a h'} ha hs b ob e=>by
  obtain⟨_,_,hfree⟩:=ha;refine(I.hok b ob e).stay (λc w' hc q=>(hs.2 c ?_).trans q) (λ_ q=>q) λ_ _ q=>q;rintro rfl;rcases hc with rfl | hc
  ·rw[hfree] at e;cases e
  ·rw[hfree] at hc;cases hc
 rcases hx with hk | hk
 ·refine wpAny_storeName_local hk hn (λh' hn' hs=>?_) hcls;obtain⟨oL,_,_,hoL,_⟩:=id hn;refine h _ ⟨I.ok,I.os,I.bare,⟨λb o e n hb hx=>?_,λb o e n hb hx=>?_,I.base.free,λb o e hx=>?_,I.base.tups,I.base.frzs,I.base.tbls⟩,⟨_,hn',λj y v' e1 e2 e3=>?_⟩,λy c e=>?_,I.free,I.freeC,λp hp=>?_,tracked ⟨oL,hoL,I.free⟩ hs,by simpa using I.len⟩ ⟨_,hs,.inl rfl⟩
  ·exact(hs.2 b (bO (af (aT e) I.ok.above))).trans (I.base.keep b o e n hb hx)
  ·obtain⟨sl,e1⟩:=I.base.slot b o e n hb hx;exact⟨sl,(hs.2 b (bO (af (aT e) I.ok.above))).trans e1⟩
  ·obtain⟨o',e1⟩:=I.base.there b o e hx;exact⟨o',(hs.2 b (bO (af (aT e) I.ok.above))).trans e1⟩
  ·by_cases hj:j=i
   ·subst hj;rw[hi] at e1;cases e1;rw[fG hiσ] at e2;cases e2;exact⟨u,r,.inl ⟨hk,by simp⟩⟩
   ·rw[dC (cJ hj)] at e2;obtain⟨u',r',q⟩:=hl j y v' e1 e2 e3;refine⟨u',r',?_⟩;rcases q with⟨k,e⟩ | ⟨k,c,e,z⟩
    ·refine .inl ⟨k,?_⟩;have:y≠x:=λe=>hj (Pc hN e1 (e▸hi));simp[this,e]
    ·exact .inr ⟨k,c,e,z.sameBut hs (cne y c e)⟩
  ·obtain⟨w',z⟩:=I.cell y c e;exact⟨w',z.sameBut hs (cne y c e)⟩
  ·obtain⟨e,n,ne,nf,d⟩:=I.pin p hp;exact⟨(hs.2 p.1 ne).trans e,n,ne,nf,d⟩
 ·have hfn:X.fn x=aC:=by
   rcases hf with z | z
   ·exact z
   ·rw[z] at hk;cases hk
  obtain⟨c,hc⟩:=I.ok.has x (.inl hk);obtain⟨w',z⟩:=I.cell x c hc;refine wpAny_storeName_cell I.ok.kind hk hc z (λh' hc' hs=>?_);obtain⟨oc,hoc,hocd⟩:=id z;refine h { s with heap:=h' } ⟨I.ok,I.os,I.bare,⟨λb o e n hb hx=>?_,λb o e n hb hx=>?_,I.base.free,λb o e hx=>?_,I.base.tups,I.base.frzs,I.base.tbls⟩,⟨m,hn.sameBut hs (cJ (cne x c hc)),λj y v' e1 e2 e3=>?_⟩,λy c' e=>?_,I.free,I.freeC,λp hp=>?_,tracked ⟨oc,hoc,I.freeC x c hc⟩ hs,by simpa using I.len⟩ ⟨c,hs,.inr hc⟩
  ·exact(hs.2 b (bO (af (aT e) (I.ok.cab x c hfn hc)))).trans (I.base.keep b o e n hb hx)
  ·obtain⟨sl,e1⟩:=I.base.slot b o e n hb hx;exact⟨sl,(hs.2 b (bO (af (aT e) (I.ok.cab x c hfn hc)))).trans e1⟩
  ·obtain⟨o',e1⟩:=I.base.there b o e hx;exact⟨o',(hs.2 b (bO (af (aT e) (I.ok.cab x c hfn hc)))).trans e1⟩
  ·by_cases hj:j=i
   ·subst hj;rw[hi] at e1;cases e1;rw[fG hiσ] at e2;cases e2;exact⟨u,r,.inr ⟨.inl hk,c,hc,hc'⟩⟩
   ·rw[dC (cJ hj)] at e2;obtain⟨u',r',q⟩:=hl j y v' e1 e2 e3;refine⟨u',r',?_⟩;rcases q with q | ⟨k,c',e,z'⟩
    ·exact .inl q
    ·refine .inr ⟨k,c',e,z'.sameBut hs ?_⟩;rintro rfl;exact hj (Pc hN e1 (I.ok.inj _ _ _ e hc▸hi))
  ·by_cases hcc:c'=c
   ·subst hcc;exact⟨_,hc'⟩
   ·obtain⟨w2,z2⟩:=I.cell y c' e;exact⟨w2,z2.sameBut hs hcc⟩
  ·obtain⟨e,n,ne,nf,d⟩:=I.pin p hp;refine⟨(hs.2 p.1 ?_).trans e,n,ne,nf,d⟩;intro q;rw[q,hoc] at e;have q':oc=p.2:=bU e;exact d w' (by rw[<-q'];exact hocd)
theorem VN{M:lQ}{A:b5}{E:aE->aI->Prop}{i:Nat}{x:aR}{v:V}{u:aE}{Q:Unit->aI->Prop}(I:Inv X m3 σ H s)(hN:X.N.Nodup)(hi:X.N[i]?=aA x)(hx:DN X.env.scope x)(r:RelV v u)
  (h:∀s',Inv X m3 (σ.set i (aA v)) H s'->Q () s') (hf:X.fn x=aC\/X.env.scope.names.lookup x=aA .local:=by first | exact .inl rfl | exact .inr rfl | assumption):aZ M A (storeName X.env x u) Q E s:=
 JW I hN hi hx r (λs' I' _=>h s' I') hf
theorem Inv.call'{s':aI}{ch:List aH}(I:Inv X m3 σ H s)(ho:s'.os=s.os)(u:Un (Nz X.stack) ch H H' s.heap s'.heap)(hok:HOk X.prog X.w H' s'.heap)(hg:iG s'.gens)
  (hch:∀b∈ch,(b∈X.ex\/X.s₀.heap.objs.size<=b)/\b≠X.env.locals/\(∀x c,X.env.cells.lookup x=aA c->c≠b)/\∀p∈X.pn++m3,p.1≠b):Inv X m3 σ H' s':=by
 obtain⟨h',g',d',t',o'⟩:=s';have e:o'=s.os:=ho;subst e;exact I.call (g':=g') (t':=t') (d':=d') u hok hg hch
end
abbrev XK:=aE->Option aH->Hp->Prop
abbrev St:=List (Option V)
abbrev VK:=V->Hp->Prop
abbrev TE:=St->Hp->VK->Prop
abbrev TT:=St->Hp->(Bool->Hp->Prop)->Prop
abbrev TA:=St->Hp->(List V->Hp->Prop)->Prop
structure Uz where
 nx:St->Hp->Prop
 rt:VK
 bk:St->Hp->Prop:=λ_ _=>False
 ct:St->Hp->Prop:=λ_ _=>False
abbrev TS:=Uz->St->Hp->Prop
def EP(X:Cx)(m3:List (aH×ck))(σ:St)(Q:VK)(u:aE)(s':aI):Prop:=∃v H',Inv X m3 σ H' s'/\RelV v u/\Q v H'
def TP(X:Cx)(m3:List (aH×ck))(σ:St)(Q:Bool->Hp->Prop)(b:Bool)(s':aI):Prop:=∃H',Inv X m3 σ H' s'/\Q b H'
def AP(X:Cx)(m3:List (aH×ck))(σ:St)(Q:List V->Hp->Prop)(us:List aE)(s':aI):Prop:=∃vs H',Inv X m3 σ H' s'/\Vals vs us/\Q vs H'
def SP(X:Cx)(m3:List (aH×ck))(D:Uz)(f:Flow)(s':aI):Prop:=
 match f with
 | .next=>∃σ' H',Inv X m3 σ' H' s'/\D.nx σ' H'
 | .brk=>∃σ' H',Inv X m3 σ' H' s'/\D.bk σ' H'
 | .cont=>∃σ' H',Inv X m3 σ' H' s'/\D.ct σ' H'
 | .ret u=>∃v σ' H',Inv X m3 σ' H' s'/\RelV v u/\D.rt v H'
def PE(X:Cx)(e:aw)(t:TE):Prop:=
 ∀(m3:List (aH×ck))(s:aI)(σ:St)(H:Hp)(Q:VK),Inv X m3 σ H s->t σ H Q->aZ (model X.prog X.w) X.A (eval e X.env) (EP X m3 σ Q) X.xe s
def PT(X:Cx)(e:aw)(t:TT):Prop:=
 ∀(m3:List (aH×ck))(s:aI)(σ:St)(H:Hp)(Q:Bool->Hp->Prop),Inv X m3 σ H s->t σ H Q->aZ (model X.prog X.w) X.A (l5 e X.env (eval e X.env)) (TP X m3 σ Q) X.xe s
def PW(X:Cx)(e:aw)(t:TT):Prop:=
 ∀(whole:Sem aE)(m3:List (aH×ck))(s:aI)(σ:St)(H:Hp)(Q:Bool->Hp->Prop),Inv X m3 σ H s->t σ H Q->aZ (model X.prog X.w) X.A (l5 e X.env whole) (TP X m3 σ Q) X.xe s
theorem PW.pt{X:Cx}{e:aw}{t:TT}(h:PW X e t):PT X e t:=h _
def PA(X:Cx)(es:List aw)(t:TA):Prop:=
 ∀(pos:dm)(m3:List (aH×ck))(s:aI)(σ:St)(H:Hp)(Q:List V->Hp->Prop),Inv X m3 σ H s->t σ H Q->aZ (model X.prog X.w) X.A (spliced (cL pos (aO es X.env))) (AP X m3 σ Q) X.xe s
def PS(X:Cx)(st:bj)(t:TS):Prop:=
 ∀(m3:List (aH×ck))(s:aI)(σ:St)(H:Hp)(D:Uz),Inv X m3 σ H s->t D σ H->aZ (model X.prog X.w) X.A (exec st X.env) (SP X m3 D) X.xe s
def PSs(X:Cx)(st:List bj)(t:TS):Prop:=
 ∀(m3:List (aH×ck))(s:aI)(σ:St)(H:Hp)(D:Uz),Inv X m3 σ H s->t D σ H->aZ (model X.prog X.w) X.A (execs st X.env) (SP X m3 D) X.xe s
theorem YD{α:Type}{t:Sem α}{Q Q':α->aI->Prop}{M:lQ}{A:b5}{E:aE->aI->Prop}{s:aI}(h:aZ M A t Q E s)(hQ:∀a s,Q a s->Q' a s):aZ M A t Q' E s:=ay h hQ λ_ _ x=>x
section
variable {X:Cx}
theorem bin{a b:aw}{ta tb:TE}(ha:PE X a ta)(hb:PE X b tb){m3:List (aH×ck)}{s:aI}{σ:St}{H:Hp}{R:V->V->Hp->Prop}(I:Inv X m3 σ H s)(h:ta σ H λx H1=>tb σ H1 λy H2=>R x y H2)
  {α:Type} {Q:α->aI->Prop} {f:aE->aE->Sem α}
  (hf:∀v u s2 x y H2,Inv X m3 σ H2 s2->RelV x v->RelV y u->R x y H2->aZ (model X.prog X.w) X.A (f v u) Q X.xe s2) :
  aZ (model X.prog X.w) X.A (eval a X.env) (λv s₁=>aZ (model X.prog X.w) X.A (eval b X.env) (λu s₂=>aZ (model X.prog X.w) X.A (f v u) Q X.xe s₂) X.xe s₁) X.xe s:=by
 refine YD (ha m3 s σ H _ I h) λv s1 ⟨x,H1,I1,r1,q1⟩=>?_;refine YD (hb m3 s1 σ H1 _ I1 q1) λu s2 ⟨y,H2,I2,r2,q2⟩=>?_;exact hf v u s2 x y H2 I2 r1 r2 q2
def Th(i:Nat):TE:=λσ H Q=>∃v,σ[i]?=aA (aA v)/\Q v H
def tC(v:V):TE:=λ_ H Q=>Q v H
theorem CG{i:Nat}{x:aR}{pos:dm}(hN:X.N[i]?=aA x)(hv:Vis X.env.scope x)(hd:(x==("__debug__" : aR))=aB:=by decide)(hcd:(x==("__classdict__" : aR))=aB:=by decide):PE X (.Name x pos) (Th i):=by
 intro m3 s σ H Q I h;obtain⟨v,e,h⟩:=h;obtain⟨m,hn,hl⟩:=I.loc;obtain⟨u,r,l⟩:=hl i x v hN e hv;have fin:EP X m3 σ Q u s:=⟨v,H,I,r,h⟩;rcases l with⟨hk,hm⟩ | ⟨hk,c,hc,hcell⟩
 ·exact l6 (jv I.ok.kind hk hn hm fin) hd
 ·rcases hk with hk | hk
  ·exact l6 (kN I.ok.kind hk hc hcell fin) hd
  ·exact l6 (wpAny_loadName_free I.ok.kind hk hc hcell fin hcd) hd
theorem CH{i j pos}:PE X (.Constant (.int i) j pos) (tC (.int i)):=λ_ _ _ H _ I h=>wpAny_Constant_int ⟨.int i,H,I.tok _,⟨_,rfl⟩,h⟩
theorem Ai{b j pos}:PE X (.Constant (.bool b) j pos) (tC (.bl b)):=λ_ _ _ H _ I h=>Constant_bool ⟨.bl b,H,I,rfl,h⟩
theorem HD{j pos}:PE X (.Constant .none j pos) (tC .non):=λ_ _ _ H _ I h=>kU ⟨.non,H,I,rfl,h⟩
theorem LF{x j pos}:PE X (.Constant (.str x) j pos) (tC (.str x)):=λ_ _ _ H _ I h=>Calls.Constant_str ⟨.str x,H,I.tok _,⟨_,rfl⟩,h⟩
def Gl(X:Cx)(x:aR):Prop:=X.env.kindOf x=aA .globalImplicit
theorem Wl{E:aE->aI->Prop}{m3:List (aH×ck)}{s:aI}{σ:St}{H:Hp}{x:aR}{u:aE}{pos:dm}{Q:aE->aI->Prop}(I:Inv X m3 σ H s)(hg:Gl X x)(hm:X.mg x=aA u)(h:Q u s)
  (hd:(x==("__debug__" : aR))=aB:=by decide):aZ (model X.prog X.w) X.A (eval (.Name x pos) X.env) Q E s:=
 iN I.ok.kind hg (Calls.loadGlobal_global (by rw[I.ok.glob];exact I.mod.glob.keeps I.bk) hm h) hd
theorem R3{E:aE->aI->Prop}{m3:List (aH×ck)}{s:aI}{σ:St}{H:Hp}{x:aR}{u:aE}{pos:dm}{Q:aE->aI->Prop}(I:Inv X m3 σ H s)(hg:Gl X x)(hm:X.mg x=none)(hv:eD x=aA u)(h:Q u s)
  (hn:x≠"__name__":=by decide) (hd:(x==("__debug__" : aR))=aB:=by decide):aZ (model X.prog X.w) X.A (eval (.Name x pos) X.env) Q E s:=by
 obtain⟨mb,h1,h2⟩:=I.mod.blt;exact iN I.ok.kind hg (Calls.loadGlobal_builtin (by rw[I.ok.glob];exact I.mod.glob.keeps I.bk) hm (by rw[I.ok.blt];exact h1.keeps I.bk) ((h2 x hn).trans hv) h) hd
theorem KN{x:aR}{v:V}{u:aE}{pos:dm}(hg:Gl X x)(hm:X.mg x=aA u)(r:RelV v u)(hd:(x==("__debug__" : aR))=aB:=by decide):PE X (.Name x pos) (tC v):=
 λ_ _ _ H _ I h=>Wl I hg hm ⟨v,H,I,r,h⟩ hd
variable {a b:aw} {ta tb:TE} {pos:dm}
def PC(X:Cx)(op:jJ)(a b:aw)(t:TE):Prop:=
 ∀(m3:List (aH×ck))(s:aI)(σ:St)(H:Hp)(Q:VK),Inv X m3 σ H s->t σ H Q->
  aZ (model X.prog X.w) X.A (eval a X.env) (λv s₁=>aZ (model X.prog X.w) X.A (eval b X.env) (λu s₂=>aZ (model X.prog X.w) X.A (ba op v u) (EP X m3 σ Q) X.xe s₂) X.xe s₁) X.xe s
theorem HE(b:aw){op:jJ}(h:op≠.In)(h2:op≠.NotIn):cP op b=aB:=by
 have e1:(op==jJ.In)=aB:=by cases op<;>first | rfl | exact absurd rfl h
 have e2:(op==jJ.NotIn)=aB:=by cases op<;>first | rfl | exact absurd rfl h2
 cases b<;>simp[cP,e1,e2]
def Aj(ta:TE):TE:=λσ H Q=>ta σ H λx H1=>Q (.bl (decide (x = .non))) H1
def DO(ta:TE):TE:=λσ H Q=>ta σ H λx H1=>Q (.bl (!decide (x = .non))) H1
theorem RelV.none_iff{x:V}{v:aE}(r:RelV x v):(v==bJ)=decide (x = .non):=by
 cases x with
 | non=>cases r;rfl
 | bl _=>cases r;rfl
 | int _=>obtain⟨t,rfl⟩:=r;rfl
 | str _=>obtain⟨t,rfl⟩:=r;rfl
 | byt _=>obtain⟨t,rfl⟩:=r;rfl
 | flt _=>obtain⟨t,rfl⟩:=r;rfl
 | ref _=>cases r;rfl
 | ty _=>cases r;rfl
theorem CI{j pos'}(ha:PE X a ta):PC X .Is a (.Constant .none j pos') (Aj ta):=by intro m3 s σ H Q I h;refine YD (ha m3 s σ H _ I h) λv s1 ⟨x,H1,I1,r1,q1⟩=>?_;exact kU (is_none_gen ⟨.bl _,H1,I1,by rw[r1.none_iff];rfl,q1⟩)
theorem F3{j pos'}(ha:PE X a ta):PC X .IsNot a (.Constant .none j pos') (DO ta):=by intro m3 s σ H Q I h;refine YD (ha m3 s σ H _ I h) λv s1 ⟨x,H1,I1,r1,q1⟩=>?_;exact kU (isnot_none_gen ⟨.bl _,H1,I1,by rw[r1.none_iff];rfl,q1⟩)
def tB(t:TE):TT:=λσ H Q=>t σ H λx H1=>∃c,x = .bl c/\Q c H1
theorem NA{op:jJ}{t:TE}(h:PC X op a b t)(h1:cP op b=aB:=by first | exact HE _ (by decide) (by decide) | rfl):PT X (.Compare a [op] [b] pos) (tB t):=by intro m3 s σ H Q I hw;refine jk (YD (h m3 s σ H _ I hw) λv s1 h1=>YD h1 λu s2 h2=>YD h2 λc s3 ⟨x,H1,I1,r1,q1⟩=>?_) h1;obtain⟨d,rfl,q⟩:=q1;cases r1;exact bg ⟨H1,I1,q⟩
theorem CJ{e:aw}{t:TE}(h:PE X e t)(he:∀whole,l5 e X.env whole=(do let v <-whole;standAt e.pos;holding [v] (truthy v)):=by intro _;rfl):PT X e (tB t):=by intro m3 s σ H Q I hw;refine isTrue_plain (YD (h m3 s σ H _ I hw) λv s1 ⟨x,H1,I1,r1,q1⟩=>?_) (he _);obtain⟨d,rfl,q⟩:=q1;cases r1;exact bg ⟨H1,I1,q⟩
variable {tA tB':TT} {m6:List aw}
def Ak(t u:TT):TT:=λσ H Q=>t σ H λc H1=>if c=aC then u σ H1 Q else Q aB H1
def tOr(t u:TT):TT:=λσ H Q=>t σ H λc H1=>if c=aC then Q aC H1 else u σ H1 Q
def Zba(t:TT):TT:=λσ H Q=>t σ H λc H1=>Q (!c) H1
theorem F4(ha:PT X a tA):PW X (.BoolOp .And [a] pos) tA:=by
 intro wh m3 s σ H Q I h;refine isTrue_and (YD (ha m3 s σ H Q I h) λc s1 e=>?_)
 cases c with
 | true=>exact isTrue_and_nil e
 | false=>exact e
theorem CK(ha:PT X a tA):PW X (.BoolOp .Or [a] pos) tA:=by
 intro wh m3 s σ H Q I h;refine isTrue_or (YD (ha m3 s σ H Q I h) λc s1 e=>?_)
 cases c with
 | false=>exact isTrue_or_nil e
 | true=>exact e
theorem CM(ha:PT X a tA)(hb:PW X (.BoolOp .And (b::m6) pos) tB'):PW X (.BoolOp .And (a::b::m6) pos) (Ak tA tB'):=by
 intro wh m3 s σ H Q I h;refine isTrue_and (YD (ha m3 s σ H _ I h) λc s1 ⟨H1,I1,q1⟩=>?_)
 cases c with
 | true=>exact hb wh m3 s1 σ H1 Q I1 q1
 | false=>exact⟨H1,I1,q1⟩
theorem Al(ha:PT X a tA)(hb:PW X (.BoolOp .Or (b::m6) pos) tB'):PW X (.BoolOp .Or (a::b::m6) pos) (tOr tA tB'):=by
 intro wh m3 s σ H Q I h;refine isTrue_or (YD (ha m3 s σ H _ I h) λc s1 ⟨H1,I1,q1⟩=>?_)
 cases c with
 | true=>exact⟨H1,I1,q1⟩
 | false=>exact hb wh m3 s1 σ H1 Q I1 q1
theorem CN(ha:PT X a tA):PT X (.UnaryOp .Not a pos) (Zba tA):=by intro m3 s σ H Q I h;exact isTrue_not (ha m3 s σ H (λc H1=>Q (!c) H1) I h)
def Am(ta tb:TE):TE:=λσ H Q=>ta σ H λx H1=>∃c,x = .bl c/\if c=aC then tb σ H1 Q else Q (.bl aB) H1
def Zbb(ta tb:TE):TE:=λσ H Q=>ta σ H λx H1=>∃c,x = .bl c/\if c=aC then Q (.bl aC) H1 else tb σ H1 Q
theorem CO{op}{t:TE}(h:PE X a t):PE X (.BoolOp op [a] pos) t:=λm3 s σ H Q I hw=>BoolOp_one (h m3 s σ H Q I hw)
theorem CP(ha:PE X a ta)(hb:PE X (.BoolOp .And (b::m6) pos) tb):PE X (.BoolOp .And (a::b::m6) pos) (Am ta tb):=by
 intro m3 s σ H Q I h;refine BoolOp_and (YD (ha m3 s σ H _ I h) λv s1 ⟨x,H1,I1,r1,q1⟩=>?_);obtain⟨c,rfl,q1⟩:=q1;cases r1;refine bg ?_
 cases c with
 | true=>exact hb m3 s1 σ H1 Q I1 q1
 | false=>exact⟨.bl aB,H1,I1,rfl,q1⟩
theorem An(ha:PE X a ta)(hb:PE X (.BoolOp .Or (b::m6) pos) tb):PE X (.BoolOp .Or (a::b::m6) pos) (Zbb ta tb):=by
 intro m3 s σ H Q I h;refine BoolOp_or (YD (ha m3 s σ H _ I h) λv s1 ⟨x,H1,I1,r1,q1⟩=>?_);obtain⟨c,rfl,q1⟩:=q1;cases r1;refine bg ?_
 cases c with
 | false=>exact hb m3 s1 σ H1 Q I1 q1
 | true=>exact⟨.bl aC,H1,I1,rfl,q1⟩
def tIf(t:TT)(ta tb:TE):TE:=λσ H Q=>t σ H λc H1=>if c=aC then ta σ H1 Q else tb σ H1 Q
theorem Ml{c:aw}(hc:PT X c tA)(ha:PE X a ta)(hb:PE X b tb):PE X (.IfExp c a b pos) (tIf tA ta tb):=by
 intro m3 s σ H Q I h;refine wpAny_IfExp (YD (hc m3 s σ H _ I h) λd s1 ⟨H1,I1,q1⟩=>?_)
 cases d with
 | true=>exact ha m3 s1 σ H1 Q I1 q1
 | false=>exact hb m3 s1 σ H1 Q I1 q1
end
def SqL(K:aG)(H:Hp)(a:aH)(xs:List V):Prop:=
 Rd H a (.lst xs)\/
  ∃(o:ck) (mY:Array aE) (n:Nat),K.lookup a=aA o/\o.cls = .type "list"/\o.dict=none/\o.data = .seq mY n/\mY.size<=sizeLine/\Vals xs mY.toList
def SqT(K:aG)(H:Hp)(a:aH)(xs:List V):Prop:=
 Rd H a (.tup xs)\/
  ∃(o:ck) (mY:Array aE) (n:Nat),K.lookup a=aA o/\o.cls = .type "tuple"/\o.data = .seq mY n/\mY.size<=sizeLine/\Vals xs mY.toList
def Zbc:aE->Option V
 | .none=>aA .non
 | .bool b=>aA (.bl b)
 | .int i _=>aA (.int i)
 | .str x _=>aA (.str x)
 | .bytes b _=>aA (.byt b)
 | .float b _=>aA (.flt b)
 | .ref a=>aA (.ref a)
 | .type n=>aA (.ty n)
 | _=>none
theorem RelV.abs{x:V}{u:aE}(r:RelV x u):Zbc u=aA x:=by
 cases x with
 | non=>cases r;rfl
 | bl _=>cases r;rfl
 | int _=>obtain⟨t,rfl⟩:=r;rfl
 | str _=>obtain⟨t,rfl⟩:=r;rfl
 | byt _=>obtain⟨t,rfl⟩:=r;rfl
 | flt _=>obtain⟨t,rfl⟩:=r;rfl
 | ref _=>cases r;rfl
 | ty _=>cases r;rfl
theorem RelV.inj{x y:V}{u:aE}(r:RelV x u)(q:RelV y u):x=y:=bU (r.abs.symm.trans q.abs)
theorem Vals.inj:∀{xs ys:List V}{us:List aE},Vals xs us->Vals ys us->xs=ys
 | _,_,_,.nil,.nil=>rfl
 | _,_,_,.cons r t,.cons r' t'=>by rw[r.inj r',Vals.inj t t']
section
variable {X:Cx} {m3:List (aH×ck)} {σ:St} {H:Hp} {s:aI} {a:aH} {xs ys:List V}
theorem SqL.of{K:aG}(h:H a=aA (.lst xs)):SqL K H a xs:=.inl (.inl h)
theorem SqT.of{K:aG}(h:H a=aA (.tup xs)):SqT K H a xs:=.inl (.inl h)
theorem Inv.list(I:Inv X m3 σ H s)(h:SqL X.K H a xs):∃mY:List aE,Vals xs mY/\PlainL s.heap a mY.toArray/\xs.length<=sizeLine:=by
 rcases h with h | ⟨o,mY,n,hk,hc,hd,hs,hz,r⟩
 ·obtain⟨z,mY,n,r,e⟩:=h.ok I.hok;exact⟨mY,r,⟨_,n,e,rfl,rfl,rfl⟩,z⟩
 ·refine⟨mY.toList,r,⟨o,n,I.kIn a o hk,hc,hd,by simpa using hs⟩,?_⟩;have e:=r.length;simp only[dw] at e;omega
theorem Inv.tuple(I:Inv X m3 σ H s)(h:SqT X.K H a xs):∃mY:List aE,Vals xs mY/\IsTup s.heap a mY.toArray/\xs.length<=sizeLine:=by
 rcases h with h | ⟨o,mY,n,hk,hc,hs,hz,r⟩
 ·obtain⟨z,mY,r,p⟩:=h.ok I.hok;exact⟨mY,r,p,z⟩
 ·refine⟨mY.toList,r,⟨o,I.kIn a o hk,hc,n,by simpa using hs⟩,?_⟩;have e:=r.length;simp only[dw] at e;omega
theorem Inv.list_inj(I:Inv X m3 σ H s)(h:SqL X.K H a xs)(h':SqL X.K H a ys):xs=ys:=by
 obtain⟨mY,r,⟨o,n,e,_,_,d⟩,_⟩:=I.list h;obtain⟨its',r',⟨o',n',e',_,_,d'⟩,_⟩:=I.list h';rw[e] at e';cases e';rw[d] at d';injection d' with d1 _
 have:mY=its':=by simpa using congrArg mJ d1
 subst this;exact r.inj r'
theorem Inv.tuple_inj(I:Inv X m3 σ H s)(h:SqT X.K H a xs)(h':SqT X.K H a ys):xs=ys:=by
 obtain⟨mY,r,⟨o,e,_,n,d⟩,_⟩:=I.tuple h;obtain⟨its',r',⟨o',e',_,n',d'⟩,_⟩:=I.tuple h';rw[e] at e';cases e';rw[d] at d';injection d' with d1 _
 have:mY=its':=by simpa using congrArg mJ d1
 subst this;exact r.inj r'
end
abbrev Cx.wish(X:Cx)(E:aE->aI->Prop):Cx:={ X with xe:=E }
abbrev Cx.nox(X:Cx):Cx:=X.wish λ_ _=>False
theorem Cx.Ok.wish{X:Cx}(ok:X.Ok)(E:aE->aI->Prop):(X.wish E).Ok:=
 ⟨ok.mod,ok.kind,ok.glob,ok.blt,ok.above,ok.inj,ok.has,ok.cab,ok.hd,ok.frames,ok.stk,ok.exf,ok.bs,ok.bsz,ok.noex,ok.exfs,ok.funs,ok.frf⟩
theorem Cx.Ok.unwish{X:Cx}{E:aE->aI->Prop}(ok:(X.wish E).Ok):X.Ok:=
 ⟨ok.mod,ok.kind,ok.glob,ok.blt,ok.above,ok.inj,ok.has,ok.cab,ok.hd,ok.frames,ok.stk,ok.exf,ok.bs,ok.bsz,ok.noex,ok.exfs,ok.funs,ok.frf⟩
section
variable {X:Cx} {m3:List (aH×ck)} {σ:St} {H:Hp} {s:aI} {E:aE->aI->Prop}
theorem Inv.wish(I:Inv X m3 σ H s)(E:aE->aI->Prop):Inv (X.wish E) m3 σ H s:=⟨I.ok.wish E,I.os,I.bare,I.base,I.loc,I.cell,I.free,I.freeC,I.pin,I.hok,I.len⟩
theorem Inv.unwish(I:Inv (X.wish E) m3 σ H s):Inv X m3 σ H s:=⟨I.ok.unwish,I.os,I.bare,I.base,I.loc,I.cell,I.free,I.freeC,I.pin,I.hok,I.len⟩
theorem SP.unwish{D:Uz}{f:Flow}{s':aI}(h:SP (X.wish E) m3 D f s'):SP X m3 D f s':=by
 cases f with
 | next=>obtain⟨σ',H',I,q⟩:=h;exact⟨σ',H',I.unwish,q⟩
 | brk=>obtain⟨σ',H',I,q⟩:=h;exact⟨σ',H',I.unwish,q⟩
 | cont=>obtain⟨σ',H',I,q⟩:=h;exact⟨σ',H',I.unwish,q⟩
 | ret u=>obtain⟨v,σ',H',I,r,q⟩:=h;exact⟨v,σ',H',I.unwish,r,q⟩
theorem PSs.nox{st:List bj}{t:TS}(h:PSs X.nox st t):PSs X st t:=λm3 s σ H D I hw=>
 ay (h m3 s σ H D (I.wish _) hw) (λ_ _ q=>q.unwish) λ_ _ z=>b9 z
end
section
variable {X:Cx} {st:bj} {m6:List bj} {t u:TS} {e:aw} {te:TE} {pos:dm}
def DP:TS:=λD σ H=>D.nx σ H
def Ao(t u:TS):TS:=λD σ H=>t { D with nx:=u D } σ H
theorem F5:PSs X [] DP:=λ_ _ σ H _ I h=>gN ⟨σ,H,I,h⟩
theorem Tj(h1:PS X st t)(h2:PSs X m6 u):PSs X (st::m6) (Ao t u):=by
 intro m3 s σ H D I h;refine gE (YD (h1 m3 s σ H { D with nx:=u D } I h) λf s1 q=>?_)
 cases f with
 | next=>
  obtain⟨σ',H',I',q⟩:=q;exact h2 m3 s1 σ' H' D I' q
 | ret v=>exact q
 | brk=>exact q
 | cont=>exact q
theorem Ra(h1:PS X st t):PSs X [st] t:=by
 intro m3 s σ H D I h;refine gE (YD (h1 m3 s σ H D I h) λf s1 q=>?_)
 cases f with
 | next=>exact gN q
 | ret v=>exact q
 | brk=>exact q
 | cont=>exact q
theorem Inv.quiet{m3:List (aH×ck)}{σ:St}{H:Hp}{s:aI}(I:Inv X m3 σ H s):interactive X.env=aB:=by simp[interactive,I.ok.kind]
def Mm(te:TE):TS:=λD σ H=>te σ H λ_ H1=>D.nx σ H1
theorem Vt(he:PE X e te)(hs:dX e none pos.line X.env=pure aB:=by rfl):PS X (.Expr e pos) (Mm te):=by intro m3 s σ H D I h;exact wpAny_Expr_any (YD (he m3 s σ H _ I h) λv s1 ⟨x,H1,I1,r1,q1⟩=>⟨σ,H1,I1,q1⟩) I.quiet hs
def Zbd(te:TE):TS:=λD σ H=>te σ H D.rt
theorem Pd(he:PE X e te):PS X (.Return (aA e) pos) (Zbd te):=by intro m3 s σ H D I h;exact wpAny_Return_some (YD (he m3 s σ H _ I h) λv s1 ⟨x,H1,I1,r1,q1⟩=>⟨x,σ,H1,I1,r1,q1⟩)
def Zbe(c:TT)(t u:TS):TS:=λD σ H=>c σ H λb H1=>if b=aC then t D σ H1 else u D σ H1
theorem HF{c:aw}{a b:List bj}{tc:TT}(hc:PT X c tc)(ha:PSs X a t)(hb:PSs X b u):PS X (.If c a b pos) (Zbe tc t u):=by
 intro m3 s σ H D I h;refine wpAny_If (YD (hc m3 s σ H _ I h) λd s1 ⟨H1,I1,q1⟩=>?_)
 cases d with
 | true=>exact ha m3 s1 σ H1 D I1 q1
 | false=>exact hb m3 s1 σ H1 D I1 q1
end
abbrev TG:=V->St->Hp->(St->Hp->Prop)->Prop
abbrev DQ:=List V->St->Hp->(St->Hp->Prop)->Prop
def PG(X:Cx)(target:aw)(t:TG):Prop:=
 ∀(m3:List (aH×ck))(s:aI)(σ:St)(H:Hp)(v:V)(u:aE)(Q:St->Hp->Prop),Inv X m3 σ H s->RelV v u->t v σ H Q->
  aZ (model X.prog X.w) X.A (assign target X.env u) (λ_ s'=>∃σ' H',Inv X m3 σ' H' s'/\Q σ' H') X.xe s
def PGs(X:Cx)(ts:List aw)(t:DQ):Prop:=
 ∀(m3:List (aH×ck))(s:aI)(σ:St)(H:Hp)(vs:List V)(us:List aE)(Q:St->Hp->Prop),Inv X m3 σ H s->Vals vs us->t vs σ H Q->
  aZ (model X.prog X.w) X.A (assignInOrder ((iO ts X.env).map (·.2)) us) (λ_ s'=>∃σ' H',Inv X m3 σ' H' s'/\Q σ' H') X.xe s
abbrev CQ:=V->V->V->Hp->(Hp->Prop)->Prop
def Ap(X:Cx)(t:CQ):Prop:=
 ∀(m3:List (aH×ck))(s:aI)(σ:St)(H:Hp)(o i v:V)(ov iv u:aE)(Q:Hp->Prop),Inv X m3 σ H s->RelV o ov->RelV i iv->RelV v u->t o i v H Q->
  aZ (model X.prog X.w) X.A (setItem ov iv u) (λ_ s'=>∃H',Inv X m3 σ H' s'/\Q H') X.xe s
abbrev TIp:=V->V->Hp->VK->Prop
def PIp(X:Cx)(op:l7)(t:TIp):Prop:=
 ∀(m3:List (aH×ck))(s:aI)(σ:St)(H:Hp)(x y:V)(v u:aE)(Q:VK),Inv X m3 σ H s->RelV x v->RelV y u->t x y H Q->
  aZ (model X.prog X.w) X.A (inplaceOp op v u) (EP X m3 σ Q) X.xe s
section
variable {X:Cx} {pos:dm}
def Sw(i:Nat):TG:=λv σ H Q=>Q (σ.set i (aA v)) H
theorem ZG{i:Nat}{x:aR}(hN:X.N.Nodup)(hi:X.N[i]?=aA x)(hx:DN X.env.scope x)(hf:X.fn x=aC\/X.env.scope.names.lookup x=aA .local:=by first | exact .inl rfl | exact .inr rfl | assumption):PG X (.Name x pos) (Sw i):=by intro m3 s σ H v u Q I r h;exact i8 (VN I hN hi hx r (λs' I'=>⟨_,H,I',h⟩) hf)
def Aq:DQ:=λvs σ H Q=>vs=[]/\Q σ H
def DR(t:TG)(u:DQ):DQ:=λvs σ H Q=>∃v r,vs=v::r/\t v σ H λσ' H'=>u r σ' H' Q
theorem W5:PGs X [] Aq:=by intro m3 s σ H vs us Q I r h;obtain⟨e,h⟩:=h;subst e;cases r;exact assignInOrder_nil ⟨σ,H,I,h⟩
theorem Yo{e:aw}{es:List aw}{t:TG}{u:DQ}(h1:PG X e t)(h2:PGs X es u)
  (hs:(iO (e::es) X.env).map (·.2)=assign e X.env::(iO es X.env).map (·.2):=by rfl):PGs X (e::es) (DR t u):=by
 intro m3 s σ H vs us Q I r h;obtain⟨v,vr,e1,h⟩:=h;subst e1
 cases r with
 | cons r rr=>
  rw[hs];refine assignInOrder_cons (YD (h1 m3 s σ H _ _ _ I r h) λ_ s1 ⟨σ1,H1,I1,q1⟩=>?_);exact h2 m3 s1 σ1 H1 _ _ Q I1 rr q1
def Ar(K:aG)(n:Nat)(t:DQ):TG:=λv σ H Q=>∃a xs,v = .ref a/\SqT K H a xs/\xs.length=n/\t xs σ H Q
theorem Ut{es:List aw}{k:Nat}{t:DQ}{n:Nat}(hc:X.calm=aC)(h:PGs X es t)
  (hn:(iO es X.env).length=n:=by rfl) (hst:(iO es X.env).findIdx? (·.1)=none:=by rfl):PG X (.Tuple es k pos) (Ar X.K n t):=by
 intro m3 s σ H v u Q I r hw;obtain⟨a,xs,e1,hq,hl,hw⟩:=hw;subst e1;cases r;obtain⟨mY,rv,ht,hz⟩:=I.tuple hq;refine assign_Tuple_tuple (I.ok.hd hc) ht (by simp[hn,<-hl,rv.length]) hst λh' hx=>?_;have I1:Inv X m3 σ H { s with heap:=h' }:=I.kept (t':=s.toks) λb o e=>hx b o (bO (aT e)) e;exact h m3 _ σ H xs _ Q I1 (by simpa using rv) hw
def As(to ti:TE)(t:CQ):TG:=λv σ H Q=>to σ H λo H1=>ti σ H1 λi H2=>t o i v H2 λH3=>Q σ H3
theorem Tn{o i:aw}{to ti:TE}{t:CQ}(ho:PE X o to)(hi:PE X i ti)(hs:Ap X t)
  (ha:∀v,assign (.Subscript o i pos) X.env v=(do
   let ov <-holding [v] (eval o X.env);let iv <-holding [v,ov] (eval i X.env)
   standAt pos
   holding [v,ov,iv] (setItem ov iv v)
   release [v,ov,iv] []):=by intro _;rfl):PG X (.Subscript o i pos) (As to ti t):=by
 intro m3 s σ H v u Q I r h;rw[ha];refine aF (dY (YD (ho m3 s σ H _ I h) λov s1 ⟨x,H1,I1,r1,q1⟩=>?_));refine aF (dY (YD (hi m3 s1 σ H1 _ I1 q1) λiv s2 ⟨y,H2,I2,r2,q2⟩=>?_));refine aF (fO (aF (dY (YD (hs m3 s2 σ H2 x y v ov iv u _ I2 r1 r2 r q2) λ_ s3 ⟨H3,I3,q3⟩=>?_))));exact wpAny_release ⟨σ,H3,I3,q3⟩
def Mn(te:TE)(g:TG):TS:=λD σ H=>te σ H λx H1=>g x σ H1 D.nx
theorem US{tg e:aw}{te:TE}{g:TG}(he:PE X e te)(hg:PG X tg g)(hs:swapsWithSole [tg] e pos.line X.env=pure aB:=by rfl)(hw:swappedStores [tg] e X.env=pure none:=by rfl)
  (h1:(iO [tg] X.env).map (·.2)=[assign tg X.env]:=by rfl):PS X (.Assign [tg] e pos) (Mn te g):=by
 intro m3 s σ H D I h;refine wpAny_Assign_stores (YD (he m3 s σ H _ I h) λv s1 ⟨x,H1,I1,r1,q1⟩=>?_) hs hw;rw[h1];exact YD (hg m3 s1 σ H1 x v _ I1 r1 q1) λ_ s2 q=>q
theorem HG{i:Nat}{x:aR}{e:aw}{te:TE}{pos':dm}(hN:X.N.Nodup)(hi:X.N[i]?=aA x)(hx:DN X.env.scope x)(he:PE X e te)(hs:dX e (aA (.Name x pos')) pos.line X.env=pure aB:=by rfl)(hf:X.fn x=aC\/X.env.scope.names.lookup x=aA .local:=by first | exact .inl rfl | exact .inr rfl | assumption) :
  PS X (.Assign [.Name x pos'] e pos) (Mn te (Sw i)):=by
 intro m3 s σ H D I h;refine i9 (YD (he m3 s σ H _ I h) λv s1 ⟨y,H1,I1,r1,q1⟩=>?_) hs;exact VN I1 hN hi hx r1 (λs2 I2=>⟨_,H1,I2,q1⟩) hf
def Au(i:Nat)(te:TE)(ti:TIp):TS:=λD σ H=>∃x,σ[i]?=aA (aA x)/\te σ H λy H1=>ti x y H1 λz H2=>D.nx (σ.set i (aA z)) H2
theorem CS{i:Nat}{x:aR}{e:aw}{te:TE}{op:l7}{ti:TIp}{pos':dm}(hN:X.N.Nodup)(hi:X.N[i]?=aA x)(hx:DN X.env.scope x)(he:PE X e te)(ho:PIp X op ti)(hf:X.fn x=aC\/X.env.scope.names.lookup x=aA .local:=by first | exact .inl rfl | exact .inr rfl | assumption) :
  PS X (.AugAssign (.Name x pos') op e pos) (Au i te ti):=by
 intro m3 s σ H D I h;obtain⟨v,e1,h⟩:=h;obtain⟨m,hn,hl⟩:=I.loc;have vis:Vis X.env.scope x:=by rcases hx with k | k;exact .inl k;exact .inr (.inl k)
 obtain⟨u,r,l⟩:=hl i x v hi e1 vis;refine wpAny_AugAssign_Name ?_;have go:aZ (model X.prog X.w) X.A (eval e X.env) (λw s₂=>aZ (model X.prog X.w) X.A (inplaceOp op u w) (λr s₃=>aZ (model X.prog X.w) X.A (storeName X.env x r) (λ_=>SP X m3 D .next) X.xe s₃) X.xe s₂) X.xe s:=by refine YD (he m3 s σ H _ I h) λw s1 ⟨y,H1,I1,r1,q1⟩=>?_;refine YD (ho m3 s1 σ H1 v y u w _ I1 r r1 q1) λz s2 ⟨zv,H2,I2,r2,q2⟩=>?_;exact VN I2 hN hi hx r2 (λs3 I3=>⟨_,H2,I3,q2⟩) hf
 rcases l with⟨hk,hm⟩ | ⟨hk,c,hc,hcell⟩
 ·exact jv I.ok.kind hk hn hm go
 ·rcases hk with hk | hk
  ·exact kN I.ok.kind hk hc hcell go
  ·rcases hx with k | k
   ·have:X.env.scope.names.lookup x=aA .free:=hk;rw[k] at this;cases this
   ·have:X.env.scope.names.lookup x=aA .free:=hk;rw[k] at this;cases this
def ipI(f:Int->Int->Int):TIp:=λx y H Q=>∃i j,x = .int i/\y = .int j/\Q (.int (f i j)) H
theorem CT:PIp X .Add (ipI λi j=>i+j):=by intro m3 s σ H x y v u Q I r1 r2 h;obtain⟨i,j,e1,e2,q⟩:=h;subst e1;subst e2;obtain⟨t,rfl⟩:=r1;obtain⟨t',rfl⟩:=r2;exact iadd_int ⟨.int _,H,I.tok _,⟨_,rfl⟩,q⟩
end
section
variable {X:Cx} {pos:dm}
def CU(c:TT)(tb:TS):TS:=λD σ H=>∃W:Nat->St->Hp->Prop,(∃m,W m σ H)/\∀m σ H,W m σ H->
 c σ H λb H1=>if b=aC then ∃N:St->Hp->Prop,(∀σ' H',N σ' H'->∃m',m'<m/\W m' σ' H')/\tb { D with nx:=N,ct:=N,bk:=D.nx } σ H1 else D.nx σ H1
theorem HH{c:aw}{body:List bj}{tc:TT}{tb:TS}(hp:iK (model X.prog X.w) X.A X.env X.xe)(hc:PT X c tc)(hb:PSs X body tb):PS X (.While c body [] pos) (CU tc tb):=by
 intro m3 s σ H D I h;obtain⟨W,⟨m0,w0⟩,turn⟩:=h;refine wpAny_While (codeAny_whileLoop (λn s'=>∃σ' H',Inv X m3 σ' H' s'/\W n σ' H') ?_ m0 ⟨σ,H,I,w0⟩);rintro n s1 ⟨σ1,H1,I1,w1⟩;refine eV hp (YD (hc m3 s1 σ1 H1 _ I1 (turn n σ1 H1 w1)) λb s2 ⟨H2,I2,q2⟩=>?_)
 cases b with
 | true=>
  obtain⟨N,hN,q2⟩:=q2;rw[mZ rfl];refine eV hp (YD (hb m3 s2 σ1 H2 _ I2 q2) λf s3 q3=>?_)
  cases f with
  | next=>
   obtain⟨σ3,H3,I3,n3⟩:=q3;obtain⟨m',hm,w3⟩:=hN σ3 H3 n3;exact⟨m',hm,σ3,H3,I3,w3⟩
  | cont=>
   obtain⟨σ3,H3,I3,n3⟩:=q3;obtain⟨m',hm,w3⟩:=hN σ3 H3 n3;exact⟨m',hm,σ3,H3,I3,w3⟩
  | brk=>exact q3
  | ret v=>exact q3
 | false=>
  rw[ma a0];exact gN ⟨σ1,H2,I2,q2⟩
end
structure It where
 go:Nat->Hp->Prop
 yld:Nat->Hp->V->Hp->Prop
 stop:Nat->Hp->Prop
def Ti(X:Cx)(m3:List (aH×ck))(H:Hp)(b:aH):Prop:=
 H b=none/\b≠X.env.locals/\b∉X.fs/\(b∈X.ex\/X.s₀.heap.objs.size<=b)/\(∀x c,X.env.cells.lookup x=aA c->c≠b)/\∀p∈X.pn++m3,p.1≠b
theorem Inv.fpOk{X:Cx}{m3:List (aH×ck)}{σ:St}{H H':Hp}{s:aI}{b:aH}(I:Inv X m3 σ H s)(hb:s.heap.objs.size<=b)(hn:H' b=none):Ti X m3 H' b:=by
 refine⟨hn,gV (af I.lt hb),I.nofs hb,.inr (bu I.sz hb),λx c e z=>?_,λp hp z=>?_⟩
 ·obtain⟨v,q⟩:=I.cell x c e;exact absurd (af q.lt (by rw[z];exact hb)) (cI _)
 ·exact absurd (af (aT (I.pin p hp).1) (by rw[z];exact hb)) (cI _)
structure Mo(P:bC)(w:b6)(K:aG)(tg:aw)(J:It)(fp:List aH)(it:aH)(tn:Nat->bV->Prop):Prop where
 mem:it∈fp
 obj:∀i h,tn i h->∀b∈fp,∃o,h.get? b=aA o/\∀v,o.data≠.cell v
 keep:∀i h h',tn i h->(∀b∈fp,∀o,h.get? b=aA o->h'.get? b=aA o)->tn i h'
 item:∀(X:Cx),X.prog=P->X.w=w->X.K=K->X.calm=aC->∀(i:Nat)(m3:List (aH×ck))(s:aI)(σ:St)(H:Hp)(E:aE->aI->Prop),Inv X m3 σ H s->(∀b∈fp,Ti X m3 H b)->tn i s.heap->J.go i H->
  aZ (model P w) X.A (k4 (.ref it)) (λr s1=>∃u,r=aA u/\
   aZ (model P w) X.A (hU tg (.ref it) u) (λ_ s2=>∃x H',Inv X m3 σ H' s2/\RelV x u/\J.yld i H x H'/\tn (i+1) s2.heap/\∀b∈fp,H' b=none) E s1) E s
 done:∀(X:Cx),X.prog=P->X.w=w->X.K=K->X.calm=aC->∀(i:Nat)(m3:List (aH×ck))(s:aI)(σ:St)(H:Hp)(E:aE->aI->Prop),Inv X m3 σ H s->(∀b∈fp,Ti X m3 H b)->tn i s.heap->J.stop i H->
  aZ (model P w) X.A (k4 (.ref it)) (λr s1=>r=none/\Inv X m3 σ H s1) E s
 self:∀(A:b5)(i:Nat)(s:aI)(Q:aE->aI->Prop)(E:aE->aI->Prop),tn i s.heap->Q (.ref it) s->aZ (model P w) A (lG (.ref it)) Q E s
abbrev TI:=St->Hp->(It->Hp->Prop)->Prop
def PIE(X:Cx)(m3:List (aH×ck))(σ:St)(tg:aw)(R:It->Hp->Prop)(itv:aE)(s2:aI):Prop:=
 ∃(it:aH) (fp:List aH) (tn:Nat->bV->Prop) (J:It) (H':Hp),itv = .ref it/\Inv X m3 σ H' s2/\Mo X.prog X.w X.K tg J fp it tn/\tn 0 s2.heap/\(∀b∈fp,Ti X m3 H' b)/\R J H'
def PI(X:Cx)(tg iter:aw)(wi:TI):Prop:=
 ∀(m3:List (aH×ck))(s:aI)(σ:St)(H:Hp)(R:It->Hp->Prop),Inv X m3 σ H s->wi σ H R->
  aZ (model X.prog X.w) X.A (eval iter X.env) (λv s1=>aZ (model X.prog X.w) X.A (lG v) (PIE X m3 σ tg R) X.xe s1) X.xe s
theorem KO{M:lQ}{A:b5}{E:aE->aI->Prop}{s:aI}{tg:aw}{it:aH}{u:aE}{o:ck}{n:String}{vs:Array aE}{Q:Unit->aI->Prop}(ho:s.heap.get? it=aA o)(hc:o.cls = .type n)(hd:o.data = .fields vs)
    (hn:["enumerate","zip","dict_itemiterator","dict_reverseitemiterator","odict_iterator","itertools.zip_longest","itertools.pairwise"].contains n=aB) (hQ:Q () s):aZ M A (hU tg (.ref it) u) Q E s:=by
  unfold hU
  cases tg<;>first
    | exact aa hQ
    | (cases u<;>first
        | exact aa hQ
        | (refine aF (wpAny_load ho ?_)
           rw[hc,hd];show aZ M A (if(["enumerate","zip","dict_itemiterator","dict_reverseitemiterator","odict_iterator","itertools.zip_longest","itertools.pairwise"].contains n&&vs[0]?==aA (eE _))=aC then _ else _) Q E s;rw[ma (by intro h;rw[hn,jw] at h;cases h)];exact aa hQ))
def Itl(K:aG)(a:aH):It:=
 ⟨λi H=>∃xs x,SqL K H a xs/\xs[i]?=aA x,λi H x H'=>H'=H/\∀xs,SqL K H a xs->xs[i]?=aA x,λi H=>∃xs,SqL K H a xs/\xs.length<=i⟩
def Av(lo:Int)(n:Nat):It:=⟨λi _=>i<n,λi H x H'=>H'=H/\x = .int (lo+i),λi _=>n<=i⟩
theorem JX{P:bC}{w:b6}{K:aG}{tg:aw}(a it:aH):Mo P w K tg (Itl K a) [it] it (λi h=>h.IsListIter it a i) where
 mem:=by simp
 obj:=λi h st b hb=>by
  have e:b=it:=by simpa using hb
  subst e;obtain⟨o,e,c,d⟩:=st;exact⟨o,e,λv z=>by rw[d] at z;cases z⟩
 keep:=λi h h' st k=>st.at λo e=>k it (by simp) o e
 item:=by intro X hP hw hK hc i m3 s σ H E I hf st hg;subst hP hw hK;obtain⟨xs,x,hq,hx⟩:=hg;obtain⟨mY,rv,p,hz⟩:=I.list hq;obtain⟨u,hu,ru⟩:=rv.get hx;obtain⟨f0,f1,f2,f3,f4,f5⟩:=hf it (by simp);refine wpAny_pyNext_list_item st p.isList (x:=u) (by simpa using hu) λh' st' sb=>?_;have I1:Inv X m3 σ H { s with heap:=h' }:=I.turned (t':=s.toks) (λb o hb e=>(sb.2 b hb).trans e) f0 f1 f3 f4 f5;obtain⟨o,e,c,d⟩:=id st';exact⟨u,rfl,KO (s:={ s with heap:=h' }) e c d (by decide) ⟨x,H,I1,ru,⟨rfl,λys hy=>by rw[I.list_inj hy hq];exact hx⟩,st',λb hb=>(hf b hb).1⟩⟩
 done:=by intro X hP hw hK hc i m3 s σ H E I hf st hg;subst hP hw hK;obtain⟨xs,hq,hx⟩:=hg;obtain⟨mY,rv,p,hz⟩:=I.list hq;obtain⟨f0,f1,f2,f3,f4,f5⟩:=hf it (by simp);have hl:=rv.length;exact wpAny_pyNext_list_end (I.ok.hd hc) st p.isList (by simp;omega) λh' eb=>⟨rfl,I.turned (t':=s.toks) (λb o hb e=>eb b o hb e) f0 f1 f3 f4 f5⟩
 self:=λ_ _ _ _ _ st h=>wpAny_pyIter_listiter st h
theorem LG{P:bC}{w:b6}{K:aG}{tg:aw}(it:aH)(lo:Int)(n:Nat):Mo P w K tg (Av lo n) [it] it (λi h=>IsRangeIter h it (lo+(i:Nat)*1) ((n:Int)-(i:Nat)) 1) where
 mem:=by simp
 obj:=λi h st b hb=>by
  have e:b=it:=by simpa using hb
  subst e
  exact⟨_,st,λv z=>by
   have z':Data.fields _=Data.cell v:=z;cases z'⟩
 keep:=λi h h' st k=>k it (by simp) _ st
 item:=by intro X hP hw hK hc i m3 s σ H E I hf st hg;subst hP hw hK;obtain⟨f0,f1,f2,f3,f4,f5⟩:=hf it (by simp);have W:=Walks.range (prog:=X.prog) (w:=X.w) (I.ok.hd hc) it lo 1 n;refine W.item i s _ _ hg st λv h' tk hv st' kk=>?_;obtain⟨t,rfl⟩:=hv;have I1:Inv X m3 σ H { s with heap:=h',toks:=tk }:=I.turned (λb o hb e=>kk b o (by simpa using hb) e) f0 f1 f3 f4 f5;refine⟨_,rfl,KO (s:={ s with heap:=h',toks:=tk }) (n:="range_iterator") st' rfl rfl (by decide) ⟨.int (lo+i),H,I1,⟨t,?_⟩,⟨rfl,rfl⟩,st',λb hb=>(hf b hb).1⟩⟩;rw[Int.mul_one]
 done:=by intro X hP hw hK hc i m3 s σ H E I hf st hg;subst hP hw hK;obtain⟨f0,f1,f2,f3,f4,f5⟩:=hf it (by simp);exact wpAny_pyNext_range_end (I.ok.hd hc) st (by have:n<=i:=hg;omega) λh' eb=>⟨rfl,I.turned (t':=s.toks) (λb o hb e=>eb b o hb e) f0 f1 f3 f4 f5⟩
 self:=λ_ _ _ _ _ st h=>wpAny_pyIter_rangeiter st h
section
variable {X:Cx} {tg:aw}
def Aw(K:aG)(tl:TE):TI:=λσ H R=>tl σ H λx H1=>∃a,x = .ref a/\(∃xs,SqL K H1 a xs)/\R (Itl K a) H1
theorem F6{l:aw}{tl:TE}(hl:PE X l tl):PI X tg l (Aw X.K tl):=by
 intro m3 s σ H R I h;refine YD (hl m3 s σ H _ I h) λv s1 ⟨x,H1,I1,r1,q1⟩=>?_;obtain⟨a,e,⟨xs,hq⟩,q⟩:=q1;subst e;cases r1;obtain⟨mY,rv,p,hz⟩:=I1.list hq;refine wpAny_pyIter_list p.isList ?_;refine⟨s1.heap.objs.size,[s1.heap.objs.size],_,_,H1,rfl,I1.kept (t':=s1.toks) λb o e=>aM _ e,JX a _,⟨_,bD _ rfl,rfl,rfl⟩,λb hb=>?_,q⟩;have e:b=s1.heap.objs.size:=by simpa using hb
 subst e;exact I1.fpOk (ar _) (I1.hok.fresh (ar _))
theorem Mp{m3:List (aH×ck)}{σ:St}{H:Hp}{s:aI}{R:It->Hp->Prop}{E:aE->aI->Prop}{lo hi:Int}{t u v:mR}{tk:Nat}(I:Inv X m3 σ H s)(h1 : -(2^62)<=lo)(h2:lo<2^62)(h3 : -(2^62)<=hi)(h4:hi<2^62)
  (q:R (Av lo (hi-lo).toNat) H):aZ (model X.prog X.w) X.A (lG (.ref s.heap.objs.size)) (PIE X m3 σ tg R) E { s with heap:=s.heap.push { cls:=.type "range",data:=.fields #[.int lo t,.int hi u,.int 1 v] },toks:=tk }:=by
 refine wpAny_pyIter_range (IsRange.new ..) (small_one h1 h2 h3 h4) ?_;have I1:Inv X m3 σ H { s with heap:=s.heap.push { cls:=.type "range",data:=.fields #[.int lo t,.int hi u,.int 1 v] },toks:=tk }:=I.kept λb o e=>aM _ e
 refine⟨(s.heap.push { cls:=.type "range",data:=.fields #[.int lo t,.int hi u,.int 1 v] }).objs.size,[(s.heap.push { cls:=.type "range",data:=.fields #[.int lo t,.int hi u,.int 1 v] }).objs.size],_,_,H,rfl,
  I1.kept (t':=tk) λb o e=>aM _ e,LG _ lo (hi-lo).toNat,?_,λb hb=>?_,q⟩
 ·have e1:lo+((0:Nat):Int)*1=lo:=by simp
  have e2:(((hi-lo).toNat:Nat):Int)-((0:Nat):Int)=Builtin.Range.rangeSize lo hi 1:=by rw[rangeSize_one];split<;>omega
  show IsRangeIter _ _ (lo+((0:Nat):Int)*1) ((((hi-lo).toNat:Nat):Int)-((0:Nat):Int)) 1;rw[e1,e2];exact bD _ rfl
 ·have e:b=(s.heap.push { cls:=.type "range",data:=.fields #[.int lo t,.int hi u,.int 1 v] }).objs.size:=by simpa using hb
  subst e;exact I1.fpOk (ar _) (I1.hok.fresh (ar _))
def Ax(ta:TA):TI:=λσ H R=>ta σ H λvs H1=>∃j:Int,vs=[.int j]/\-(2^62)<=j/\j<2^62/\R (Av 0 j.toNat) H1
def Ay(ta:TA):TI:=λσ H R=>ta σ H λvs H1=>∃i j:Int,vs=[.int i,.int j]/\(-(2^62)<=i/\i<2^62/\-(2^62)<=j/\j<2^62)/\R (Av i (j-i).toNat) H1
theorem JY{a:aw}{ta:TA}{p pos:dm}(hg:Gl X "range")(hm:X.mg "range" = none)(ha:PA X [a] ta)(hs:aO [a] X.env=[(aB,eval a X.env)]:=by rfl):PI X tg (.Call (.Name "range" p) [a] [] pos) (Ax ta):=by
 intro m3 s σ H R I h;refine Call_ (R3 I hg hm boot_range (eF (YD (ha pos m3 s σ H _ I h) λus s1 ⟨vs,H1,I1,r1,q1⟩=>?_) hs rfl));obtain⟨j,e,q1,q2,q⟩:=q1;subst e
 cases r1 with
 | cons r rr=>
  cases rr;obtain⟨t,rfl⟩:=r;exact call_range_1 (Mp I1 (by omega) (by omega) q1 q2 (by simpa using q))
theorem JZ{a b:aw}{ta:TA}{p pos:dm}(hg:Gl X "range")(hm:X.mg "range" = none)(ha:PA X [a,b] ta)(hs:aO [a,b] X.env=[(aB,eval a X.env),(aB,eval b X.env)]:=by rfl)(hs2:aO [b] X.env=[(aB,eval b X.env)]:=by rfl) :
  PI X tg (.Call (.Name "range" p) [a,b] [] pos) (Ay ta):=by
 intro m3 s σ H R I h;refine Call_ (R3 I hg hm boot_range (eF (YD (ha pos m3 s σ H _ I h) λus s1 ⟨vs,H1,I1,r1,q1⟩=>?_) (by rw[hs,hs2]) (by rw[hs2];rfl)));obtain⟨i,j,e,⟨q1,q2,q3,q4⟩,q⟩:=q1;subst e
 cases r1 with
 | cons r rr=>
  cases rr with
  | cons r' rr=>
   cases rr;obtain⟨t,rfl⟩:=r;obtain⟨t',rfl⟩:=r';exact call_range_2 (Mp I1 q1 q2 q3 q4 q)
def F7(wi:TI)(g:TG)(tb:TS):TS:=λD σ H=>wi σ H λJ H1=>∃W:Nat->Nat->St->Hp->Prop,(∃m,W 0 m σ H1)/\∀i m σ H,W i m σ H->
 (J.stop i H/\D.nx σ H)\/(J.go i H/\∃N:St->Hp->Prop,(∀σ' H',N σ' H'->∃m',m'<m/\W (i+1) m' σ' H')/\∀x H',J.yld i H x H'->g x σ H' λσ2 H2=>tb { D with nx:=N,ct:=N,bk:=D.nx } σ2 H2)
def To(fp:List aH)(h:bV):List (aH×ck):=fp.filterMap λb=>(h.get? b).map λo=>(b,o)
theorem Wq{fp:List aH}{h:bV}{b:aH}{o:ck}(hb:b∈fp)(e:h.get? b=aA o):(b,o)∈To fp h:=k6.mpr ⟨b,hb,by rw[e];rfl⟩
theorem J0{fp:List aH}{h:bV}{p:aH×ck}(hp:p∈To fp h):p.1∈fp/\h.get? p.1=aA p.2:=by
 obtain⟨b,hb,e⟩:=k6.mp hp
 cases q:h.get? b with
 | none=>rw[q] at e;cases e
 | some o=>
  rw[q] at e;have e':(b,o)=p:=bU e;subst e';exact⟨hb,q⟩
theorem Inv.pinned{m3:List (aH×ck)}{σ:St}{H:Hp}{s:aI}{fp:List aH}(I:Inv X m3 σ H s)(hf:∀b∈fp,Ti X m3 H b)(ho:∀b∈fp,∃o,s.heap.get? b=aA o/\∀v,o.data≠.cell v):Inv X (m3++To fp s.heap) σ H s:=
 I.pins_of λp hp=>(au.mp hp).elim (λz=>I.pin p (ag _ z)) λz=>by obtain⟨hb,e⟩:=J0 z;obtain⟨f0,f1,f2,_⟩:=hf p.1 hb;obtain⟨o,e',d⟩:=ho p.1 hb;rw[e] at e';cases e';exact⟨e,f0,f1,f2,d⟩
theorem Inv.unpinned{m3 pl:List (aH×ck)}{σ:St}{H:Hp}{s:aI}(I:Inv X (m3++pl) σ H s):Inv X m3 σ H s:=I.pins_of λp hp=>I.pin p (ag _ (bG _ hp))
theorem SJ{iter:aw}{body:List bj}{wi:TI}{g:TG}{tb:TS}{pos:dm}(hp:iK (model X.prog X.w) X.A X.env X.xe)(hc:X.calm=aC)(hi:PI X tg iter wi)(hg:PG X tg g)(hb:PSs X body tb)
  (hs:∀x,bw iter X.env x=pure x:=by intro _;rfl):PS X (.For tg iter body [] pos) (F7 wi g tb):=by
 intro m3 s σ H D I h;refine wpAny_For (YD (hi m3 s σ H _ I h) λv s1 h1=>YD h1 λitv s2 h2=>?_) hs;obtain⟨it,fp,tn,J,H2,e,I2,T,st2,f2,W,⟨m0,w0⟩,turn⟩:=h2;subst e
 -- what stays aC of the iterator's objects through the loop
 have stat:∀{H':Hp},(∀b∈fp,H' b=none)->∀b∈fp,Ti X m3 H' b:=λhn b hb=>⟨hn b hb,(f2 b hb).2⟩;refine codeAny_forLoop_any (λn s'=>∃i σ' H',Inv X m3 σ' H' s'/\tn i s'.heap/\(∀b∈fp,H' b=none)/\W i n σ' H') ?_ m0 ⟨0,σ,H2,I2,st2,λb hb=>(f2 b hb).1,w0⟩;rintro n s3 ⟨i,σ3,H3,I3,st3,fr3,w3⟩;rcases turn i n σ3 H3 w3 with⟨stop,qn⟩ | ⟨go,N,hN,step⟩
 ·refine eV hp (YD (T.done X rfl rfl rfl hc i m3 s3 σ3 H3 X.xe I3 (stat fr3) st3 stop) λr s4 ⟨hr,I4⟩=>?_);subst hr;exact gN ⟨σ3,H3,I4,qn⟩
 ·refine eV hp (YD (T.item X rfl rfl rfl hc i m3 s3 σ3 H3 X.xe I3 (stat fr3) st3 go) λr s4 ⟨u,hr,h4⟩=>?_);subst hr;refine eV hp (YD h4 λ_ s5 ⟨x,H5,I5,r5,y5,st5,fr5⟩=>?_);have I5':=I5.pinned (stat fr5) (T.obj _ _ st5);refine eV hp (YD (hg _ s5 σ3 H5 x u _ I5' r5 (step x H5 y5)) λ_ s6 ⟨σ6,H6,I6,q6⟩=>?_);refine eV hp (YD (hb _ s6 σ6 H6 _ I6 q6) λf s7 q7=>?_);have again:∀{σ7:St}{H7:Hp},Inv X (m3++To fp s5.heap) σ7 H7 s7->N σ7 H7->∃m,m<n/\∃i σ' H',Inv X m3 σ' H' s7/\tn i s7.heap/\(∀b∈fp,H' b=none)/\W i m σ' H':=λ{σ7 H7} I7 n7=>by obtain⟨m',hm,w7⟩:=hN σ7 H7 n7;refine⟨m',hm,i+1,σ7,H7,I7.unpinned,T.keep _ _ _ st5 λb hb o e=>(I7.pin (b,o) (ag _ (ag _ (Wq hb e)))).1,λb hb=>?_,w7⟩;obtain⟨o,e,d⟩:=T.obj _ _ st5 b hb;exact(I7.pin (b,o) (ag _ (ag _ (Wq hb e)))).2.1
  cases f with
  | next=>obtain⟨σ7,H7,I7,n7⟩:=q7;exact again I7 n7
  | cont=>obtain⟨σ7,H7,I7,n7⟩:=q7;exact again I7 n7
  | brk=>obtain⟨σ7,H7,I7,q7⟩:=q7;exact⟨σ7,H7,I7.unpinned,q7⟩
  | ret v=>obtain⟨x7,σ7,H7,I7,r7,q7⟩:=q7;exact⟨x7,σ7,H7,I7.unpinned,r7,q7⟩
end
abbrev R2:=V->V->Hp->VK->Prop
def UA(X:Cx)(f:aE->aE->Sem aE)(r:R2):Prop:=
 ∀(m3:List (aH×ck))(s:aI)(σ:St)(H:Hp)(x y:V)(v u:aE)(Q:VK),Inv X m3 σ H s->RelV x v->RelV y u->r x y H Q->
  aZ (model X.prog X.w) X.A (f v u) (EP X m3 σ Q) X.xe s
def UnR(X:Cx)(f:aE->Sem aE)(r:V->Hp->VK->Prop):Prop:=
 ∀(m3:List (aH×ck))(s:aI)(σ:St)(H:Hp)(x:V)(v:aE)(Q:VK),Inv X m3 σ H s->RelV x v->r x H Q->
  aZ (model X.prog X.w) X.A (f v) (EP X m3 σ Q) X.xe s
def W8(X:Cx)(f:aE)(r:List V->Hp->VK->Prop):Prop:=
 ∀(m3:List (aH×ck))(s:aI)(σ:St)(H:Hp)(xs:List V)(us:List aE)(Q:VK),Inv X m3 σ H s->Vals xs us->r xs H Q->
  aZ (model X.prog X.w) X.A (call f us) (EP X m3 σ Q) X.xe s
def Zbi(X:Cx)(r:V->Hp->(Bool->Hp->Prop)->Prop):Prop:=
 ∀(m3:List (aH×ck))(s:aI)(σ:St)(H:Hp)(x:V)(v:aE)(Q:Bool->Hp->Prop),Inv X m3 σ H s->RelV x v->r x H Q->
  aZ (model X.prog X.w) X.A (truthy v) (TP X m3 σ Q) X.xe s
def CV(r:R2)(ta tb:TE):TE:=λσ H Q=>ta σ H λx H1=>tb σ H1 λy H2=>r x y H2 Q
def tUn(r:V->Hp->VK->Prop)(ta:TE):TE:=λσ H Q=>ta σ H λx H1=>r x H1 Q
def rI(C:Int->Int->Prop)(g:Int->Int->V):R2:=λx y H Q=>∃i j,x = .int i/\y = .int j/\C i j/\Q (g i j) H
def FX(g:Int->Int->V):R2:=λx y H Q=>∃i j,x = .int i/\y = .int j/\Q (g i j) H
def rU(g:Int->V):V->Hp->VK->Prop:=λx H Q=>∃i,x = .int i/\Q (g i) H
section
variable {X:Cx} {a b c:aw} {ta tb tc:TE} {pos:dm}
theorem CW(ha:PE X a ta)(hb:PE X b tb){m3:List (aH×ck)}{s:aI}{σ:St}{H:Hp}{R:V->V->Hp->Prop}(I:Inv X m3 σ H s)
  (h:ta σ H λx H1=>tb σ H1 λy H2=>R x y H2) {Q:aE->aI->Prop} {f:aE->aE->Sem aE}
  (hf:∀v u s2 x y H2,Inv X m3 σ H2 s2->RelV x v->RelV y u->R x y H2->aZ (model X.prog X.w) X.A (f v u) Q X.xe s2) :
  aZ (model X.prog X.w) X.A (eval a X.env) (λv s₁=>aZ (model X.prog X.w) X.A (eval b X.env) (λu s₂=>aZ (model X.prog X.w) X.A (f v u) Q X.xe s₂) X.xe s₁) X.xe s:=by
 refine YD (ha m3 s σ H _ I h) λv s1 ⟨x,H1,I1,r1,q1⟩=>?_;refine YD (hb m3 s1 σ H1 _ I1 q1) λu s2 ⟨y,H2,I2,r2,q2⟩=>?_;exact hf v u s2 x y H2 I2 r1 r2 q2
theorem HI{op:l7}{r:R2}(ho:UA X (gW op) r)(ha:PE X a ta)(hb:PE X b tb):PE X (.BinOp a op b pos) (CV r ta tb):=by intro m3 s σ H Q I h;exact wpAny_BinOp (CW ha hb I h λv u s2 x y H2 I2 rx ry q=>ho m3 s2 σ H2 x y v u Q I2 rx ry q)
theorem Az{op:UnaryOp}{r:V->Hp->VK->Prop}(ho:UnR X (unaryOp op) r)(ha:PE X a ta):PE X (.UnaryOp op a pos) (tUn r ta):=by intro m3 s σ H Q I h;exact UnaryOp_ (YD (ha m3 s σ H _ I h) λv s1 ⟨x,H1,I1,r1,q1⟩=>ho m3 s1 σ H1 x v Q I1 r1 q1)
theorem opI{f:aE->aE->Sem aE}{C:Int->Int->Prop}{g:Int->Int->Int}
  (rule:∀(i j:Int)(t u:mR)(s:aI)(Q:aE->aI->Prop)(E:aE->aI->Prop),C i j->Q (.int (g i j) s.toks) { s with toks:=s.toks+1 }->aZ (model X.prog X.w) X.A (f (.int i t) (.int j u)) Q E s) :
  UA X f (rI C λi j=>.int (g i j)):=by
 intro m3 s σ H x y v u Q I rx ry h;obtain⟨i,j,rfl,rfl,hc,q⟩:=h;obtain⟨t,rfl⟩:=rx;obtain⟨t',rfl⟩:=ry;exact rule i j t t' s _ _ hc ⟨.int (g i j),H,I.tok _,⟨_,rfl⟩,q⟩
theorem AA{f:aE->aE->Sem aE}{g:Int->Int->Int}
  (rule:∀(i j:Int)(t u:mR)(s:aI)(Q:aE->aI->Prop)(E:aE->aI->Prop),Q (.int (g i j) s.toks) { s with toks:=s.toks+1 }->aZ (model X.prog X.w) X.A (f (.int i t) (.int j u)) Q E s) :
  UA X f (FX λi j=>.int (g i j)):=by
 intro m3 s σ H x y v u Q I rx ry h;obtain⟨i,j,rfl,rfl,q⟩:=h;obtain⟨t,rfl⟩:=rx;obtain⟨t',rfl⟩:=ry;exact rule i j t t' s _ _ ⟨.int (g i j),H,I.tok _,⟨_,rfl⟩,q⟩
theorem F8{f:aE->aE->Sem aE}{g:Int->Int->Bool}
  (rule:∀(i j:Int)(t u:mR)(s:aI)(Q:aE->aI->Prop)(E:aE->aI->Prop),Q (.bool (g i j)) s->aZ (model X.prog X.w) X.A (f (.int i t) (.int j u)) Q E s) :
  UA X f (FX λi j=>.bl (g i j)):=by
 intro m3 s σ H x y v u Q I rx ry h;obtain⟨i,j,rfl,rfl,q⟩:=h;obtain⟨t,rfl⟩:=rx;obtain⟨t',rfl⟩:=ry;exact rule i j t t' s _ _ ⟨.bl (g i j),H,I,rfl,q⟩
def R4(i j:Int):Prop:=0<j/\j<1073741824
def DS(i j:Int):Prop:=j≠0/\j.natAbs<1073741824
def AB(i j:Int):Prop:=0<=j/\j<=1000000/\i.natAbs<2^64
def CMul(i j:Int):Prop:=(-(2^64)<i/\i<2^64)\/(-(2^64)<j/\j<2^64)
theorem CMul.ok{i j:Int}(h:CMul i j):IntMulOk i j:=by
 rcases h with⟨h1,h2⟩ | ⟨h1,h2⟩
 ·exact .of_left (intBits_le_64 h1 h2)
 ·exact .of_right (intBits_le_64 h1 h2)
theorem CY:UA X (gW .Add) (FX λi j=>.int (i+j)):=AA λ_ _ _ _ _ _ _ q=>add_int q
theorem CZ:UA X (gW .Sub) (FX λi j=>.int (i-j)):=AA λ_ _ _ _ _ _ _ q=>sub_int q
theorem C0:UA X (gW .Mult) (rI CMul λi j=>.int (i*j)):=opI λ_ _ _ _ _ _ _ hc q=>mul_int q hc.ok
theorem F9:UA X (gW .FloorDiv) (rI R4 λi j=>.int (i/j)):=opI λi j _ _ _ _ _ hc q=>by have h1:(0:Int)<j:=hc.1;have h2:j<1073741824:=hc.2;exact floordiv_int (by omega) (by rw[Int.fdiv_eq_ediv_of_nonneg i (by omega)];exact q) (.inl (PyProof.noPylong_small (by omega)))
theorem C1:UA X (gW .Mod) (rI (λ_ j=>0<j) λi j=>.int (i%j)):=opI λi j _ _ _ _ _ hc q=>by have h1:(0:Int)<j:=hc;exact mod_int' (by omega) (by rw[Int.fmod_eq_emod_of_nonneg i (by omega)];exact q)
theorem unI{f:aE->Sem aE}{g:Int->Int}
  (rule:∀(i:Int)(t:mR)(s:aI)(Q:aE->aI->Prop)(E:aE->aI->Prop),Q (.int (g i) s.toks) { s with toks:=s.toks+1 }->aZ (model X.prog X.w) X.A (f (.int i t)) Q E s) :
  UnR X f (rU λi=>.int (g i)):=by
 intro m3 s σ H x v Q I rx h;obtain⟨i,rfl,q⟩:=h;obtain⟨t,rfl⟩:=rx;exact rule i t s _ _ ⟨.int (g i),H,I.tok _,⟨_,rfl⟩,q⟩
theorem C2:UnR X (unaryOp .USub) (rU λi=>.int (-i)):=unI λ_ _ _ _ _ q=>neg_int q
end
section
variable {X:Cx} {a b c:aw} {ta tb tc:TE} {pos:dm}
theorem C3{m3:List (aH×ck)}{σ:St}{H:Hp}{s:aI}{Q:VK}{k k':Bool}(I:Inv X m3 σ H s)(q:Q (.bl k) H)(e:k=k'):EP X m3 σ Q (.bool k') s:=by subst e;exact⟨.bl k,H,I,rfl,q⟩
theorem KP:UA X (ba .Lt) (FX λi j=>.bl (decide (i<j))):=F8 λ_ _ _ _ _ _ _ q=>lt_int q
theorem UB:UA X (ba .LtE) (FX λi j=>.bl (decide (i<=j))):=F8 λ_ _ _ _ _ _ _ q=>le_int q
theorem AD:UA X (ba .Gt) (FX λi j=>.bl (decide (j<i))):=F8 λ_ _ _ _ _ _ _ q=>gt_int q
theorem AE:UA X (ba .GtE) (FX λi j=>.bl (decide (j<=i))):=F8 λ_ _ _ _ _ _ _ q=>ge_int q
theorem J1:UA X (ba .In) (λx y H Q=>∃i j,x = .str i/\y = .str j/\Q (.bl (!(cF j i 0 j.length 1).isEmpty)) H):=by intro m3 s σ H x y v u Q I rx ry h;obtain⟨i,j,rfl,rfl,q⟩:=h;obtain⟨t,rfl⟩:=rx;obtain⟨t',rfl⟩:=ry;exact in_str (C3 I q rfl)
theorem Tp(b:aw){op:jJ}(h:op≠.In:=by decide)(h2:op≠.NotIn:=by decide):cP op b=aB:=by
 have e1:(op==jJ.In)=aB:=by cases op<;>first | rfl | exact absurd rfl h
 have e2:(op==jJ.NotIn)=aB:=by cases op<;>first | rfl | exact absurd rfl h2
 cases b<;>simp[cP,e1,e2]
theorem Ea{op:jJ}{r:R2}(ho:UA X (ba op) r)(ha:PE X a ta)(hb:PE X b tb)(hm:cP op b=aB):PE X (.Compare a [op] [b] pos) (CV r ta tb):=by intro m3 s σ H Q I h;exact wpAny_Compare1 (CW ha hb I h λv u s2 x y H2 I2 rx ry q=>ho m3 s2 σ H2 x y v u Q I2 rx ry q) hm
def ON(t:TE):TT:=λσ H Q=>t σ H λx H'=>∃k,x = .bl k/\Q k H'
theorem Eb{op:jJ}{r:R2}(ho:UA X (ba op) r)(ha:PE X a ta)(hb:PE X b tb)(hm:cP op b=aB):PT X (.Compare a [op] [b] pos) (ON (CV r ta tb)):=by
 intro m3 s σ H Q I h
 refine jk (YD (ha m3 s σ H _ I h) λv s1 ⟨x,H1,I1,r1,q1⟩=>YD (hb m3 s1 σ H1 _ I1 q1) λu s2 ⟨y,H2,I2,r2,q2⟩=>
  YD (ho m3 s2 σ H2 x y v u _ I2 r1 r2 q2) λc s3 ⟨z,H3,I3,r3,k,e,q3⟩=>?_) hm
 subst e;cases r3;exact bg ⟨H3,I3,q3⟩
def LH(r r':R2)(ta tb tc:TE):TE:=λσ H Q=>ta σ H λx H1=>tb σ H1 λy H2=>r x y H2 λz H3=>∃k,z = .bl k/\
 (if k=aC then tc σ H3 λw' H4=>r' y w' H4 Q else Q (.bl aB) H3)
theorem HJ{op op':jJ}{r r':R2}(ho:UA X (ba op) r)(ho':UA X (ba op') r')(ha:PE X a ta)(hb:PE X b tb)(hc:PE X c tc)
  (hm:jK [op,op'] [b,c]=aB:=by with_unfolding_all rfl):PE X (.Compare a [op,op'] [b,c] pos) (LH r r' ta tb tc):=by
 intro m3 s σ H Q I h
 refine Compare_chain (YD (ha m3 s σ H _ I h) λv s1 ⟨x,H1,I1,r1,q1⟩=>chain_link (YD (hb m3 s1 σ H1 _ I1 q1) λu s2 ⟨y,H2,I2,r2,q2⟩=>
  YD (ho m3 s2 σ H2 x y v u _ I2 r1 r2 q2) λd s3 ⟨z,H3,I3,r3,k,e,q3⟩=>?_)) hm
 subst e;cases r3;refine bg ?_
 cases k with
 | false=>exact ite_ff ⟨.bl aB,H3,I3,rfl,q3⟩
 | true=>exact ite_tt (chain_last (YD (hc m3 s3 σ H3 _ I3 q3) λw' s4 ⟨z',H4,I4,r4,q4⟩=>ho' m3 s4 σ H4 y z' u w' Q I4 r2 r4 q4))
theorem HK{op op':jJ}{r r':R2}(ho:UA X (ba op) r)(ho':UA X (ba op') r')(ha:PE X a ta)(hb:PE X b tb)(hc:PE X c tc)
  (hm:jK [op,op'] [b,c]=aB:=by with_unfolding_all rfl):PT X (.Compare a [op,op'] [b,c] pos) (ON (LH r r' ta tb tc)):=by
 intro m3 s σ H Q I h
 refine isTrue_chain (YD (ha m3 s σ H _ I h) λv s1 ⟨x,H1,I1,r1,q1⟩=>test_link (YD (hb m3 s1 σ H1 _ I1 q1) λu s2 ⟨y,H2,I2,r2,q2⟩=>
  YD (ho m3 s2 σ H2 x y v u _ I2 r1 r2 q2) λd s3 ⟨z,H3,I3,r3,k,e,q3⟩=>?_)) hm
 subst e;cases r3;refine bg ?_
 cases k with
 | false=>
  obtain⟨k',e',q'⟩:=q3;cases e';exact ite_ff ⟨H3,I3,q'⟩
 | true=>
  refine ite_tt (test_last (YD (hc m3 s3 σ H3 _ I3 q3) λw' s4 ⟨z',H4,I4,r4,q4⟩=>YD (ho' m3 s4 σ H4 y z' u w' _ I4 r2 r4 q4) λd' s5 ⟨z2,H5,I5,r5,k2,e2,q5⟩=>?_));subst e2;cases r5;exact bg ⟨H5,I5,q5⟩
def Zbk(K:aG)(x:V)(H:Hp)(k:Bool):Prop:=
 match x with
 | .non=>k=aB
 | .bl b=>k=b
 | .int i=>k=(i != 0)
 | .str y=>y.length<=sizeLine/\k=((y.length:Int) != 0)
 | .byt y=>y.size<=sizeLine/\k=((y.size:Int) != 0)
 | .ref p=>(∃xs,SqL K H p xs/\k = !xs.isEmpty)\/(∃xs,SqT K H p xs/\k = !xs.isEmpty)\/∃m4,H p=aA (.dK m4)/\k = !m4.isEmpty
 | _=>False
theorem LI{κ:Type}{m4:List (κ×V)}{vs:List (κ×aE)}(r:KV m4 vs):(!vs.isEmpty) = !m4.isEmpty:=by cases r<;>rfl
theorem Pe{xs:List V}{mY:List aE}(r:Vals xs mY):(!mY.toArray.isEmpty) = !xs.isEmpty:=by cases r<;>simp
theorem R5:(sizeLine:Nat)<2^63:=by rw[jx];decide
theorem tru_ok:Zbi X (λx H Q=>∃k,Zbk X.K x H k/\Q k H):=by
 intro m3 s σ H x v Q I rx h;obtain⟨k,e,q⟩:=h;have hl:=R5;have hs:sizeLine=16777216:=jx
 cases x with
 | non=>
  cases rx;have e':k=aB:=e;subst e';exact truthy_none ⟨H,I,q⟩
 | bl b=>
  cases rx;have e':k=b:=e;subst e';exact bg ⟨H,I,q⟩
 | int i=>
  obtain⟨t,rfl⟩:=rx;have e':k=(i != 0):=e;subst e';exact PySem.P.truthy_int ⟨H,I,q⟩
 | str y=>
  obtain⟨t,rfl⟩:=rx;obtain⟨hy,e'⟩:y.length<=sizeLine/\k=((y.length:Int) != 0):=e;subst e';exact PySem.P.truthy_str (by omega) ⟨H,I.tok _,q⟩
 | byt y=>
  obtain⟨t,rfl⟩:=rx;obtain⟨hy,e'⟩:y.size<=sizeLine/\k=((y.size:Int) != 0):=e;subst e';exact PySem.W.truthy_bytes (by omega) ⟨H,I.tok _,q⟩
 | ref p=>
  cases rx;have e':(∃xs,SqL X.K H p xs/\k = !xs.isEmpty)\/(∃xs,SqT X.K H p xs/\k = !xs.isEmpty)\/∃m4,H p=aA (.dK m4)/\k = !m4.isEmpty:=e;rcases e' with⟨xs,hx,e'⟩ | ⟨xs,hx,e'⟩ | ⟨m4,hx,e'⟩
  ·subst e';obtain⟨mY,r,pl,hz⟩:=I.list hx;have hlen:=r.length;exact wpAny_truthy_list pl.isList (by simp only[aj];omega) ⟨H,I.tok _,by rw[Pe r];exact q⟩
  ·subst e';obtain⟨mY,r,pl,hz⟩:=I.tuple hx;have hlen:=r.length;exact truthy_tuple pl (by simp only[aj];omega) ⟨H,I.tok _,by rw[Pe r];exact q⟩
  ·subst e';obtain⟨hz,hS,vs,r,m⟩:m4.length<=sizeLine/\(p==eh)=aB/\∃vs,KV m4 vs/\s.heap.DictOf (Xr X.prog X.w) p vs:=I.hok p _ hx;have hlen:m4.length=vs.length:=Paired.length r;exact wpAny_truthy_dict hS m (by omega) ⟨H,I.tok _,by rw[LI r];exact q⟩
 | _=>exact(show False from e).elim
theorem Yr:UA X (gW .Add) (λx y H Q=>∃i j,x = .str i/\y = .str j/\i.length+j.length<=sizeLine/\Q (.str (i++j)) H):=by intro m3 s σ H x y v u Q I rx ry h;obtain⟨i,j,rfl,rfl,hz,q⟩:=h;obtain⟨t,rfl⟩:=rx;obtain⟨t',rfl⟩:=ry;exact add_str (λt' tk=>⟨.str (i++j),H,I.tok _,⟨_,rfl⟩,q⟩) hz
theorem VP{x:V}{us:List aE}(r:Vals [x] us):∃u,us=[u]/\RelV x u:=by
 cases r with
 | cons r1 r2=>cases r2;exact⟨_,rfl,r1⟩
theorem KQ{x y:V}{us:List aE}(r:Vals [x,y] us):∃u w',us=[u,w']/\RelV x u/\RelV y w':=by
 cases r with
 | cons r1 r2=>
  cases r2 with
  | cons r3 r4=>cases r4;exact⟨_,_,rfl,r1,r3⟩
theorem J2(hc:X.calm=aC):W8 X (.builtin "max") (λxs H Q=>∃i j,xs=[.int i,.int j]/\Q (.int (if j>i then j else i)) H):=by
 intro m3 s σ H xs us Q I r h;obtain⟨i,j,rfl,q⟩:=h;obtain⟨u,w',rfl,⟨t,rfl⟩,⟨t',rfl⟩⟩:=KQ r;refine max_two_ints (I.ok.hd hc) λh' tk k=>⟨_,H,I.kept k,?_,q⟩;by_cases hj:j>i
 ·rw[mZ hj,mZ hj];exact⟨_,rfl⟩
 ·rw[ma hj,ma hj];exact⟨_,rfl⟩
theorem R6(hc:X.calm=aC):W8 X (.builtin "min") (λxs H Q=>∃i j,xs=[.int i,.int j]/\Q (.int (if j<i then j else i)) H):=by
 intro m3 s σ H xs us Q I r h;obtain⟨i,j,rfl,q⟩:=h;obtain⟨u,w',rfl,⟨t,rfl⟩,⟨t',rfl⟩⟩:=KQ r;refine min_two_ints (I.ok.hd hc) λh' tk k=>⟨_,H,I.kept k,?_,q⟩;by_cases hj:j<i
 ·rw[mZ hj,mZ hj];exact⟨_,rfl⟩
 ·rw[ma hj,ma hj];exact⟨_,rfl⟩
theorem J3:W8 X (.type "int") (λxs H Q=>(∃i,xs=[.int i]/\Q (.int i) H)\/∃k,xs=[.bl k]/\Q (.int (if k then 1 else 0)) H):=by
 intro m3 s σ H xs us Q I r h;rcases h with⟨i,rfl,q⟩ | ⟨k,rfl,q⟩
 ·obtain⟨u,rfl,t,rfl⟩:=VP r;exact call_int_int ⟨.int i,H,I,⟨_,rfl⟩,q⟩
 ·obtain⟨u,rfl,r1⟩:=VP r;cases r1;exact call_int_bool ⟨.int (if k then 1 else 0),H,I.tok _,⟨_,rfl⟩,q⟩
theorem Vu:W8 X (.type "str") (λxs H Q=>∃i,xs=[.int i]/\i.natAbs.log2<1920/\Q (.str (toString i)) H):=by intro m3 s σ H xs us Q I r h;obtain⟨i,rfl,hz,q⟩:=h;obtain⟨u,rfl,t,rfl⟩:=VP r;exact PySem.P.str_of_int hz ⟨.str _,H,I.tok _,⟨_,rfl⟩,q⟩
def AF(K:aG)(x:V)(H:Hp)(n:Nat):Prop:=
 match x with
 | .str y=>y.length<=sizeLine/\n=y.length
 | .byt y=>y.size<=sizeLine/\n=y.size
 | .ref p=>(∃xs,SqL K H p xs/\n=xs.length)\/∃xs,SqT K H p xs/\n=xs.length
 | _=>False
theorem Yb:W8 X (.builtin "len") (λxs H Q=>∃x n,xs=[x]/\AF X.K x H n/\Q (.int n) H):=by
 intro m3 s σ H xs us Q I r h;obtain⟨x,n,rfl,e,q⟩:=h;obtain⟨u,rfl,rx⟩:=VP r;have hl:=R5;have hs:sizeLine=16777216:=jx
 cases x with
 | str y=>
  obtain⟨t,rfl⟩:=rx;obtain⟨hy,e'⟩:y.length<=sizeLine/\n=y.length:=e;subst e';exact len_str (by omega) ⟨.int _,H,I.tok _,⟨_,rfl⟩,q⟩
 | byt y=>
  obtain⟨t,rfl⟩:=rx;obtain⟨hy,e'⟩:y.size<=sizeLine/\n=y.size:=e;subst e';exact PySem.W.len_bytes (by omega) ⟨.int _,H,I.tok _,⟨_,rfl⟩,q⟩
 | ref p=>
  cases rx;have e':(∃xs,SqL X.K H p xs/\n=xs.length)\/∃xs,SqT X.K H p xs/\n=xs.length:=e;rcases e' with⟨xs,hx,e'⟩ | ⟨xs,hx,e'⟩
  ·subst e';obtain⟨mY,r',pl,hz⟩:=I.list hx;have hlen:=r'.length;exact Calls.call_len_list pl.isList (by simp only[aj];omega) ⟨.int xs.length,H,I.tok _,⟨_,by simp only[aj];rw[hlen]⟩,q⟩
  ·subst e';obtain⟨mY,r',pl,hz⟩:=I.tuple hx;have hlen:=r'.length;exact len_tuple pl (by simp only[aj];omega) ⟨.int xs.length,H,I.tok _,⟨_,by simp only[aj];rw[hlen]⟩,q⟩
 | _=>exact(show False from e).elim
end
theorem RelO.some_of{v:V}{o:Option aE}(r:RelO (aA v) o):∃u,o=aA u/\RelV v u:=by
 cases o with
 | none=>exact(show False from r).elim
 | some u=>exact⟨u,rfl,r⟩
section
variable {X:Cx} {m3:List (aH×ck)} {σ:St} {H:Hp} {s:aI} {a C dx:aH} {fs:List (aR×V)} {f:aR} {v:V} {A:b5} {E:aE->aI->Prop}
theorem Ec{prog:bC}{w:b6}{env:iu}{e:aw}{f:aR}{pos:dm}{s:aI}{Q:aE->aI->Prop}(hb:fP e f env (eval e env)=eval e env)
  (h:aZ (model prog w) A (eval e env) (λo s₁=>aZ (model prog w) A (getAttr o f aC) Q E s₁) E s):aZ (model prog w) A (eval (.Attribute e f pos) env) Q E s:=
 Attribute_any_ h (by rw[arm_eval_Attribute,hb])
end
structure Room(k:Nat)(A:b5):Prop where
 hd:A.handled=none
 dp:A.depth+3*k+5<recursionLimit
 un:A.units+16*k+200<eJ
 gd:A.guards=aA []
theorem Room.mono{j k:Nat}{A:b5}(r:Room k A)(h:j<=k):Room j A:=⟨r.hd,by have:=r.dp;omega,by have:=r.un;omega,r.gd⟩
theorem Room.deeper{k:Nat}{A:b5}(r:Room (k+1) A)(env:iu):Room k (A.deeper env):=
 ⟨r.hd,by have:=r.dp;show A.depth+1+3*k+5<_;omega,by have:=r.un;show A.units+3+16*k+200<_;omega,r.gd⟩
theorem LJ{A:b5}{C:aH}{us:List aE}{kw:List (aR×aE)}:(A.under (.builtin "type.__call__" ⟨.ref C::us,kw⟩)).depth=A.depth+1:=by
 first | rfl | simp[jW,Code.weight,Code.isCreation,Code.isGuard,Code.isCaller,Code.frames,kj,guardIds]
theorem LK{A:b5}{C:aH}{us:List aE}{kw:List (aR×aE)}:(A.under (.builtin "type.__call__" ⟨.ref C::us,kw⟩)).units=A.units+1:=by
 first | rfl | simp[jW,Code.cUnits,Code.frames,kj]
theorem Room.make{k:Nat}{A:b5}(r:Room (k+1) A)(C:aH)(us:List aE)(kw:List (aR×aE)):Room k (A.under (.builtin "type.__call__" ⟨.ref C::us,kw⟩)):=
 ⟨r.hd,by have:=r.dp;rw[LJ];omega,by have:=r.un;rw[LK];omega,by first | exact r.gd | (simpa [jW,pushGuards,Code.guards,Code.isGuard,guardIds] using r.gd)⟩
theorem Room.depth{k:Nat}{A:b5}(r:Room k A):A.depth<recursionLimit:=by have:=r.dp;omega
theorem Room.units{k:Nat}{A:b5}(r:Room k A):A.units+64<eJ:=by have:=r.un;omega
def NB:TA:=λ_ H Q=>Q [] H
def UC(ta:TE)(tr:TA):TA:=λσ H Q=>ta σ H λx H1=>tr σ H1 λxs H2=>Q (x::xs) H2
section
variable {X:Cx} {e:aw} {es:List aw} {te:TE} {t:TA} {pos:dm}
theorem XI:PA X [] NB:=λ_ _ _ _ H Q I h=>Calls.spliced_nil ⟨[],H,I,.nil,h⟩
theorem Yh(ha:PE X e te)(hr:PA X es t)(hs:aO (e::es) X.env=(aB,eval e X.env)::aO es X.env:=by rfl):PA X (e::es) (UC te t):=by intro pos m3 s σ H Q I h;rw[hs];show aZ _ _ (spliced ((aB,eval e X.env)::cL pos (aO es X.env))) _ _ s;refine Calls.spliced_cons (YD (ha m3 s σ H _ I h) λu s1 ⟨x,H1,I1,r1,q1⟩=>?_);exact YD (hr pos m3 s1 σ H1 _ I1 q1) λus s2 ⟨xs,H2,I2,r2,q2⟩=>⟨x::xs,H2,I2,.cons r1 r2,q2⟩
def AG(t:TA):TE:=λσ H Q=>t σ H λxs H1=>xs.length<=sizeLine/\∀p,H1 p=none->Q (.ref p) (upd H1 p (.tup xs))
def AH(t:TA):TE:=λσ H Q=>t σ H λxs H1=>xs.length<=sizeLine/\∀p,H1 p=none->Q (.ref p) (upd H1 p (.lst xs))
theorem Pf{x1}(h:PA X es t):PE X (.Tuple es x1 pos) (AG t):=by intro m3 s σ H Q I hq;refine wpAny_Tuple_spliced (YD (h pos m3 s σ H _ I hq) λus s1 ⟨xs,H1,I1,r,z,q⟩=>⟨by rw[<-r.length];exact z,?_⟩);have hf:H1 s1.heap.objs.size=none:=I1.hok.fresh (ar _);refine⟨.ref s1.heap.objs.size,upd H1 s1.heap.objs.size (.tup xs),I1.laid (t':=s1.toks) (λb u e=>aM _ e) (ar _) ?_,rfl,q _ hf⟩;exact⟨z,us,r,⟨_,bD _ rfl,rfl,_,rfl⟩⟩
theorem LL(h:PA X es t):PE X (.List es pos) (AH t):=by intro m3 s σ H Q I hq;refine wpAny_List_spliced (YD (h pos m3 s σ H _ I hq) λus s1 ⟨xs,H1,I1,r,z,q⟩=>⟨by rw[<-r.length];exact z,?_⟩);have hf:H1 s1.heap.objs.size=none:=I1.hok.fresh (ar _);refine⟨.ref s1.heap.objs.size,upd H1 s1.heap.objs.size (.lst xs),I1.laid (t':=s1.toks) (λb u e=>aM _ e) (ar _) ?_,rfl,q _ hf⟩;exact⟨z,us,0,r,bD _ rfl⟩
end
abbrev Sp:=List V->Hp->VK->XK->Prop
abbrev HL:=List iu->Hp->aI->XK->aE->aI->Prop
structure Env0(P:bC)(w:b6)(K:aG)(mg:aR->Option aE)(base:bV)(A:b5)(outer:List iu)(s:aI)(H:Hp):Prop where
 frames:A.frames=aA outer
 mod:Mod K mg base
 bs:∀b o,base.get? b=aA o->s.heap.get? b=aA o/\H b=none
 bsz:base.objs.size<=s.heap.objs.size
 funs:s.heap.FunFrames base outer
 frf:∀b∈Nz outer,H b=none
 hok:HOk P w H s.heap
 bare:iG s.gens
def CE(outer:List iu)(P:bC)(w:b6)(H:Hp)(s:aI)(Q:VK)(u:aE)(s':aI):Prop:=
 ∃v H',s'.os=s.os/\iG s'.gens/\Un (Nz outer) [] H H' s.heap s'.heap/\HOk P w H' s'.heap/\RelV v u/\Q v H'
def CR(CX:HL)(outer:List iu)(P:bC)(w:b6)(H:Hp)(s:aI)(Q:VK)(E:XK)(r:mK)(s':aI):Prop:=
 match r with
 | .ok (.ret u)=>CE outer P w H s Q u s'
 | .ok _=>False
 | .error e=>CX outer H s E e s'
structure Tq(P:bC)(w:b6)(K:aG)(mg:aR->Option aE)(base:bV)(CX:HL)(k:Nat)(f:aH)(fd:dy)(ps:List aR)(sp:Sp):Prop where
 len:∀vs H Q E,sp vs H Q E->vs.length=ps.length
 run:∀(A:b5)(outer:List iu)(s:aI)(H:Hp)(args:Args)(us:List aE)(vs:List V)(Q:VK)(E:XK),Room k A->Env0 P w K mg base A outer s H->kI s fd args (ps.zip us)->Vals vs us->sp vs H Q E->
  gF (model P w) A (.call (.ref f) args) (CR CX outer P w H s Q E) s
theorem Env0.make{P:bC}{w:b6}{K:aG}{mg:aR->Option aE}{base:bV}{A:b5}{outer:List iu}{s:aI}{H:Hp}(e:Env0 P w K mg base A outer s H)(C:aH)(us:List aE)(kw:List (aR×aE)) :
  Env0 P w K mg base (A.under (.builtin "type.__call__" ⟨.ref C::us,kw⟩)) outer s H:=⟨by first | exact e.frames | (simpa [jW,Code.envs,kj,pushEnvs] using e.frames),e.mod,e.bs,e.bsz,e.funs,e.frf,e.hok,e.bare⟩
section
variable {X:Cx} {m3:List (aH×ck)} {σ:St} {H:Hp} {s s':aI}
theorem Inv.env0(I:Inv X m3 σ H s):Env0 X.prog X.w X.K X.mg X.base X.A X.stack s H:=
 ⟨I.ok.frames,I.ok.mod,I.bs,bu I.ok.bsz I.sz,I.stack,I.stkFree,I.hok,I.bare⟩
theorem Inv.after{Q:VK}{u:aE}(I:Inv X m3 σ H s)(h:CE X.stack X.prog X.w H s Q u s'):EP X m3 σ Q u s':=by obtain⟨v,H',os,bare,un,hok,r,q⟩:=h;obtain⟨hh,g,d,t,os'⟩:=s';obtain rfl:os'=s.os:=os;exact⟨v,H',I.call (h':=hh) (g':=g) (d':=d) (t':=t) (ch:=[]) un hok bare (λb z=>absurd z (by simp)),r,q⟩
end
def DT(sp:Sp)(dvs:List V)(E:XK)(t:TA):TE:=λσ H Q=>t σ H λvs H1=>sp (vs++dvs) H1 Q E
def Binds(K:aG)(fd:dy)(ps:List aR)(ds:List aE):Prop:=
 ∀(s:aI)(us:List aE),K.In s.heap->(us++ds).length=ps.length->kI s fd ⟨us,[]⟩ (ps.zip (us++ds))
theorem Binds.all{K:aG}{fd:dy}{ps:List aR}(h:∀us:List aE,us.length=ps.length->iP fd ⟨us,[]⟩=pure (ps.zip us)):Binds K fd ps []:=λs us _ hl=>by rw[bI] at hl ⊢;exact .of_eq (h us hl)
def NC(CX:HL)(X:Cx)(E:XK):Prop:=∀(m3:List (aH×ck))(σ:St)(H:Hp)(s:aI)(e:aE)(s':aI),Inv X m3 σ H s->CX X.stack H s E e s'->X.xe e s'
section
variable {X:Cx} {CX:HL} {k:Nat} {f C:aH} {fd:dy} {ps:List aR} {sp:Sp} {dvs:List V} {ds:List aE} {E:XK} {x m:aR} {p pos apos:dm} {e o:aw} {es:List aw} {ta:TE} {t:TA}
theorem C4{m3:List (aH×ck)}{σ:St}{H:Hp}{s:aI}{Q:VK}{us:List aE}{vs:List V}(F:Tq X.prog X.w X.K X.mg X.base CX k f fd ps sp)(hr:Room k X.A)(hb:Binds X.K fd ps ds)(hd:Vals dvs ds)(hx:NC CX X E)
  (I:Inv X m3 σ H s) (r:Vals vs us) (h:sp (vs++dvs) H Q E):aZ (model X.prog X.w) X.A (call (.ref f) us) (EP X m3 σ Q) X.xe s:=by
 have r2:Vals (vs++dvs) (us++ds):=r.append hd;have hl:(us++ds).length=ps.length:=by rw[<-r2.length];exact F.len _ _ _ _ h
 refine f9 (eX (F.run X.A X.stack s H ⟨us,[]⟩ (us++ds) (vs++dvs) Q E hr I.env0 (hb s us I.kIn hl) r2 h) λr s' hq=>?_)
 cases r with
 | error e=>exact hx m3 σ H s e s' I hq
 | ok fl=>
  cases fl with
  | ret u=>exact I.after hq
  | next=>exact b9 hq
  | brk=>exact b9 hq
  | cont=>exact b9 hq
theorem Ed(F:Tq X.prog X.w X.K X.mg X.base CX k f fd ps sp)(hr:Room k X.A)(hg:Gl X x)(hm:X.mg x=aA (.ref f))(hk:eM X.K (.ref f)=aC)(hb:Binds X.K fd ps ds)(hd:Vals dvs ds)(hx:NC CX X E)
  (ha:PA X (e::es) t) (hdb:(x==("__debug__" : aR))=aB:=by decide) (he:aO (e::es) X.env=(aB,eval e X.env)::aO es X.env:=by rfl) (hpl:(cL pos (aO es X.env)).any (·.1)=aB:=by rfl) :
  PE X (.Call (.Name x p) (e::es) [] pos) (DT sp dvs E t):=by
 intro m3 s σ H Q I h;refine dA (Wl I hg hm ?_ hdb);refine eN (h₀:=X.base) I.ok.mod.kin hk (YD (ha pos m3 s σ H _ I h) λus s1 ⟨vs,H1,I1,r,q⟩=>⟨I1.kIn,?_⟩) he hpl;exact C4 F hr hb hd hx I1 r q
end
structure Z6(N P:List aR)(sc:fJ):Prop where
 kind:sc.kind = .function
 co:sc.isCoroutine=aB
 gen:sc.isGenerator=aB
 nd:N.Nodup
 pre:N.take P.length=P
 par:∀x∈P,sc.names.lookup x=aA .local\/sc.names.lookup x=aA .cell
 nofree:∀y∈sc.names,y.2≠.free
theorem OO{kindOf:aR->Option fC}{x:aR}:∀{binds:List (aR×aE)}{m:aR->Option aE},(∀v,(x,v)∉binds)->l8 kindOf binds m x=m x
 | [],_,_=>rfl
 | (n,v)::r,m,h=>by
  unfold l8;rw[OO λw hw=>h w (aQ _ hw)];split
  ·have:x≠n:=by rintro rfl;exact h v a9
   simp[this]
  ·rfl
theorem OP{kindOf:aR->Option fC}{x:aR}:∀{binds:List (aR×aE)}{m:aR->Option aE},(∀v,(x,v)∉binds)->l9 kindOf binds m x=m x
 | [],_,_=>rfl
 | (n,v)::r,m,h=>by
  unfold l9;rw[OP λw hw=>h w (aQ _ hw)];split
  ·rfl
  ·have:x≠n:=by rintro rfl;exact h v a9
   simp[this]
theorem OQ{kindOf:aR->Option fC}{x:aR}{v:aE}:∀{P:List aR}{vs:List aE}{i:Nat}{m:aR->Option aE},P.Nodup->P[i]?=aA x->vs[i]?=aA v->kindOf x=aA .local->
  l8 kindOf (P.zip vs) m x=aA v
 | [],_,_,_,_,h,_,_=>by simp at h
 | _::_,[],_,_,_,_,h,_=>by simp at h
 | p::P,w::vs,0,m,nd,h1,h2,hk=>by simp at h1 h2;subst h1;subst h2;show l8 kindOf ((p,w)::P.zip vs) m p=_;unfold l8;rw[OO λv hv=>(bP.mp nd).1 (jc hv).1,mZ hk];simp
 | p::P,w::vs,i+1,m,nd,h1,h2,hk=>by show l8 kindOf ((p,w)::P.zip vs) m x=_;unfold l8;exact OQ (i:=i) (bP.mp nd).2 (by simpa using h1) (by simpa using h2) hk
theorem OR{kindOf:aR->Option fC}{x:aR}{v:aE}:∀{P:List aR}{vs:List aE}{i:Nat}{m:aR->Option aE},P.Nodup->P[i]?=aA x->vs[i]?=aA v->kindOf x≠aA .local->
  l9 kindOf (P.zip vs) m x=aA v
 | [],_,_,_,_,h,_,_=>by simp at h
 | _::_,[],_,_,_,_,h,_=>by simp at h
 | p::P,w::vs,0,m,nd,h1,h2,hk=>by simp at h1 h2;subst h1;subst h2;show l9 kindOf ((p,w)::P.zip vs) m p=_;unfold l9;rw[OP λv hv=>(bP.mp nd).1 (jc hv).1,ma hk];simp
 | p::P,w::vs,i+1,m,nd,h1,h2,hk=>by show l9 kindOf ((p,w)::P.zip vs) m x=_;unfold l9;exact OR (i:=i) (bP.mp nd).2 (by simpa using h1) (by simpa using h2) hk
def start(N:List aR)(vs:List V):St:=vs.map aA++aJ (N.length-vs.length) none
def R7(CX:HL)(P:bC)(w:b6)(K:aG)(mg:aR->Option aE)(base:bV)(N:List aR)(qual:aR)(scope:fJ)(f:aH)(cd:aE)(A:b5)(outer:List iu)(s:aI)(H:Hp)(E:XK):Cx where
 prog:=P
 w:=w
 K:=K
 mg:=mg
 base:=base
 A:=A.deeper (gX qual scope s.heap.objs.size f cd)
 N:=N
 s₀:=s
 H₀:=H
 env:=gX qual scope s.heap.objs.size f cd
 outer:=outer
 stack:=gX qual scope s.heap.objs.size f cd::outer
 ex:=[]
 calm:=aC
 fn:=λ_=>aC
 pn:=[]
 xe:=λe s'=>aZ (model P w) (A.deeper (gX qual scope s.heap.objs.size f cd)) (leaving (gX qual scope s.heap.objs.size f cd) e) (λ_ s''=>CX outer H s E e s'') (λe' s''=>CX outer H s E e' s'') s'
theorem Mq{sc:fJ}{n:Nat}{x:aR}(h:sc.names.lookup x=aA .cell):∃c,(cellsFrom n sc.names []).lookup x=aA c:=by have q:=jX sc.names n [] (.inl h);exact cQ.mp q
theorem J4{CX:HL}{P:bC}{w:b6}{K:aG}{mg:aR->Option aE}{base:bV}{N ps:List aR}{qual:aR}{scope:fJ}{f:aH}{cd:aE}{A:b5}{outer:List iu}{s s1:aI}{H:Hp}{E:XK}{us:List aE}{vs:List V}
  (S:Z6 N ps scope) (hd:A.handled=none) (e0:Env0 P w K mg base A outer s H) (hl:vs.length=ps.length) (r:Vals vs us)
  (x:InCallC s s.heap.objs.size (l8 (gX qual scope s.heap.objs.size f cd).kindOf (ps.zip us) λ_=>none) (cellsFrom (s.heap.objs.size+1) scope.names []) (l9 (gX qual scope s.heap.objs.size f cd).kindOf (ps.zip us) λ_=>none) s1) :
  Inv (R7 CX P w K mg base N qual scope f cd A outer s H E) [] (start N vs) H s1:=by
 have hpl:ps.length<=N.length:=by have:=congrArg fj S.pre;rw[br] at this;omega
 obtain⟨h1,tk,rfl,hk⟩:=x.done;have noA:∀b:aH,b∉(R7 CX P w K mg base N qual scope f cd A outer s H E).ex:=λb z=>absurd (show b∈([]:List aH) from z) (by simp)
 refine⟨⟨e0.mod,S.kind,rfl,rfl,ar _,λy z c h1 h2=>?_,λy hy=>?_,λy c _ h=>?_,λ_=>hd,b5.frames_deeper e0.frames,.inr ⟨rfl,rfl⟩,λb z=>absurd z (noA b),e0.bs,e0.bsz,λb _ _=>noA b,λb z=>absurd z (noA b),e0.funs,e0.frf⟩,
  rfl,e0.bare,Un.kept hk,⟨_,x.toInCall.ns,λi y v h1 h2 h3=>?_⟩,λy c h=>⟨_,x.cell y c h⟩,e0.hok.fresh (ar _),λy c h=>?_,λp hp=>absurd (show p∈([]:List (aH×ck)) from hp) (by simp),e0.hok.kept hk,?_⟩
 ·exact name_of_addr x.apart (dz h1) (dz h2)
 ·have hy:scope.names.lookup y=aA .cell\/scope.names.lookup y=aA .free:=hy;rcases hy with hy | hy
  ·exact Mq hy
  ·exact absurd rfl (S.nofree _ (dz hy))
 ·exact cy (x.above y c (dz h))
 ·have hi:i<vs.length:=by
   unfold start at h2;by_cases hi:i<vs.length
   ·exact hi
   ·rw[bh (by simpa using hi)] at h2;rw[cG] at h2;split at h2<;>cases h2
  have ha:vs[i]?=aA v:=by
   unfold start at h2;rw[bT (by simpa using hi),aS] at h2
   cases e:vs[i]? with
   | none=>rw[e] at h2;cases h2
   | some a=>rw[e] at h2;cases h2;rfl
  obtain⟨u,hu,rv⟩:=r.get ha;have hp:ps[i]?=aA y:=by rw[<-S.pre,jA (by omega)];exact h1
  have ndP:ps.Nodup:=by rw[<-S.pre];exact S.nd.sublist (fX _ _)
  refine⟨u,rv,?_⟩;rcases S.par y (b7 hp) with k | k
  ·exact .inl ⟨k,OQ ndP hp hu k⟩
  ·obtain⟨c,e⟩:=Mq (n:=s.heap.objs.size+1) k;refine .inr ⟨.inl k,c,e,?_⟩;have q:=x.cell y c e;rw[OR ndP hp hu (by show scope.names.lookup y≠_;rw[k];decide)] at q;exact q
 ·exact e0.hok.fresh (cy (x.above y c (dz h)))
 ·unfold start;show _=N.length;rw[aq,aN,eQ];omega
theorem HM{CX:HL}{P:bC}{w:b6}{K:aG}{mg:aR->Option aE}{base:bV}{k:Nat}{f:aH}{name qual:aR}{params:Arguments}{body:List bj}{scope:fJ}{dV kV doc pm cdv ct oc:aE}{an od:Option aH}
  {osl:Array (Option aE)} {N ps:List aR} {sp:Sp} (lk:K.lookup f=aA ⟨oc,od,.func (cV name qual params body scope dV kV doc pm an cdv ct),osl⟩) (hcd:fu K cdv qual=aC) (S:Z6 N ps scope)
  (len:∀vs H Q E,sp vs H Q E->vs.length=ps.length)
  (hbody:∀(A:b5)(outer:List iu)(s:aI)(H:Hp)(vs:List V)(Q:VK)(E:XK),Room k (A.deeper (gX qual scope s.heap.objs.size f cdv))->sp vs H Q E->
   ∃t,PSs (R7 CX P w K mg base N qual scope f cdv A outer s H E) body t/\t { nx:=λ_ H'=>Q .non H',rt:=Q } (start N vs) H) :
  Tq P w K mg base CX (k+1) f (cV name qual params body scope dV kV doc pm an cdv ct) ps sp:=by
 refine⟨len,λA outer s H args us vs Q E hr e0 hb r hsp=>?_⟩;have hl:=len _ _ _ _ hsp;have KX:K.In s.heap:=e0.mod.kin.keeps λb o e=>(e0.bs b o e).1;have lim:s.heap.NoLimit:=e0.mod.nolimit.keeps λb o e=>(e0.bs b o e).1
 have hkind:∀y∈ps.zip us,scope.names.lookup y.1=aA .local\/(scope.names.lookup y.1=aA .cell/\((cellsFrom (s.heap.objs.size+1) scope.names []).lookup y.1).isSome=aC):=λ⟨n,v⟩ hy=>by
  rcases S.par n (jc hy).1 with q | q
  ·exact .inl q
  ·exact .inr ⟨q,jX _ _ _ (.inl q)⟩
 refine codeAny_call_function hr.depth (KX _ _ lk) rfl S.co S.gen rfl (PySem.W.codeRec_of KX hcd) (hb _ _ _ _ ?_);refine wpAny_newFunctionEnv_cells S.kind hkind λenv he s1 x=>?_;subst he;refine⟨lim.keeps x.toInCall.keep,codeAny_func ?_⟩;obtain⟨t,ht,hq⟩:=hbody A outer s H vs Q E (hr.deeper _) hsp;have I:Inv (R7 CX P w K mg base N qual scope f cdv A outer s H E) [] (start N vs) H s1:=J4 S hr.hd e0 hl r x;refine ay (ht [] s1 (start N vs) H _ I hq) (λfl s' hs=>?_) λe s' hs=>hs
 have fin:∀{σ':St}{H':Hp}{v:V}{u:aE},Inv (R7 CX P w K mg base N qual scope f cdv A outer s H E) [] σ' H' s'->RelV v u->Q v H'->CE outer P w H s Q u s':=
  λ{σ' H' v u} J rv q=>⟨v,H',J.os,J.bare,J.base,J.hok,rv,q⟩
 cases fl with
 | ret u=>
  obtain⟨v,σ',H',J,rv,q⟩:=hs;exact fin J rv q
 | next=>
  obtain⟨σ',H',J,q⟩:=hs;exact fin (v:=V.non) (u:=bJ) J rfl q
 | brk=>
  obtain⟨_,_,_,q⟩:=hs;exact b9 q
 | cont=>
  obtain⟨_,_,_,q⟩:=hs;exact b9 q
section
variable {X:Cx} {x:aR} {p pos:dm} {e:aw} {es:List aw} {t:TA} {id T:String} {r:List V->Hp->VK->Prop}
def tCB(r:List V->Hp->VK->Prop)(t:TA):TE:=λσ H Q=>t σ H λvs H1=>r vs H1 Q
theorem Rb(hc:W8 X (.builtin id) r)(hg:Gl X x)(hm:X.mg x=none)(hv:eD x=aA (.builtin id))(ha:PA X (e::es) t)(hn:x≠"__name__":=by decide)(hdb:(x==("__debug__" : aR))=aB:=by decide)
  (he:aO (e::es) X.env=(aB,eval e X.env)::aO es X.env:=by rfl) (hpl:(cL pos (aO es X.env)).any (·.1)=aB:=by rfl):PE X (.Call (.Name x p) (e::es) [] pos) (tCB r t):=by
 intro m3 s σ H Q I h;refine dA (R3 I hg hm hv ?_ hn hdb);exact PyProof.Rows.callWith_builtin1 (YD (ha pos m3 s σ H _ I h) λus s1 ⟨vs,H1,I1,r1,q1⟩=>hc m3 s1 σ H1 vs us Q I1 r1 q1) he hpl
theorem J5(hc:W8 X (.type T) r)(hg:Gl X x)(hm:X.mg x=none)(hv:eD x=aA (.type T))(ha:PA X (e::es) t)(hn:x≠"__name__":=by decide)(hdb:(x==("__debug__" : aR))=aB:=by decide)
  (he:aO (e::es) X.env=(aB,eval e X.env)::aO es X.env:=by rfl) (hpl:(cL pos (aO es X.env)).any (·.1)=aB:=by rfl):PE X (.Call (.Name x p) (e::es) [] pos) (tCB r t):=by
 intro m3 s σ H Q I h;refine dA (R3 I hg hm hv ?_ hn hdb);exact eF (YD (ha pos m3 s σ H _ I h) λus s1 ⟨vs,H1,I1,r1,q1⟩=>hc m3 s1 σ H1 vs us Q I1 r1 q1) he hpl
end
end L2
namespace HT
open PySem PyProof.Rows
section
variable {prog:bC} {w:b6} {A:b5} {E:aE->aI->Prop} {s:aI}
def sIx(n d:Nat):Option Int->Nat
 | none=>d
 | some v=>if v<0 then(v+(n:Int)).toNat else min v.toNat n
theorem sIx_none(n d:Nat):sIx n d none=d:=rfl
theorem sIx_nat(n d k:Nat):sIx n d (aA (k:Int))=min k n:=by show(if(k:Int)<0 then((k:Int)+(n:Int)).toNat else min (k:Int).toNat n)=min k n;rw[ma (by omega),cK]
end
end HT
namespace L2
open PySem PySem.Spec PyProof.Rows
abbrev TO:=St->Hp->(Option Int->Hp->Prop)->Prop
def PO(X:Cx)(e:Option aw)(t:TO):Prop:=
 ∀(m3:List (aH×ck))(s:aI)(σ:St)(H:Hp)(Q:Option Int->Hp->Prop),Inv X m3 σ H s->t σ H Q->
  aZ (model X.prog X.w) X.A (evalPart e X.env) (λu s'=>∃o H',Inv X m3 σ H' s'/\IsPart u o/\Q o H') X.xe s
def Ee:TO:=λ_ H Q=>Q none H
def AI(t:TE):TO:=λσ H Q=>t σ H λx H1=>∃i,x = .int i/\Q (aA i) H1
theorem LM{ns:List Int}:∀{us:List aE},Vals (ns.map V.int) us->kJ us ns:=by
 induction ns with
 | nil=>intro us r;rw[dZ] at r;cases r;exact .nil
 | cons n ns ih=>
  intro us r;rw[aW] at r
  cases r with
  | cons r1 r2=>
   obtain⟨t,e⟩:=r1;subst e;exact .cons n t (ih r2)
section
variable {X:Cx} {e:aw} {te:TE} {lo hi:Option aw} {tl th:TO} {pos p2:dm}
theorem Ef:PO X none Ee:=by intro m3 s σ H Q I h;rw[evalPart_none];exact aa ⟨none,H,I,.none,h⟩
theorem Eg(h:PE X e te):PO X (aA e) (AI te):=by intro m3 s σ H Q I hw;rw[evalPart_some];refine YD (h m3 s σ H _ I hw) λu s1 ⟨x,H1,I1,r1,q1⟩=>?_;obtain⟨i,rfl,q⟩:=q1;obtain⟨t,rfl⟩:=r1;exact⟨aA i,H1,I1,.int i t,q⟩
def SlR(X:Cx)(r:V->Option Int->Option Int->Hp->VK->Prop):Prop:=
 ∀(m3:List (aH×ck))(s:aI)(σ:St)(H:Hp)(x:V)(v vl vu:aE)(lo hi:Option Int)(sl:aH)(Q:VK),Inv X m3 σ H s->RelV x v->s.heap.IsSliceOf sl vl vu .none->IsPart vl lo->IsPart vu hi->r x lo hi H Q->
  ∃T id,la (.type T) "__getitem__" = pure (aA (.builtin id))/\s.TypeIs v T/\aZ (model X.prog X.w) X.A (kK v (.ref sl)) (EP X m3 σ Q) X.xe s
def tSl(r:V->Option Int->Option Int->Hp->VK->Prop)(te:TE)(tl th:TO):TE:=λσ H Q=>te σ H λx H1=>tl σ H1 λl H2=>th σ H2 λu H3=>r x l u H3 Q
theorem Mr{r:V->Option Int->Option Int->Hp->VK->Prop}(hr:SlR X r)(he:PE X e te)(hl:PO X lo tl)(hu:PO X hi th):PE X (.Subscript e (.Slice lo hi none p2) pos) (tSl r te tl th):=by intro m3 s σ H Q I h;refine lb (YD (he m3 s σ H _ I h) λv s1 ⟨x,H1,I1,r1,q1⟩=>?_);refine wpAny_Slice (YD (hl m3 s1 σ H1 _ I1 q1) λvl s2 ⟨l,H2,I2,pl,q2⟩=>YD (hu m3 s2 σ H2 _ I2 q2) λvu s3 ⟨u,H3,I3,pu,q3⟩=>?_);rw[evalPart_none];refine aa ?_;have I4:Inv X m3 σ H3 { s3 with heap:=s3.heap.push { cls:=.type "slice",data:=.fields #[vl,vu,.none] } }:=I3.kept (t':=s3.toks) λb ob q=>aM _ q;obtain⟨T,id,hT,ht,hg⟩:=hr m3 { s3 with heap:=s3.heap.push { cls:=.type "slice",data:=.fields #[vl,vu,.none] } } σ H3 x v vl vu l u s3.heap.objs.size Q I4 r1 (bV.IsSliceOf.new ..) pl pu q3;show aZ (model X.prog X.w) X.A (kX e (.Slice lo hi none p2) v (.ref s3.heap.objs.size)) (EP X m3 σ Q) X.xe { s3 with heap:=s3.heap.push { cls:=.type "slice",data:=.fields #[vl,vu,.none] } };exact tail_any (ops:=[.ref s3.heap.objs.size,v]) ht hT hg (by with_unfolding_all rfl)
def J6(xs:List V)(lo hi:Option Int):List V:=(xs.drop (HT.sIx xs.length 0 lo)).take (HT.sIx xs.length xs.length hi-HT.sIx xs.length 0 lo)
theorem Ms(xs:List V)(lo hi:Option Int):(J6 xs lo hi).length<=xs.length:=by unfold J6;rw[br,dD];omega
end
def KR(n:Nat)(i:Int):Option Nat:=if 0<=i then(if i<n then aA i.toNat else none) else if -(n:Int)<=i then aA (i+n).toNat else none
def Vv{α:Type}(xs:List α)(i:Int):Option α:=(KR xs.length i).bind λj=>xs[j]?
theorem KS{n:Nat}{i:Int}{j:Nat}(h:KR n i=aA j):seqIndex? i n=aA j/\j<n/\-(n:Int)<=i/\i<n:=by
 unfold KR at h;by_cases h0:0<=i
 ·rw[mZ h0] at h;by_cases h1:i<n
  ·rw[mZ h1] at h;have e:i.toNat=j:=bU h;exact⟨by rw[lR h0 h1,e],by omega,by omega,h1⟩
  ·rw[ma h1] at h;cases h
 ·rw[ma h0] at h;by_cases h1 : -(n:Int)<=i
  ·rw[mZ h1] at h;have e:(i+n).toNat=j:=bU h;exact⟨by rw[km (by omega) h1,e],by omega,h1,by omega⟩
  ·rw[ma h1] at h;cases h
theorem ND{α:Type}{xs:List α}{i:Int}{v:α}(h:Vv xs i=aA v):∃j,seqIndex? i xs.length=aA j/\xs[j]?=aA v/\j<xs.length/\-(xs.length:Int)<=i/\i<xs.length:=by
 unfold Vv at h
 cases e:KR xs.length i with
 | none=>rw[e] at h;cases h
 | some j=>
  rw[e] at h;obtain⟨h1,h2,h3,h4⟩:=KS e;exact⟨j,h1,h,h2,h3,h4⟩
theorem Xy{α:Type}{xs:List α}{j:Nat}{v:α}(h:xs[j]?=aA v):Vv xs (j:Int)=aA v:=by
 have hj:j<xs.length:=(aL.mp h).1;have e:KR xs.length (j:Int)=aA j:=by unfold KR;rw[mZ (by omega),mZ (by omega)];simp
 unfold Vv;rw[e];exact h
def NF(b:aw):Prop:=∀o i,subscripted b aB o i=operate [o,i] (kK o i)
def IxR(X:Cx)(r:R2):Prop:=
 ∀(value slice:aw)(m3:List (aH×ck))(s:aI)(σ:St)(H:Hp)(x y:V)(v u:aE)(Q:VK),Inv X m3 σ H s->RelV x v->RelV y u->r x y H Q->
  subscripted slice aB v u=operate [v,u] (kK v u)->aZ (model X.prog X.w) X.A (kX value slice v u) (EP X m3 σ Q) X.xe s
def C5(X:Cx)(id:String)(r:V->List V->Hp->VK->Prop):Prop:=
 ∀(m3:List (aH×ck))(s:aI)(σ:St)(H:Hp)(x:V)(xs:List V)(v:aE)(us:List aE)(Q:VK),Inv X m3 σ H s->RelV x v->Vals xs us->r x xs H Q->
  aZ (model X.prog X.w) X.A (call (.builtin id) (v::us)) (EP X m3 σ Q) X.xe s
section
variable {X:Cx} {a b:aw} {ta tb:TE} {pos:dm}
theorem IxR.or{r r':R2}(h:IxR X r)(h':IxR X r'):IxR X (λx y H Q=>r x y H Q\/r' x y H Q):=by
 intro value slice m3 s σ H x y v u Q I rx ry q hs;rcases q with q | q
 ·exact h value slice m3 s σ H x y v u Q I rx ry q hs
 ·exact h' value slice m3 s σ H x y v u Q I rx ry q hs
theorem Sx{r:R2}(hr:IxR X r)(ha:PE X a ta)(hb:PE X b tb)(hs:NF b):PE X (.Subscript a b pos) (CV r ta tb):=by intro m3 s σ H Q I h;exact lb (CW ha hb I h λv u s2 x y H2 I2 rx ry q=>hr a b m3 s2 σ H2 x y v u Q I2 rx ry q (hs _ _))
def Eh(K:aG):R2:=λx y H Q=>∃p xs i v,x = .ref p/\y = .int i/\SqL K H p xs/\Vv xs i=aA v/\Q v H
def AJ(K:aG):R2:=λx y H Q=>∃p xs i v,x = .ref p/\y = .int i/\SqT K H p xs/\Vv xs i=aA v/\Q v H
def AK:R2:=λx y H Q=>∃z i c,x = .str z/\y = .int i/\z.length<=sizeLine/\Vv z.cps.toList i=aA c/\Q (.str ⟨#[c]⟩) H
theorem ix_list:IxR X (Eh X.K):=by
 intro value slice m3 s σ H x y v u Q I rx ry h hs;obtain⟨p,xs,i,z,rfl,rfl,hq,he,q⟩:=h;cases rx;obtain⟨t,rfl⟩:=ry;obtain⟨mY,r,pl,hz⟩:=I.list hq;obtain⟨j,h1,h2,h3,h4,h5⟩:=ND he;obtain⟨w,ew,rw'⟩:=r.get h2;have hl:=r.length;have hn:=R5;have fin:EP X m3 σ Q w s:=⟨z,H,I,rw',q⟩;by_cases h0:0<=i
 ·have hj:i.toNat=j:=by rw[lR h0 h5] at h1;exact bU h1
  exact item_listR pl.isList h0 (by omega) (by rw[hj];simpa using ew) fin hs
 ·have hj:(i+(mY.toArray.size:Int)).toNat=j:=by rw[km (by omega) h4] at h1;rw[aj,<-hl];exact bU h1
  exact jY (x:=w) pl.isList.typeIs slot_list_getitem.lookup
   (wpAny_getItem_list_neg (Q:=λr s'=>r=w/\EP X m3 σ Q r s') pl.isList (by omega) (by rw[aj]<;>omega) (by omega) (by rw[hj];simpa using ew) ⟨rfl,fin⟩) hs
theorem ix_tup:IxR X (AJ X.K):=by
 intro value slice m3 s σ H x y v u Q I rx ry h hs;obtain⟨p,xs,i,z,rfl,rfl,hq,he,q⟩:=h;cases rx;obtain⟨t,rfl⟩:=ry;obtain⟨mY,r,pl,hz⟩:=I.tuple hq;obtain⟨j,h1,h2,h3,h4,h5⟩:=ND he;obtain⟨w,ew,rw'⟩:=r.get h2;have hl:=r.length;have hn:=R5;have fin:EP X m3 σ Q w s:=⟨z,H,I,rw',q⟩
 exact jY (x:=w) pl.typeIs slot_tuple_getitem.lookup
  (getItem_tuple (j:=j) (Q:=λr s'=>r=w/\EP X m3 σ Q r s') pl (by omega) (by omega) (by rw[aj,<-hl];exact h1) (by simpa using ew) ⟨rfl,fin⟩) hs
theorem C6:IxR X AK:=by
 intro value slice m3 s σ H x y v u Q I rx ry h hs;obtain⟨z,i,c,rfl,rfl,hz,he,q⟩:=h;obtain⟨t,rfl⟩:=rx;obtain⟨t',rfl⟩:=ry;obtain⟨j,h1,h2,h3,h4,h5⟩:=ND he;have hl:z.cps.toList.length=z.length:=by simp[aR.length]
 rw[hl] at h1 h4 h5;have hn:=R5
 exact tail_any (iQ s z t) slot_str_getitem.lookup (getItem_str (c:=c) (by
  have e1:decide (i < -(2^63:Int))=aB:=decide_eq_false (by omega);have e2:decide (i ≥ 2^63)=aB:=decide_eq_false (by omega);rw[e1,e2,Bool.or_false]) (by rw[h1];simpa using h2) ⟨.str ⟨#[c]⟩,H,I.tok _,⟨_,rfl⟩,q⟩) hs
def rIx(K:aG):R2:=λx y H Q=>Eh K x y H Q\/AJ K x y H Q\/AK x y H Q
theorem C7:IxR X (rIx X.K):=ix_list.or (ix_tup.or C6)
theorem LN(mY:List aE)(n j:Nat)(u:aE):jZ (·.setIfInBounds j u) { cls:=.type "list",data:=.seq mY.toArray n }={ cls:=.type "list",data:=.seq (mY.set j u).toArray n }:=by simp[jZ]
theorem Inv.lst{m3:List (aH×ck)}{σ:St}{H:Hp}{s:aI}{p:aH}{xs:List V}(I:Inv X m3 σ H s)(h:H p=aA (.lst xs)) :
  ∃(mY:List aE) (n:Nat),Vals xs mY/\s.heap.get? p=aA { cls:=.type "list",data:=.seq mY.toArray n }/\xs.length<=sizeLine:=by
 obtain⟨z,mY,n,r,e⟩:=I.hok p _ h;exact⟨mY,n,r,e,z⟩
theorem Inv.lstUpd{m3:List (aH×ck)}{σ:St}{H:Hp}{s:aI}{p:aH}{xs ys:List V}{mY its':List aE}{n n':Nat}{f:ck->ck}(I:Inv X m3 σ H s)(h:H p=aA (.lst xs))
  (ho:s.heap.get? p=aA { cls:=.type "list",data:=.seq mY.toArray n }) (hf:f { cls:=.type "list",data:=.seq mY.toArray n }={ cls:=.type "list",data:=.seq its'.toArray n' }) (r:Vals ys its') (hz:ys.length<=sizeLine) (t:Nat) :
  Inv X m3 σ (upd H p (.lst ys)) { s with heap:=s.heap.update p f,toks:=t }:=by
 have e:(s.heap.update p f).get? p=aA { cls:=.type "list",data:=.seq its'.toArray n' }:=by rw[bo f ho (by rw[hf]<;>rfl),hf]
 refine I.write (x:=p) (e:=p) (by rw[h];trivial) (.inl rfl) (λb u hb q=>(bQ _ _ (cJ hb)).trans q) ⟨_,e⟩ ?_;exact⟨hz,its',n',r,e⟩
def DU:V->V->V->Hp->(Hp->Prop)->Prop:=λo i v H Q=>∃p xs k j,o = .ref p/\i = .int k/\H p=aA (.lst xs)/\KR xs.length k=aA j/\Q (upd H p (.lst (xs.set j v)))
theorem W9:Ap X DU:=by
 intro m3 s σ H o i v ov iv u Q I ro ri rv h;obtain⟨p,xs,k,j,rfl,rfl,hp,hj,q⟩:=h;cases ro;obtain⟨t,rfl⟩:=ri;obtain⟨mY,n,r,ho,hz⟩:=I.lst hp;obtain⟨h1,h2,h3,h4⟩:=KS hj;have hl:=r.length;have hn:=R5
 have I':Inv X m3 σ (upd H p (.lst (xs.set j v))) { s with heap:=s.heap.update p (jZ (·.setIfInBounds j u)) }:=
  I.lstUpd hp ho (LN mY n j u) (r.set rv j) (by rw[cz];exact hz) s.toks
 by_cases h0:0<=k
 ·have hk:k.toNat=j:=by rw[lR h0 h4] at h1;exact bU h1
  exact PySem.W.ki_setAt ho h0 (by omega) (by rw[aj,<-hl];exact h4) (by rw[hk];exact⟨_,I',q⟩)
 ·have hk:(k+(mY.toArray.size:Int)).toNat=j:=by rw[km (by omega) h3] at h1;rw[aj,<-hl];exact bU h1
  exact PySem.W.ki_setBack ho (by omega) (by rw[aj,<-hl];exact h3) (by omega) (by rw[hk];exact⟨_,I',q⟩)
theorem NG(lo hi:Option Int)(n:Nat):(gS lo hi none n).1=((HT.sIx n 0 lo:Nat):Int)/\(gS lo hi none n).2.1=((HT.sIx n n hi:Nat):Int)/\(gS lo hi none n).2.2=1:=by
 refine⟨?_,?_,rfl⟩
 ·cases lo with
  | none=>simp[gS,HT.sIx]
  | some i=>
   simp only[gS,HT.sIx,lH,show(1:Int)>0 by decide,if_true];by_cases h:i<0
   ·simp only[h,if_true]<;>omega
   ·simp only[h,if_false]<;>omega
 ·cases hi with
  | none=>simp[gS,HT.sIx]
  | some i=>
   simp only[gS,HT.sIx,lH,show(1:Int)>0 by decide,if_true];by_cases h:i<0
   ·simp only[h,if_true]<;>omega
   ·simp only[h,if_false]<;>omega
theorem OA(mY:List aE)(lo hi:Option Int):slicePick mY.toArray lo hi none=((mY.drop (HT.sIx mY.length 0 lo)).take (HT.sIx mY.length mY.length hi-HT.sIx mY.length 0 lo)).toArray:=by
 obtain⟨h1,h2,h3⟩:=NG lo hi mY.toArray.size;unfold slicePick;rw[h1,h2,h3];simp only[sliceRange_one,pick_run,aj]<;>rfl
def Zbm(K:aG):V->Option Int->Option Int->Hp->VK->Prop:=λx lo hi H Q=>∃a xs,x = .ref a/\SqL K H a xs/\∀p,H p=none->Q (.ref p) (upd H p (.lst (J6 xs lo hi)))
theorem Ei:SlR X (Zbm X.K):=by intro m3 s σ H x v vl vu lo hi sl Q I rx hs pl pu h;obtain⟨a,xs,rfl,hx,q⟩:=h;cases rx;obtain⟨mY,r,ht,hz⟩:=I.list hx;have hlen:=r.length;refine⟨"list",_,slot_list_getitem.lookup,ht.isList.typeIs,?_⟩;refine wpAny_getItem_list_slice ht.isList hs pl pu .none (by simp) ?_ (by rw[aj]<;>omega);rw[OA,<-hlen];refine⟨.ref s.heap.objs.size,_,I.laid (t':=s.toks) (o:=.lst (J6 xs lo hi)) (λb ob q=>aM _ q) (ar _) ?_,rfl,q _ (I.hok.fresh (ar _))⟩;exact⟨bu (Ms xs lo hi) hz,_,0,(r.drop (HT.sIx xs.length 0 lo)).take (HT.sIx xs.length xs.length hi-HT.sIx xs.length 0 lo),bD _ rfl⟩
theorem YV:W8 X (.type "tuple") (λxs H Q=>∃p ys,xs=[.ref p]/\((SqL X.K H p ys/\∀l,H l=none->Q (.ref l) (upd H l (.tup ys)))\/(SqT X.K H p ys/\Q (.ref p) H))):=by
 intro m3 s σ H xs us Q I r h;obtain⟨p,ys,rfl,h⟩:=h;obtain⟨u,rfl,rx⟩:=VP r;cases rx;rcases h with⟨hq,q⟩ | ⟨hq,q⟩
 ·obtain⟨mY,r',pl,hz⟩:=I.list hq;have hlen:=r'.length;refine call_tuple_list pl.isList (λh' kp=>?_) (by simp only[aj]<;>omega);have I1:Inv X m3 σ H { s with heap:=h' }:=I.kept (t':=s.toks) kp
  have I2:Inv X m3 σ (upd H h'.objs.size (.tup ys)) { s with heap:=h'.push { cls:=.type "tuple",data:=.seq mY.toArray } }:=
   I1.laid (t':=s.toks) (λb o e=>aM _ e) (ar _) (show ObjOk X.prog X.w _ _ _ (.tup ys) from⟨hz,mY,r',IsTup.new _ _⟩)
  exact⟨.ref h'.objs.size,_,I2,rfl,q _ (I1.hok.fresh (ar _))⟩
 ·obtain⟨mY,r',pl,hz⟩:=I.tuple hq;exact call_tuple_same pl ⟨.ref p,H,I,rfl,q⟩
def tyV(K:aG)(T:String)(x:V)(H:Hp):Prop:=match x with
 | .str _=>T = "str"
 | .int _=>T = "int"
 | .ref p=>(T = "list"/\∃xs,SqL K H p xs)\/(T = "tuple"/\∃o,K.lookup p=aA o/\o.cls = .type "tuple"/\o.dict=none)\/
   (T = "dict"/\((∃m4,H p=aA (.dK m4))\/∃m4,H p=aA (.dT m4)))\/(T = "set"/\∃S n,H p=aA (.set S n))
 | _=>False
theorem C8{m3:List (aH×ck)}{σ:St}{H:Hp}{s:aI}{T:String}{x:V}{v:aE}(I:Inv X m3 σ H s)(r:RelV x v)(ty:tyV X.K T x H) :
  s.TypeIs v T/\∀a,v = .ref a->∃ob,s.heap.get? a=aA ob/\ob.dict=none:=by
 cases x with
 | str z=>
  obtain⟨t,rfl⟩:=r;cases (show T = "str" from ty);exact⟨iQ s z t,λ_ e=>nomatch e⟩
 | int i=>
  obtain⟨t,rfl⟩:=r;cases (show T = "int" from ty);exact⟨lg s i t,λ_ e=>nomatch e⟩
 | ref p=>
  cases r;rcases ty with⟨rfl,xs,hq⟩ | ⟨rfl,o,hk,hc,hd⟩ | ⟨rfl,hk⟩ | ⟨rfl,S,n,hk⟩
  ·obtain⟨mY,_,pl,_⟩:=I.list hq;refine⟨pl.isList.typeIs,λa e=>?_⟩;cases e;obtain⟨o,n,e,c,hd,_⟩:=pl;exact⟨o,e,hd⟩
  ·refine⟨⟨o,I.kIn p o hk,hc⟩,λa e=>?_⟩;cases e;exact⟨o,I.kIn _ o hk,hd⟩
  ·have z:∃o,s.heap.get? p=aA o/\o.ExactDict:=by
    rcases hk with⟨m4,hk⟩ | ⟨m4,hk⟩
    ·obtain⟨_,_,_,_,o,_,_,e,ex,_⟩:=I.hok p _ hk;exact⟨o,e,ex⟩
    ·obtain⟨_,_,_,_,o,_,_,e,ex,_⟩:=I.hok p _ hk;exact⟨o,e,ex⟩
   obtain⟨o,e,ex⟩:=z;refine⟨⟨o,e,ex.1⟩,λa e2=>?_⟩;cases e2;exact⟨o,e,ex.2.1⟩
  ·obtain⟨o,_,_,_,e,ex,_⟩:=I.hok p _ hk;refine⟨⟨o,e,ex.1⟩,λa e2=>?_⟩;cases e2;exact⟨o,e,ex.2.1⟩
 | _=>exact b9 ty
def tBM(K:aG)(T:String)(r:V->List V->Hp->VK->Prop)(to:TE)(t:TA):TE:=λσ H Q=>to σ H λx H1=>tyV K T x H1/\t σ H1 λxs H2=>r x xs H2 Q
variable {o e:aw} {es:List aw} {to:TE} {t:TA} {name:aR} {apos m7:dm} {T id:String} {r:V->List V->Hp->VK->Prop}
theorem Tr(pa:PlainAttrs T)(slot:Slot T name id)(hty:typeOf (.builtin id)=pure (.type "method_descriptor"))(hm:C5 X id r)(ho:PE X o to)(ha:PA X (e::es) t)
  (hbase:fP o name X.env (eval o X.env)=eval o X.env:=by rfl)
  (hfew:((cL m7 (aO (e::es) X.env)).all (λx=>!x.1)&&(jy m7 (gm [] X.env)).all (λx=>x.1.isSome)
   &&decide ((e::es).length+([]:List iH).length+(if([]:List iH).isEmpty then 0 else 1)<30))=aC:=by rfl)
  (hline:(apos.endLine==m7.line)=aC:=by rfl) (hs:aO (e::es) X.env=(aB,eval e X.env)::aO es X.env:=by rfl) (hplain:(cL m7 (aO es X.env)).any (·.1)=aB:=by rfl) :
  PE X (.Call (.Attribute o name apos) (e::es) [] m7) (tBM X.K T r to t):=by
 intro m3 s σ H Q I h;refine wpAny_Call_method_late hbase hfew hline rfl (YD (ho m3 s σ H _ I h) λv s1 ⟨x,H1,I1,r1,ty,q1⟩=>?_);obtain⟨h1,h2⟩:=C8 I1 r1 ty;refine⟨T,id,pa,slot,hty,h1,h2,?_⟩;have hA:=ha m7 m3 s1 σ H1 _ I1 q1;rw[hs] at hA ⊢;refine j4 (by show(aB || (cL m7 (aO es X.env)).any (·.1))=aB;rw[hplain]<;>rfl) (gA ?_);exact YD hA λus s2 ⟨vs,H2,I2,r2,q2⟩=>hm m3 s2 σ H2 x vs v us Q I2 r1 r2 q2
end
def MtM(X:Cx)(id:String)(r:V->List V->Hp->VK->Prop):Prop:=
 ∀(m3:List (aH×ck))(s:aI)(σ:St)(H:Hp)(x:V)(xs:List V)(v:aE)(us:List aE)(Q:VK),Inv X m3 σ H s->RelV x v->Vals xs us->r x xs H Q->
  aZ (model X.prog X.w) X.A (call (.builtin id) (v::us)) (EP X m3 σ Q) X.xe s
theorem Vals.one:∀{x:V}{us:List aE},Vals [x] us->∃u,us=[u]/\RelV x u
 | _,_,.cons r .nil=>⟨_,rfl,r⟩
theorem Vals.two:∀{x y:V}{us:List aE},Vals [x,y] us->∃u v,us=[u,v]/\RelV x u/\RelV y v
 | _,_,_,.cons r (.cons q .nil)=>⟨_,_,rfl,r,q⟩
theorem Vals.dropLast{xs:List V}{us:List aE}(h:Vals xs us):Vals xs.dropLast us.dropLast:=by
 induction h with
 | nil=>exact .nil
 | cons r t ih=>
  cases t with
  | nil=>exact .nil
  | cons q t'=>exact .cons r ih
theorem Vals.rep{xs:List V}{us:List aE}(h:Vals xs us):∀k:Nat,Vals (aJ k xs).flatten (aJ k us).flatten
 | 0=>.nil
 | k+1=>by rw[cC,cC,dJ,dJ];exact Vals.append h (Vals.rep h k)
theorem OS(mY:List aE):∀(k:Nat)(acc:List aE),
  k7 (λx1 x2=>x1++x2) acc.toArray (aJ k mY.toArray)=(acc++(aJ k mY).flatten).toArray
 | 0,acc=>by simp
 | k+1,acc=>by
  have e:acc.toArray++mY.toArray=(acc++mY).toArray:=by simp
  have e2:(acc++mY)++(aJ k mY).flatten=acc++(aJ (k+1) mY).flatten:=by rw[cC,dJ,dM]
  rw[<-e2,<-OS mY k (acc++mY),<-e,cC,jd]
section
variable {X:Cx} {m3:List (aH×ck)} {σ:St} {H:Hp} {s:aI} {l b:aH} {xs ys zs:List V}
theorem Inv.lset{mY its':List aE}{n:Nat}{f:Array aE->Array aE}{t':Nat}(I:Inv X m3 σ H s)(hH:H l=aA (.lst xs))
  (e:s.heap.get? l=aA { cls:=.type "list",data:=.seq mY.toArray n }) (hf:f mY.toArray=its'.toArray) (hv:Vals ys its') (hz:ys.length<=sizeLine) :
  Inv X m3 σ (upd H l (.lst ys)) { s with heap:=s.heap.update l (jZ f),toks:=t' }:=by
 have q:=PySem.IsL.update e f;rw[hf] at q;refine I.write (x:=l) (e:=l) (by rw[hH];exact trivial) (.inl rfl) (λb' u hb hu=>(bQ s.heap (jZ f) (cJ hb)).trans hu) ⟨_,q⟩ ?_;exact⟨hz,its',_,hv,q⟩
theorem Inv.lnew{mY:List aE}{t':Nat}(I:Inv X m3 σ H s)(hv:Vals ys mY)(hz:ys.length<=sizeLine) :
  Inv X m3 σ (upd H s.heap.objs.size (.lst ys)) { s with heap:=s.heap.push { cls:=.type "list",data:=.seq mY.toArray },toks:=t' }:=
 I.laid (λ_ _ q=>aM _ q) (ar _) ⟨hz,mY,0,hv,bD _ rfl⟩
theorem Inv.fresh(I:Inv X m3 σ H s):H s.heap.objs.size=none:=I.hok.fresh (ar _)
theorem Inv.lstM(I:Inv X m3 σ H s)(hH:H l=aA (.lst xs)):xs.length<=sizeLine/\∃(mY:List aE) (n:Nat),Vals xs mY/\xs.length=mY.length/\s.heap.get? l=aA { cls:=.type "list",data:=.seq mY.toArray n }:=by obtain⟨z,mY,n,r,e⟩:=I.hok l _ hH;exact⟨z,mY,n,r,r.length,e⟩
theorem Mt{n:Nat}(h:n<=sizeLine):ei n=aB:=by unfold ei;exact decide_eq_false (by omega)
end
section
variable {X:Cx}
def KU:V->List V->Hp->VK->Prop:=λx vs H Q=>∃l xs y,x = .ref l/\vs=[y]/\H l=aA (.lst xs)/\xs.length<sizeLine/\Q .non (upd H l (.lst (xs++[y])))
theorem UD:MtM X "list.append" KU:=by intro m3 s σ H x vs v us Q I rx rv h;obtain⟨l,xs,y,rfl,rfl,hH,hz,q⟩:=h;cases rx;obtain⟨u,rfl,ru⟩:=rv.one;obtain⟨z,mY,n,r,hl,e⟩:=I.lstM hH;refine fH F.slot_list_append ⟨_,e,rfl⟩ F.entry_list_append (F.args_list_append_2 _ _) (PySem.list_append l mY.toArray n u (by rw[aj];omega)) ⟨e,?_⟩;refine⟨.non,_,I.lset (its':=mY++[u]) hH e (by simp) (r.append (.cons ru .nil)) ?_,rfl,q⟩;rw[aq,gh];omega
def KW:V->List V->Hp->VK->Prop:=λx vs H Q=>∃l b xs zs,x = .ref l/\vs=[.ref b]/\H l=aA (.lst xs)/\H b=aA (.lst zs)/\xs.length+zs.length<=sizeLine/\Q .non (upd H l (.lst (xs++zs)))
theorem J7:MtM X "list.extend" KW:=by
 intro m3 s σ H x vs v us Q I rx rv h;obtain⟨l,b,xs,zs,rfl,rfl,hH,hB,hz,q⟩:=h;cases rx;obtain⟨u,rfl,ru⟩:=rv.one;cases ru;obtain⟨z,mY,n,r,hl,e⟩:=I.lstM hH;obtain⟨z2,its2,n2,r2,hl2,e2⟩:=I.lstM hB;have hsz:mY.toArray.size+its2.toArray.size<=sizeLine:=by rw[aj,aj];omega
 have hlong:¬(!mY.toArray.isEmpty&&ei (mY.toArray.size+its2.toArray.size))=aC:=by rw[Mt hsz,Bool.and_false];exact a0
 refine fH F.slot_list_extend ⟨_,e,rfl⟩ F.entry_list_extend (F.args_list_extend_2 _ _)
  (AutoSeq1.list_extend_list_list_0 l mY.toArray n b its2.toArray n2 hlong (by rw[aj];omega) (by omega)) ⟨e,e2,?_⟩
 refine⟨.non,_,I.lset (its':=mY++its2) hH e (by simp) (r.append r2) ?_,rfl,q⟩;rw[aq];omega
def Zbp:R2:=λx y H Q=>∃l b xs zs,x = .ref l/\y = .ref b/\H l=aA (.lst xs)/\H b=aA (.lst zs)/\xs.length+zs.length<=sizeLine/\∀p,H p=none->Q (.ref p) (upd H p (.lst (xs++zs)))
theorem C9:UA X (gW .Add) Zbp:=by
 intro m3 s σ H x y v u Q I rx ry h;obtain⟨l,b,xs,zs,rfl,rfl,hH,hB,hz,q⟩:=h;cases rx;cases ry;obtain⟨z,mY,n,r,hl,e⟩:=I.lstM hH;obtain⟨z2,its2,n2,r2,hl2,e2⟩:=I.lstM hB;refine PySem.P.add_list e e2 ?_ (by rw[aj,aj];omega);have ea:mY.toArray++its2.toArray=(mY++its2).toArray:=by simp
 rw[ea];exact⟨.ref _,_,I.lnew (t':=s.toks) (r.append r2) (by rw[aq];omega),rfl,q _ I.fresh⟩
def Zbq:R2:=λx y H Q=>∃l k xs,x = .ref l/\y = .int k/\H l=aA (.lst xs)/\-(2^63)<=k/\k<2^63/\xs.length*k.toNat<=sizeLine/\
 ∀p,H p=none->Q (.ref p) (upd H p (.lst (aJ k.toNat xs).flatten))
theorem Ej{α:Type}(xs:List α)(k:Nat):(aJ k xs).flatten.length=k*xs.length:=by
 induction k with
 | zero=>simp
 | succ k ih=>rw[cC,dJ,aq,ih,Nat.succ_mul,Nat.add_comm]
theorem Ba:UA X (gW .Mult) Zbq:=by
 intro m3 s σ H x y v u Q I rx ry h;obtain⟨l,k,xs,rfl,rfl,hH,h1,h2,hz,q⟩:=h;cases rx;obtain⟨t,rfl⟩:=ry;obtain⟨z,mY,n,r,hl,e⟩:=I.lstM hH;have hlen:mY.toArray.size*k.toNat<=sizeLine:=by rw[aj,<-hl];exact hz
 have hcap:¬mY.toArray.size*k.toNat>(2^63-1)/8:=by
  have:(sizeLine:Nat)<=(2^63-1)/8:=by decide
  omega
 have hfit:¬(!Builtin.List.listFitsIndex k)=aC:=by rw[fitsIndex_both h1 h2];exact a0
 have hlong:¬ei (mY.toArray.size*k.toNat)=aC:=by rw[Mt hlen];exact a0
 have hnew:k7 (λx1 x2=>x1++x2) #[] (aJ (if mY.toArray.isEmpty=aC then 0 else k.toNat) mY.toArray)=(aJ k.toNat mY).flatten.toArray:=by
  have f0:∀m:Nat,k7 (λx1 x2=>x1++x2) #[] (aJ m mY.toArray)=(aJ m mY).flatten.toArray:=λm=>by have:=OS mY m [];rw[gO] at this;exact this
  rw[f0]
  cases mY with
  | nil=>simp
  | cons a r'=>rw[ma (by simp)]
 refine wpAny_binaryOp_repeat_ref (T:="list") (U:="int") (by decide) ⟨_,e,rfl⟩ (λs'=>lg s' k t) noFill_list_mul F.fills_int_mul F.slot_int_rmul repeat_list F.slot_int_index.lookup
  (fH F.slot_int_rmul (lg s k t) F.entry_int_rmul (F.args_int_rmul_2 _ _) (int___rmul___int_list k t l mY.toArray n)
   ⟨e,rfl,⟨_,e,rfl⟩,fH F.slot_list_mul ⟨_,e,rfl⟩ F.entry_list_mul (F.args_list_mul_2 _ _) (AutoListH.list___mul___list_int_3 l mY.toArray n k t hfit hcap hlong) ⟨e,?_⟩⟩)
 rw[hnew];exact⟨.ref _,_,I.lnew (t':=s.toks) (r.rep k.toNat) (by rw[Ej,Nat.mul_comm];exact hz),rfl,q _ I.fresh⟩
end
end L2
namespace Att
open PySem PySem.W PySem.Calls PyProof.Rows
theorem QM{P:Params}{h:bV}:∀(ns:List Int)(vs:List aE),WellAll P h vs (ns.map WData.int)->kJ vs ns:=by
 intro ns
 induction ns with
 | nil=>
  intro vs w;rw[dZ] at w;cases w;exact .nil
 | cons n ns ih=>
  intro vs w;rw[aW] at w
  cases w with
  | cons a b=>
   cases a;exact .cons _ _ (ih _ b)
theorem J8{l:OpenLaw}{n:Nat}(hn:l.most=aA n){P:Params}{h:bV}{args:List WData}{vals:List aE}
  (hpre:l.row.toRowW.claim.pre args=aC) (hwl:WellAll P h vals args) :
  ∃a vs ns,vals=[bF a]/\args=[WData.list (ns.map WData.int)]/\h.get? a=aA { cls:=.type "list",data:=.seq vs.toArray }/\kJ vs ns/\ns.length<=n:=by
 have hsh:WShape.hasAll [] args [.list .int]=aC:=(pre_splitW hpre).1;have hc:l.pre.holds [] { args:=args }=aC:=(pre_splitW hpre).2;obtain⟨d,r,rfl,h1,h2⟩:=hasAllW_cons hsh;obtain rfl:=hasAllW_nil h2;obtain⟨xs,rfl,h3⟩:=hasW_list h1;obtain⟨ns,rfl⟩:=items_int h3
 have hlen:ns.length<=n:=by
  unfold OpenLaw.pre at hc;have h4:(WTm.not (.lt (.lit (.int (n:Int))) (.len (.arg 0)))).holds [] { args:=[.list (ns.map .int)] }=aC:=by have h4:=(holds_andW hc).1;rw[hn] at h4;exact h4
  have h5:=condW_of h4 (w_not (w_lt w_lit (w_len_list (w_arg rfl))));rw[aN] at h5;refine Nat.le_of_not_lt λq=>?_;have q':(n:Int)<((ns.length:Nat):Int):=by omega
  first
   | (rw[decide_eq_true q'] at h5;exact absurd h5 (by decide))
   | (simp at h5;omega)
 cases hwl with
 | cons w1 w2=>
  cases w2
  cases w1 with
  | list ho hall=>exact⟨_,_,ns,rfl,rfl,ho,QM ns _ hall,hlen⟩
theorem J9(l:OpenLaw)(args:List WData):l.row.toRowW.claim.post args (.bool aC) args=aC:=
 postW_of (r:=l.row.toRowW) (X:=(aC==aC))
  (show WShape.has [] (.bool aC) .bool=aC by first | rfl | decide | simp[WShape.has,WShape.arms,WShape.armsAll])
  (show(WTm.eq .res (.lit (.bool aC))).value [] { args:=args,res:=aA (.bool aC),after:=args }=aA (.bool (aC==aC)) from w_eq_bool (w_res rfl) w_lit) rfl
theorem attach_call{l:OpenLaw}{n:Nat}{q:bC}{loose:List aR}{XP:(aR->Option aE)->bV->Prop}{YP:b6->bV->Prop}{d:DefRec}
  (hn:l.most=aA n) (hdf:d.params.defaults=[])
  (call:∀(w:b6)(s₀ s₁:aI)(mg mb:aR->Option aE)(fa:aH)(o:ck)(pm cd doc:aE)(a:aH)(vs:List aE)(ns:List Int),
   Ground q loose [] XP w s₀ mg mb s₁.heap->YP w s₁.heap->
   s₁.heap.get? fa=aA o->o.data = .func (docDef d.name d.params d.body d.scope pm cd doc)->s₁.heap.CodeRec cd d.name->mg d.name=aA (.ref fa)->
   s₁.heap.get? a=aA { cls:=.type "list",data:=.seq vs.toArray }->kJ vs ns->ns.length<=n->s₁.gens = #[]->
   gF (model l.prog w) j6 (.call (.ref fa) ⟨[.ref a],[]⟩) (λr s'=>r = .ok (.ret (.bool aC))/\OldK s₁.heap s'.heap/\s'.os=s₁.os/\iG s'.gens) s₁) :
  WalkO q loose XP YP l.row.toRowW d [] (λf vs=>lh f vs):=by
 intro w s₀ s₁ mg mb G Y fa o pm cd doc dV kV ho hd hcd hD hmg hg args vals as hpre hlay hrd hwl hlo;obtain rfl:dV = .none:=Dflts.none hD hdf;obtain rfl:kV = .none:=Dflts.noKw hD;obtain⟨a,vs,ns,rfl,rfl,hobj,hints,hlen⟩:=J8 hn hpre hwl;refine enter_call (eX (call w s₀ s₁ mg mb fa o pm cd doc a vs ns G Y ho (fd_plain hd) hcd hmg hobj hints hlen hg) λr s' hq=>?_);obtain⟨rfl,h2,h3,h4⟩:=hq;exact⟨.inl ⟨.bool aC,.bool aC,[],rfl,λ_=>rfl,.bool aC,J9 l _,λ_=>⟨List.Pairwise.nil,λ_ hm=>(nomatch hm)⟩⟩,h2,h3,h4⟩
end Att
namespace L2
open PySem PySem.Spec PyProof.Rows
section
variable {κ:Type} [DecidableEq κ]
def Ts(m4:List (κ×V))(k:κ):Option V:=(m4.find? λkv=>decide (kv.1=k)).map (·.2)
def UE(m4:List (κ×V))(k:κ)(v:V):List (κ×V):=
 if(m4.any λkv=>decide (kv.1=k))=aC then m4.map (λkv=>if kv.1=k then(kv.1,v) else kv) else m4++[(k,v)]
theorem Rc{p:κ×V}{r:List (κ×V)}{k:κ}(e:p.1=k):Ts (p::r) k=aA p.2:=by simp[Ts,dW,e]
theorem Rf{p:κ×V}{r:List (κ×V)}{k:κ}(e:¬p.1=k):Ts (p::r) k=Ts r k:=by simp[Ts,dW,e]
theorem Pg(k:κ):∀m4:List (κ×V),(m4.any λkv=>decide (kv.1=k))=(Ts m4 k).isSome
 | []=>rfl
 | p::r=>by
  rw[kY];by_cases e:p.1=k
  ·simp only[Rc e,decide_eq_true e,Bool.true_or,Option.isSome_some]
  ·rw[Rf e,decide_eq_false e,gj];exact Pg k r
theorem QC(m4:List (κ×V))(k:κ)(v:V):(UE m4 k v).length<=m4.length+1:=by
 unfold UE;split
 ·rw[aN];omega
 ·rw[aq,bK,fK];omega
theorem HN{m4:List (κ×V)}{k:κ}(v:V)(h:Ts m4 k=none):UE m4 k v=m4++[(k,v)]:=by unfold UE;rw[Pg,h];exact ma (by decide)
theorem RelO.isSome_eq{o:Option V}{u:Option aE}(r:RelO o u):o.isSome=u.isSome:=by
 cases o with
 | none=>cases u with
  | none=>rfl
  | some _=>exact(show False from r).elim
 | some _=>cases u with
  | none=>exact(show False from r).elim
  | some _=>rfl
theorem KV.val{m4:List (κ×V)}{vs:List (κ×aE)}(r:KV m4 vs)(k:κ):RelO (Ts m4 k) (kL vs k):=by
 unfold KV at r
 induction r with
 | nil=>exact cU
 | @cons p q ps qs h t ih=>
  obtain⟨h1,h2⟩:=h;by_cases e:p.1=k
  ·have e':q.1=k:=h1.symm.trans e;have b:kL (q::qs) k=aA q.2:=by simp[kL,dW,e']
   rw[Rc e,b];exact h2
  ·have e':¬q.1=k:=λz=>e (h1.trans z);have b:kL (q::qs) k=kL qs k:=by simp[kL,dW,e']
   rw[Rf e,b];exact ih
theorem KV.any{m4:List (κ×V)}{vs:List (κ×aE)}(r:KV m4 vs)(k:κ):(m4.any λkv=>decide (kv.1=k))=vs.any λkv=>decide (kv.1=k):=by
 unfold KV at r
 induction r with
 | nil=>rfl
 | cons h t ih=>rw[kY,kY,ih,h.1]
theorem KV.repl{m4:List (κ×V)}{vs:List (κ×aE)}(r:KV m4 vs)(k:κ){y:V}{u:aE}(ry:RelV y u) :
  KV (m4.map λkv=>if kv.1=k then(kv.1,y) else kv) (vs.map λkv=>if kv.1=k then(kv.1,u) else kv):=by
 unfold KV at r ⊢
 induction r with
 | nil=>exact .nil
 | @cons p q ps qs h t ih=>
  rw[aW,aW];refine .cons ?_ ih;obtain⟨h1,h2⟩:=h;by_cases e:p.1=k
  ·rw[mZ e,mZ (h1.symm.trans e)];exact⟨h1,ry⟩
  ·rw[ma e,ma (λz=>e (h1.trans z))];exact⟨h1,h2⟩
theorem KV.put{m4:List (κ×V)}{vs:List (κ×aE)}(r:KV m4 vs)(k:κ){y:V}{u:aE}(ry:RelV y u):KV (UE m4 k y) (stored vs k u):=by
 unfold UE stored;rw[r.any k];by_cases e:(vs.any λkv=>decide (kv.1=k))=aC
 ·rw[mZ e,mZ e];exact r.repl k ry
 ·rw[ma e,ma e];exact Paired.snoc r ⟨rfl,ry⟩
theorem KV.length{m4:List (κ×V)}{vs:List (κ×aE)}(r:KV m4 vs):m4.length=vs.length:=Paired.length r
end
theorem Mu{P:bC}{w:b6}{k:Xp}{u:aE}(r:RelV (kV k) u):(Xr P w).is k u=aC:=by
 cases k with
 | inl i=>obtain⟨t,e⟩:=(show ∃t,u=jG i t from r);subst e;exact Mj P w i t
 | inr x=>obtain⟨t,e⟩:=(show ∃t,u=jH x t from r);subst e;exact Mk P w x t
theorem OT{P:bC}{w:b6}:∀{ks:List Xp}{us:List aE},Vals (ks.map kV) us->ItemsAre (Xr P w) ks us
 | [],_,r=>by rw[dZ] at r;cases r;exact .nil
 | k::ks,_,r=>by
  rw[aW] at r
  cases r with
  | cons h t=>exact .cons (Mu h) (OT t)
abbrev KT(H:Hp):List (List Xp×V)->List (List Xp×aH×aE)->Prop:=Paired λp q=>p.1=q.1/\H q.2.1=aA (.tup (p.1.map kV))/\RelV p.2 q.2.2
theorem KT.val{H:Hp}{m4:List (List Xp×V)}{xs:List (List Xp×aH×aE)}(r:KT H m4 xs)(k:List Xp):RelO (Ts m4 k) ((lS xs k).map (·.2)):=by
 induction r with
 | nil=>exact cU
 | @cons p q ps qs h t ih=>
  obtain⟨h1,_,h2⟩:=h;by_cases e:p.1=k
  ·have e':q.1=k:=h1.symm.trans e;have b:lS (q::qs) k=aA q.2:=by simp[lS,dW,e']
   rw[Rc e,b];exact h2
  ·have e':¬q.1=k:=λz=>e (h1.trans z);have b:lS (q::qs) k=lS qs k:=by simp[lS,dW,e']
   rw[Rf e,b];exact ih
theorem KT.repl{H:Hp}{m4:List (List Xp×V)}{xs:List (List Xp×aH×aE)}(r:KT H m4 xs)(k:List Xp){y:V}{u:aE}(ry:RelV y u) :
  KT H (m4.map λkv=>if kv.1=k then(kv.1,y) else kv) (xs.map (putAt k u)):=by
 induction r with
 | nil=>exact .nil
 | @cons p q ps qs h t ih=>
  rw[aW,aW];refine .cons ?_ ih;obtain⟨h1,h2,h3⟩:=h;unfold putAt;by_cases e:p.1=k
  ·rw[mZ e,mZ (h1.symm.trans e)];exact⟨h1,h2,ry⟩
  ·rw[ma e,ma (λz=>e (h1.trans z))];exact⟨h1,h2,h3⟩
theorem KT.put{H:Hp}{m4:List (List Xp×V)}{xs:List (List Xp×aH×aE)}(r:KT H m4 xs)(k:List Xp){b:aH}{y:V}{u:aE}(hb:H b=aA (.tup (k.map kV)))(ry:RelV y u) :
  KT H (UE m4 k y) (storedH xs k b u):=by
 have e:(m4.any λkv=>decide (kv.1=k))=(lS xs k).isSome:=by rw[Pg,(r.val k).isSome_eq,ic]
 unfold UE storedH;rw[e];by_cases q:(lS xs k).isSome=aC
 ·rw[mZ q,mZ q];exact r.repl k ry
 ·rw[ma q,ma q];exact Paired.snoc r ⟨rfl,hb,ry⟩
theorem KT.keeps{H H':Hp}{m4:List (List Xp×V)}{xs:List (List Xp×aH×aE)}(r:KT H m4 xs)(ht:∀b ys,H b=aA (.tup ys)->H' b=aA (.tup ys)):KT H' m4 xs:=
 Paired.mapP r λ_ _ z=>⟨z.1,ht _ _ z.2.1,z.2.2⟩
section
variable {P:bC} {w:b6} {H:Hp} {h:bV} {a:aH}
theorem DV{u:HO}(ok:HOk P w H h)(e:Rd H a u):ObjOk P w H h a u:=e.ok ok
theorem Mv{m4:List (Xp×V)}(ok:HOk P w H h)(e:Rd H a (.dK m4)):m4.length<=sizeLine/\(a==eh)=aB/\∃vs,KV m4 vs/\h.DictOf (Xr P w) a vs:=
 show ObjOk P w H h a (.dK m4) from DV ok e
theorem AL{m4:List (Xp×V)}(ok:HOk P w H h)(e:H a=aA (.dK m4)):m4.length<=sizeLine/\(a==eh)=aB/\∃vs,KV m4 vs/\h.DictOf (Xr P w) a vs:=Mv ok (.inl e)
theorem Ph{ks:List Xp}(ok:HOk P w H h)(e:H a=aA (.tup (ks.map kV))):(jI (Xr P w)).is h ks a:=by obtain⟨_,mY,r,o,h1,h2,n,h3⟩:=(show ObjOk P w H h a (.tup (ks.map kV)) from ok a _ e);exact⟨o,mY.toArray,n,h1,h2,h3,by simpa using OT r⟩
theorem Mw{m4:List (List Xp×V)}(ok:HOk P w H h)(e:Rd H a (.dT m4)):m4.length<=sizeLine/\(a==eh)=aB/\
  ∃xs,KT H m4 xs/\h.DictOfH (jI (Xr P w)) a xs:=by
 obtain⟨z,y,xs,r,o,es,ep,h1,h2,h3,h4,h5⟩:=(show ObjOk P w H h a (.dT m4) from DV ok e);refine⟨z,y,xs,r,o,es,ep,h1,h2,h3,h4,λx hx=>?_,h5⟩
 have all:∀{l:List (List Xp×V)}{m:List (List Xp×aH×aE)},KT H l m->∀x∈m,(jI (Xr P w)).is h x.1 x.2.1:=by
  intro l m q
  induction q with
  | nil=>intro x hx;exact nomatch hx
  | @cons p q ps qs hq t ih=>
   intro x hx;rcases aV.mp hx with e | hx
   ·subst e;exact Ph ok (by rw[<-hq.1];exact hq.2.1)
   ·exact ih x hx
 exact all r x hx
theorem AM{m4:List (List Xp×V)}(ok:HOk P w H h)(e:H a=aA (.dT m4)):m4.length<=sizeLine/\(a==eh)=aB/\
  ∃xs,KT H m4 xs/\h.DictOfH (jI (Xr P w)) a xs:=Mw ok (.inl e)
end
def Mx(H:Hp)(a:aH)(y:V)(r:Option V):Prop:=
 (∃m4 k,Rd H a (.dK m4)/\y=kV k/\r=Ts m4 k)\/∃m4 k b,Rd H a (.dT m4)/\y = .ref b/\H b=aA (.tup (k.map kV))/\r=Ts m4 k
def AN(H:Hp)(a:aH)(y v:V)(H':Hp):Prop:=
 (∃m4 k,H a=aA (.dK m4)/\y=kV k/\m4.length<sizeLine/\H'=upd H a (.dK (UE m4 k v)))\/
 ∃m4 k b,H a=aA (.dT m4)/\y = .ref b/\H b=aA (.tup (k.map kV))/\m4.length<sizeLine/\H'=upd H a (.dT (UE m4 k v))
section
variable {X:Cx} {m3:List (aH×ck)} {σ:St} {H:Hp} {s:aI} {a:aH} {y v:V} {u r:aE} {o:Option V} {A:b5} {E:aE->aI->Prop}
theorem Inv.big(I:Inv X m3 σ H s):eh<s.heap.objs.size:=by have h:ao<s.heap.objs.size:=(I.mod.glob.keeps I.bk).lt;exact Nat.lt_trans (by decide) h
theorem Ia{Q:aE->aI->Prop}(hu:A.units+1<eJ)(I:Inv X m3 σ H s)(g:Mx H a y (aA v))(ry:RelV y u)(h:∀w' s',Inv X m3 σ H s'->RelV v w'->Q w' s') :
  aZ (model X.prog X.w) A (kK (.ref a) u) Q E s:=by
 rcases g with⟨m4,k,e,ey,l⟩ | ⟨m4,k,b,e,ey,eb,l⟩
 ·subst ey;obtain⟨z,hd,vs,rel,dd⟩:=Mv I.hok e;obtain⟨w',hw,rw'⟩:=RelO.some_of (v:=v) (o:=kL vs k) (by rw[l];exact rel.val k);exact wpAny_getItem_of (Mu ry) dd.mapOf hw (h w' _ (I.tok _) rw')
 ·subst ey;cases (show u=bF b from ry);obtain⟨z,hd,xs,rel,dd⟩:=Mw I.hok e;obtain⟨w',hw,rw'⟩:=RelO.some_of (v:=v) (o:=(lS xs k).map (·.2)) (by rw[l];exact rel.val k);obtain⟨p,hp,hp2⟩:=eG.mp hw;refine wpAny_getItem_heap (gQ hu) (Ph I.hok eb) dd hp ?_;rw[hp2];exact h w' _ (I.tok _) rw'
theorem Zbr{Q:aE->aI->Prop}(hu:A.units+1<eJ)(I:Inv X m3 σ H s)(g:Mx H a y o)(ry:RelV y u)(h:∀s',Inv X m3 σ H s'->Q (.bool o.isSome) s') :
  aZ (model X.prog X.w) A (ba .In u (.ref a)) Q E s:=by
 rcases g with⟨m4,k,e,ey,l⟩ | ⟨m4,k,b,e,ey,eb,l⟩
 ·subst ey;obtain⟨z,hd,vs,rel,dd⟩:=Mv I.hok e;refine wpAny_in_of (Mu ry) hd dd.mapOf ?_;rw[<-(rel.val k).isSome_eq,<-l];exact h _ (I.tok _)
 ·subst ey;cases (show u=bF b from ry);obtain⟨z,hd,xs,rel,dd⟩:=Mw I.hok e;refine wpAny_in_heap (gQ hu) (Ph I.hok eb) hd dd ?_;have q:=(rel.val k).isSome_eq;rw[ic] at q;rw[<-q,<-l];exact h _ (I.tok _)
theorem Ek{Q:aE->aI->Prop}(hu:A.units+1<eJ)(I:Inv X m3 σ H s)(g:Mx H a y o)(ry:RelV y u)(h:∀s',Inv X m3 σ H s'->Q (.bool (!o.isSome)) s') :
  aZ (model X.prog X.w) A (ba .NotIn u (.ref a)) Q E s:=by
 rcases g with⟨m4,k,e,ey,l⟩ | ⟨m4,k,b,e,ey,eb,l⟩
 ·subst ey;obtain⟨z,hd,vs,rel,dd⟩:=Mv I.hok e;refine wpAny_notIn_of (Mu ry) hd dd.mapOf ?_;rw[<-(rel.val k).isSome_eq,<-l];exact h _ (I.tok _)
 ·subst ey;cases (show u=bF b from ry);obtain⟨z,hd,xs,rel,dd⟩:=Mw I.hok e;refine wpAny_notIn_heap (gQ hu) (Ph I.hok eb) hd dd ?_;have q:=(rel.val k).isSome_eq;rw[ic] at q;rw[<-q,<-l];exact h _ (I.tok _)
theorem KY{h':bV}{t':Nat}{ob:HO}(I:Inv X m3 σ H s)(mu:UR (H a))(hs:gD a s.heap h')(he:∃q,h'.get? a=aA q)(new:ObjOk X.prog X.w (upd H a ob) h' a ob) :
  Inv X m3 σ (upd H a ob) { s with heap:=h',toks:=t' }:=
 I.write (x:=a) (e:=a) mu (.inl rfl) (λb q hb z=>(hs.2 b hb).trans z) he new
theorem Bb{P:bC}{w:b6}{H':Hp}{h':bV}{m4:List (Xp×V)}{vs:List (Xp×aE)}(z:m4.length<=sizeLine)(hd:(a==eh)=aB)(rel:KV m4 vs)(dd:h'.DictOf (Xr P w) a vs) :
  ObjOk P w H' h' a (.dK m4):=⟨z,hd,vs,rel,dd⟩
theorem Ib{H':Hp}{Q:Unit->aI->Prop}(hu:A.units+1<eJ)(I:Inv X m3 σ H s)(g:AN H a y v H')(ry:RelV y u)(rv:RelV v r)(h:∀s',Inv X m3 σ H' s'->Q () s') :
  aZ (model X.prog X.w) A (setItem (.ref a) u r) Q E s:=by
 rcases g with⟨m4,k,e,ey,l,eH⟩ | ⟨m4,k,b,e,ey,eb,l,eH⟩
 ·subst ey eH;obtain⟨z,hd,vs,rel,dd⟩:=AL I.hok e;have hz:vs.length<=sizeLine:=by rw[<-rel.length];exact z
  have hl:(UE m4 k v).length<=sizeLine:=by have:=QC m4 k v;omega
  refine wpAny_setItem_pairs (hsz:=hz) (Mu ry) dd λh' dd' hs=>h _ ?_;have he:∃q,h'.get? a=aA q:=let⟨q,_,_,hq,_⟩:=dd';⟨q,hq⟩;exact KY I (by rw[e];exact cU) hs he (Bb hl hd (rel.put k rv) dd')
 ·subst ey eH;cases (show u=bF b from ry);obtain⟨z,hd,xs,rel,dd⟩:=AM I.hok e;have hz:xs.length<=sizeLine:=by rw[<-Paired.length rel];exact z
  have hl:(UE m4 k v).length<=sizeLine:=by have:=QC m4 k v;omega
  refine wpAny_setItem_heap (hsz:=hz) (gQ hu) (Ph I.hok eb) dd λh' dd' hs=>h _ ?_;obtain⟨q,es,ep,hq,h2,h3,h4,_,h5⟩:=dd';refine KY I (by rw[e];exact cU) hs ⟨q,hq⟩ ⟨hl,hd,_,(rel.put k eb rv).keeps λc ys ec=>?_,q,es,ep,hq,h2,h3,h4,h5⟩;rw[upd_ne (Ah ec e (λz=>nomatch z))];exact ec
end
def Bc(i:aw):Prop:=∀ov iv,subscripted i aB ov iv=operate [ov,iv] (kK ov iv)
theorem El{prog:bC}{w:b6}{A:b5}{E:aE->aI->Prop}{s:aI}{env:iu}{value slice:aw}{pos:dm}{T id:String}{Q:aE->aI->Prop}
  (hl:la (.type T) "__getitem__" = pure (aA (.builtin id))) (hs:Bc slice)
  (h:aZ (model prog w) A (eval value env) (λo s₁=>aZ (model prog w) A (eval slice env) (λi s₂=>s₂.TypeIs o T/\aZ (model prog w) A (kK o i) Q E s₂) E s₁) E s) :
  aZ (model prog w) A (eval (.Subscript value slice pos) env) Q E s:=by
 refine lb (ay h (λo s₁ h₁=>ay h₁ (λi s₂ h₂=>?_) λ_ _ x=>x) λ_ _ x=>x);obtain⟨hT,h₂⟩:=h₂;unfold kX;refine aF ?_;rw[getitemInPython_of_ne hT.not_modules];refine aF (wpAny_specialOf hT hl ?_);have fin:aZ (model prog w) A (subscripted slice aB o i) (λr s₃=>aZ (model prog w) A (letTemporaryGo value o r >>= λ_=>pure r) Q E s₃) E s₂:=by rw[hs o i];exact wpAny_operating (ay h₂ (λr s₃ h₃=>aF (wpAny_letTemporaryGo (aa h₃))) λ_ _ x=>x)
 first
  | exact aa (aF fin)
  | exact aF (aa (aF fin))
  | exact aF fin
theorem My{X:Cx}{m3:List (aH×ck)}{σ:St}{H:Hp}{s:aI}{a:aH}{y:V}{o:Option V}(I:Inv X m3 σ H s)(g:Mx H a y o):s.TypeIs (.ref a) "dict":=by
 rcases g with⟨m4,k,e,_,_⟩ | ⟨m4,k,b,e,_,_,_⟩
 ·obtain⟨_,_,vs,_,dd⟩:=Mv I.hok e;exact dd.typeIs
 ·obtain⟨_,_,xs,_,dd⟩:=Mw I.hok e;exact dd.typeIs
def DW(td ty:TE):TE:=λσ H Q=>td σ H λx H1=>ty σ H1 λy H2=>∃a v,x = .ref a/\Mx H2 a y (aA v)/\Q v H2
def AO(ty td:TE):TE:=λσ H Q=>ty σ H λy H1=>td σ H1 λx H2=>∃a o,x = .ref a/\Mx H2 a y o/\Q (.bl o.isSome) H2
def KZ(ty td:TE):TE:=λσ H Q=>ty σ H λy H1=>td σ H1 λx H2=>∃a o,x = .ref a/\Mx H2 a y o/\Q (.bl (!o.isSome)) H2
def sDPut(td ty tv:TE):TS:=λD σ H=>tv σ H λv H1=>td σ H1 λx H2=>ty σ H2 λy H3=>∃a H4,x = .ref a/\AN H3 a y v H4/\D.nx σ H4
section
variable {X:Cx} {o i e value:aw} {pos pos' tpos:dm} {td ty tv:TE}
theorem Em(hu:X.A.units+1<eJ)(ho:PE X o td)(hi:PE X i ty)(hs:Bc i):PE X (.Subscript o i pos) (DW td ty):=by intro m3 s σ H Q I h;refine El PySem.F.slot_dict_getitem.lookup hs (YD (ho m3 s σ H _ I h) λu s1 ⟨x,H1,I1,rx,q1⟩=>YD (hi m3 s1 σ H1 _ I1 q1) λiv s2 ⟨y,H2,I2,ry,a,v,ex,g,q2⟩=>?_);subst ex;obtain rfl:u=bF a:=rx;exact⟨My I2 g,Ia hu I2 g ry λw' s3 I3 rw'=>⟨v,H2,I3,rw',q2⟩⟩
theorem Bd(hu:X.A.units+1<eJ)(hi:PE X i ty)(ho:PE X o td):PC X .In i o (AO ty td):=by intro m3 s σ H Q I h;refine YD (hi m3 s σ H _ I h) λiv s1 ⟨y,H1,I1,ry,q1⟩=>YD (ho m3 s1 σ H1 _ I1 q1) λu s2 ⟨x,H2,I2,rx,a,ov,ex,g,q2⟩=>?_;subst ex;obtain rfl:u=bF a:=rx;exact Zbr hu I2 g ry λs3 I3=>⟨.bl ov.isSome,H2,I3,rfl,q2⟩
theorem Ic(hu:X.A.units+1<eJ)(hi:PE X i ty)(ho:PE X o td):PC X .NotIn i o (KZ ty td):=by intro m3 s σ H Q I h;refine YD (hi m3 s σ H _ I h) λiv s1 ⟨y,H1,I1,ry,q1⟩=>YD (ho m3 s1 σ H1 _ I1 q1) λu s2 ⟨x,H2,I2,rx,a,ov,ex,g,q2⟩=>?_;subst ex;obtain rfl:u=bF a:=rx;exact Ek hu I2 g ry λs3 I3=>⟨.bl (!ov.isSome),H2,I3,rfl,q2⟩
theorem Rg(hu:X.A.units+1<eJ)(ho:PE X o td)(hi:PE X i ty)(hv:PE X value tv)(hs:dX value (aA (.Subscript o i pos')) pos.line X.env=pure aB) :
  PS X (.Assign [.Subscript o i pos'] value pos) (sDPut td ty tv):=by
 intro m3 s σ H D I h;refine wpAny_Assign_Subscript (YD (hv m3 s σ H _ I h) λr s1 ⟨v,H1,I1,rv,q1⟩=>YD (ho m3 s1 σ H1 _ I1 q1) λu s2 ⟨x,H2,I2,rx,q2⟩=>YD (hi m3 s2 σ H2 _ I2 q2) λiv s3 ⟨y,H3,I3,ry,a,H4,ex,g,q3⟩=>?_) hs;subst ex;obtain rfl:u=bF a:=rx;exact Ib hu I3 g ry rv λs4 I4=>⟨σ,H4,I4,q3⟩
end
theorem HP{P:bC}{w:b6}{H:Hp}(h:bV)(hb:eh<h.objs.size):ObjOk P w H (h.push { cls:=.type "dict",data:=.dict #[] }) h.objs.size (.dT []):=
 ⟨gC _,beq_eq_false_iff_ne.mpr (cJ (bO hb)),[],.nil,_,#[],0,bD _ rfl,⟨rfl,rfl,rfl⟩,rfl,rfl,bx⟩
def Be:TE:=λ_ H Q=>∀p,H p=none->Q (.ref p) (upd H p (.dT []))
section
variable {X:Cx} {pos:dm}
theorem HQ:PE X (.Dict [] [] pos) Be:=λm3 s σ H Q I h=>
 wpAny_Dict_empty ⟨.ref s.heap.objs.size,_,I.laid (a:=s.heap.objs.size) (o:=.dT []) (t':=s.toks) (λ_ _ q=>aM _ q) (ar _) (HP s.heap I.big),rfl,h _ (I.hok.fresh (ar _))⟩
end
theorem OU:∀{vs:List aE}{ns:List Int},kJ vs ns->Vals (ns.map V.int) vs
 | _,_,.nil=>.nil
 | _,_,.cons n t h=>.cons ⟨t,rfl⟩ (OU h)
def En(H:Hp):Prop:=∀b,H b=none\/∃o xs,H b=aA (.frz o (.lst xs))
theorem HR{P:bC}{w:b6}{K:aG}{mg mb:aR->Option aE}{CX:HL}{k:Nat}{fa a:aH}{fd:dy}{x:aR}{sp:Sp}{s₁:aI}{vs:List aE}{ns:List Int}
  (KX:K.In s₁.heap) (hns:s₁.heap.Ns ao mg) (hb:s₁.heap.Ns l4 mb) (hbb:∀x:aR,x≠"__name__"->mb x=eD x) (hlim:s₁.heap.NoLimit) (hg:s₁.gens = #[])
  (ha:s₁.heap.get? a=aA { cls:=.type "list",data:=.seq vs.toArray }) (hi:kJ vs ns) (hl:ns.length<=sizeLine) (hr:Room k j6)
  (F:∀base:bV,K.In base->base.Ns ao mg->Tq P w K mg base CX k fa fd [x] sp) (hbind:∀(s:aI)(u:aE),kI s fd ⟨[u],[]⟩ [(x,u)])
  (hsp:∀H:Hp,En H->SqL K H a (ns.map V.int)->sp [.ref a] H (λv _=>v = .bl aC) λ_ _ _=>False)
  (hCX:∀H e s',CX [] H s₁ (λ_ _ _=>False) e s'->False) :
  gF (model P w) j6 (.call (.ref fa) ⟨[.ref a],[]⟩) (λr s'=>r = .ok (.ret (.bool aC))/\OldK s₁.heap s'.heap/\s'.os=s₁.os/\iG s'.gens) s₁:=by
 have rv:=OU hi;have lenV:=hi.length
 -- from an abstract heap in which nothing but the script may be tracked
 have core:∀H:Hp,En H->SqL K H a (ns.map V.int)->HOk P w H s₁.heap->(∀b,H b≠none->b=a)->(H a≠none->K.lookup a=none)->
   gF (model P w) j6 (.call (.ref fa) ⟨[.ref a],[]⟩) (λr s'=>r = .ok (.ret (.bool aC))/\OldK s₁.heap s'.heap/\s'.os=s₁.os/\iG s'.gens) s₁:=by
  intro H hO hS hok hA hK;have base_of:∀{b:aH}{o:ck},s₁.heap.get? b=aA o->H b=none->(Ny s₁.heap H).get? b=aA o:=λe n=>HC e n
  have noA:∀{b:aH}{o:ck}{es:Array jL}{ep:Nat},s₁.heap.get? b=aA o->o.data = .dict es ep->H b=none:=λ{b o es ep} e d=>by
   cases q:H b with
   | none=>rfl
   | some u=>
    have e':b=a:=hA b (by rw[q];simp);subst e';rw[ha] at e;cases e;have d':Data.seq vs.toArray _=Data.dict es ep:=d;cases d'
  have nsK:∀{b:aH}{m:aR->Option aE},s₁.heap.Ns b m->(Ny s₁.heap H).Ns b m:=λ{b m} ⟨o,es,ep,e,d,r⟩=>⟨o,es,ep,base_of e (noA e d),d,r⟩
  have hKb:K.In (Ny s₁.heap H):=λb o e=>base_of (KX b o e) (by
   cases q:H b with
   | none=>rfl
   | some u=>
    have e':b=a:=hA b (by rw[q];simp);subst e';rw[hK (by rw[q];simp)] at e;cases e)
  have hM:Mod K mg (Ny s₁.heap H):=⟨hKb,nsK hns,⟨mb,nsK hb,hbb⟩,let⟨mc,h1,h2⟩:=hlim;⟨mc,nsK h1,h2⟩⟩;have e0:Env0 P w K mg (Ny s₁.heap H) j6 [] s₁ H:=⟨rfl,hM,λb o e=>F1 e,Nat.le_of_eq (JV _ _),trivial,λb hb=>absurd (show b∈([]:List aH) from hb) (by simp),hok,.of_eq hg⟩;refine eX ((F _ hKb (nsK hns)).run j6 [] s₁ H ⟨[.ref a],[]⟩ [.ref a] [.ref a] _ _ hr e0 (hbind s₁ (.ref a)) (.cons rfl .nil) (hsp H hO hS)) λr s' h=>?_
  cases r with
  | error e=>exact(hCX H e s' h).elim
  | ok fl=>
   cases fl with
   | next=>exact b9 h
   | brk=>exact b9 h
   | cont=>exact b9 h
   | ret u=>
    obtain⟨v,H',os,bare,un,hok',r',q⟩:=h;have q':v = .bl aC:=q;subst q';obtain rfl:u=gP aC:=r';refine⟨rfl,OldK.of_keep λb o e=>?_,os,bare⟩
    cases q:H b with
    | none=>exact un.keep b o e q (by intro z;exact absurd (show b∈([]:List aH) from z) (by simp)) (by simp)
    | some u=>
     rcases hO b with z | ⟨ob,xs,z⟩
     ·rw[q] at z;cases z
     ·have z2:=un.frzs b ob _ z;obtain⟨e1,_⟩:=hok b _ z;obtain⟨e2,_⟩:=hok' b _ z2;rw[e] at e1;cases e1;exact e2
 cases hk:K.lookup a with
 | some o=>
  -- the script is one of the module's own objects
  have e:=KX a o hk;rw[ha] at e;cases e;refine core (λ_=>none) (λ_=>.inl rfl) (.inr ⟨_,vs.toArray,_,hk,rfl,rfl,rfl,by rw[aj,lenV];exact hl,by simpa using rv⟩) (λb u z=>by have z':(none:Option HO)=aA u:=z;cases z') (λb z=>absurd rfl z) λz=>absurd rfl z
 | none=>
  refine core (λb=>if b=a then aA (.frz { cls:=.type "list",data:=.seq vs.toArray } (.lst (ns.map V.int))) else none) (λb=>?_) (.inl (.inr ⟨{ cls:=.type "list",data:=.seq vs.toArray },mZ rfl⟩)) (λb u z=>?_) (λb z=>?_) λ_=>hk
  ·by_cases hb:b=a
   ·exact .inr ⟨_,_,mZ hb⟩
   ·exact .inl (ma hb)
  ·by_cases hb:b=a
   ·have z':=(mZ hb).symm.trans z;cases z';subst hb;exact⟨ha,by rw[aN];exact hl,vs,_,rv,ha⟩
   ·have z':=(ma hb).symm.trans z;cases z'
  ·by_cases hb:b=a
   ·exact hb
   ·exact absurd (ma hb) z
theorem walk_of{l:lX}{n k:Nat}{q:bC}{loose:List aR}{XP:(aR->Option aE)->bV->Prop}{YP:b6->bV->Prop}{d:DefRec}{K:Params->aG}{CX:b6->HL}{sp:b6->Sp}{x:aR}
  (hn:l.most=aA n) (hn2:n<=sizeLine) (hdf:d.params.defaults=[]) (hr:Room k j6)
  (hY:∀(w:b6)(h:bV),YP w h->(K w.params).In h)
  (F:∀(w:b6)(mg:aR->Option aE)(fa:aH)(h:bV),(K w.params).In h->h.Ns ao mg->mg d.name=aA (.ref fa)->
   ∃fd:dy,(∀(s:aI)(u:aE),kI s fd ⟨[u],[]⟩ [(x,u)])/\
    ∀base:bV,(K w.params).In base->base.Ns ao mg->Tq l.prog w (K w.params) mg base (CX w) k fa fd [x] (sp w))
  (hsp:∀(w:b6)(H:Hp)(a:aH)(ns:List Int),ns.length<=n->En H->SqL (K w.params) H a (ns.map V.int)->sp w [.ref a] H (λv _=>v = .bl aC) λ_ _ _=>False)
  (hCX:∀(w:b6)(H:Hp)(s:aI)(e:aE)(s':aI),CX w [] H s (λ_ _ _=>False) e s'->False) :
  mD q loose XP YP l.row.toRowW d [] (λf vs=>lh f vs):=by
 refine Att.attach_call hn hdf λw s₀ s₁ mg mb fa o pm cd doc a vs ns G Y ho hd hcd hmg hobj hints hlen hg=>?_;have KX:=hY w _ Y;obtain⟨fd,hb,hF⟩:=F w mg fa _ KX G.T.g hmg;exact HR KX G.T.g G.T.b G.T.builtins G.T.nolimit hg hobj hints (bu hlen hn2) hr hF hb (λH hO hS=>hsp w H a ns hlen hO hS) λH e s'=>hCX w H s₁ e s'
def XX(s:bj):Arguments:=match s with
 | .FunctionDef _ a _ _ _ _ _ _ _ _=>a
 | _=>{ posonlyargs:=[],args:=[],vararg:=none,kwonlyargs:=[],kw_defaults:=[],kwarg:=none,defaults:=[] }
def YL(s:bj):List bj:=match s with
 | .FunctionDef _ _ b _ _ _ _ _ _ _=>b
 | _=>[]
def Zp(s:bj):fJ:=match s with
 | .FunctionDef _ _ _ _ _ _ sc _ _ _=>sc
 | _=>{ kind:=.function,names:=[],isGenerator:=aB,isCoroutine:=aB }
abbrev Mz:HL:=λ_ _ _ _ _ _=>False
abbrev E0:XK:=λ_ _ _=>False
theorem AQ{X:Cx}:NC Mz X E0:=λ_ _ _ _ _ _ _ h=>h.elim
structure Fun(K:aG)(x qual:aR)(st:bj)(f:aH)(fd:dy):Prop where
 ex:∃(oc:aE) (od:Option aH) (kV doc pm:aE) (an:Option aH) (cdv ct:aE) (osl:Array (Option aE)),
  fd=cV x qual (XX st) (YL st) (Zp st) .none kV doc pm an cdv ct/\K.lookup f=aA ⟨oc,od,.func fd,osl⟩/\fu K cdv qual=aC
 kp:eM K (.ref f)=aC
section
variable {P:bC} {w:b6} {K:aG} {mg:aR->Option aE} {base:bV}
theorem Fun.ok{x qual:aR}{st:bj}{f:aH}{fd:dy}{N ps:List aR}{k:Nat}{sp:Sp}(F:Fun K x qual st f fd)(S:Z6 N ps (Zp st))(len:∀vs H Q E,sp vs H Q E->vs.length=ps.length)
  (hbody:∀(cdv:aE)(A:b5)(outer:List iu)(s:aI)(H:Hp)(vs:List V)(Q:VK)(E:XK),Room k (A.deeper (gX qual (Zp st) s.heap.objs.size f cdv))->sp vs H Q E->
   ∃t,PSs (R7 Mz P w K mg base N qual (Zp st) f cdv A outer s H E).nox (YL st) t/\t { nx:=λ_ H'=>Q .non H',rt:=Q } (start N vs) H):Tq P w K mg base Mz (k+1) f fd ps sp:=by
 obtain⟨oc,od,kV,doc,pm,an,cdv,ct,osl,rfl,lk,hcd⟩:=F.ex;refine HM lk hcd S len λA outer s H vs Q E hr hsp=>?_;obtain⟨t,h,q⟩:=hbody cdv A outer s H vs Q E hr hsp;exact⟨t,h.nox,q⟩
theorem Fun.binds{x qual:aR}{st:bj}{f:aH}{fd:dy}{ps:List aR}(F:Fun K x qual st f fd)
  (h:∀(kV doc pm:aE)(an:Option aH)(cdv ct:aE)(us:List aE),us.length=ps.length->iP (cV x qual (XX st) (YL st) (Zp st) .none kV doc pm an cdv ct) ⟨us,[]⟩=pure (ps.zip us)):Binds K fd ps []:=by
 obtain⟨oc,od,kV,doc,pm,an,cdv,ct,osl,rfl,lk,hcd⟩:=F.ex;exact .all (h kV doc pm an cdv ct)
theorem LO{x qual:aR}{st:bj}{f:aH}{oc:aE}{od an:Option aH}{osl:Array (Option aE)}{kV doc pm cdv ct:aE}(l:K.lookup f=aA ⟨oc,od,.func (cV x qual (XX st) (YL st) (Zp st) .none kV doc pm an cdv ct),osl⟩)
  (c:fu K cdv qual=aC) (k:eM K (.ref f)=aC):Fun K x qual st f (cV x qual (XX st) (YL st) (Zp st) .none kV doc pm an cdv ct):=⟨⟨oc,od,kV,doc,pm,an,cdv,ct,osl,rfl,l,c⟩,k⟩
end
theorem Td{A:b5}{k:Nat}(hr:Room k A):A.units+1<eJ:=k8 (Nat.add_le_add_left (by decide:1<=64) _) hr.units
section
variable {X:Cx}
theorem pv(i:Nat){x:aR}{pos:dm}(hN:X.N[i]?=aA x:=by rfl)(hv:Vis X.env.scope x:=by first | exact aY rfl | exact mL (aY rfl) | exact mL (mL rfl))(hd:(x==("__debug__" : aR))=aB:=by decide)
  (hcd:(x==("__classdict__" : aR))=aB:=by decide):PE X (.Name x pos) (Th i):=CG hN hv hd hcd
end
theorem Bf{A B:Prop}(h:B):if aB=aC then A else B:=by rw[ma a0];exact h
theorem Bg{A B:Prop}(h:A):if aC=aC then A else B:=by rw[mZ rfl];exact h
def Same(H H':Hp):Prop:=∀b o,H b=aA o->H' b=aA o
theorem Same.refl(H:Hp):Same H H:=λ_ _ h=>h
theorem Same.trans{H H1 H2:Hp}(a:Same H H1)(b:Same H1 H2):Same H H2:=λc o h=>b c o (a c o h)
theorem Same.free{H H':Hp}(e:Same H H'){l:aH}(h:H' l=mS):H l=mS:=by
 cases q:H l with
 | none=>rfl
 | some o=>
  rw[e l o q] at h;cases h
section
variable {κ:Type} [DecidableEq κ]
theorem NH:∀{l:List κ}{k:κ},l.Nodup->¬k∈l->(l++[k]).Nodup
 | [],k,_,_=>by simp
 | a::r,k,h,hk=>by
  obtain⟨h1,h2⟩:=bP.mp h;show(a::(r++[k])).Nodup;refine bP.mpr ⟨λm=>?_,NH h2 λm=>hk (aV.mpr (mL m))⟩;rcases au.mp m with q | q
  ·exact h1 q
  ·exact hk (aV.mpr (aY (aP.mp q).symm))
end
end L2
set_option maxHeartbeats 4000000
namespace L2
open PySem PySem.Spec PyProof.Rows
def Yv(cells:List (aR×aH)):List (aR×fC)->List (aR×aH)->List (aR×aH)
 | [],acc=>acc
 | (n,k)::r,acc=>Yv cells r (if(k==bp)=aC then(n,(cells.lookup n).getD 0)::acc else acc)
theorem Sy{env:iu}:∀(names:List (aR×fC))(acc:List (aR×aH)),(∀y∈names,y.2 = .free->(env.cells.lookup y.1).isSome=aC)->
  (forIn (m:=Sem) names acc λ(x:aR×fC) (cs:List (aR×aH))=>
   match x with
   | (name,kind)=>if(kind==bp)=aC then do
     let c <-cellOf env name
     pure (fL ((name,c)::cs))
    else pure (fL cs))=pure (Yv env.cells names acc)
 | [],acc,_=>rfl
 | (n,k)::r,acc,h=>by
  rw[List.forIn_cons];have ih:=λacc'=>Sy r acc' λy hy=>h y (aQ _ hy)
  cases hk:(k==bp) with
  | true=>
   have hs:=h (n,k) a9 (by simpa using hk);obtain⟨c,hc⟩:=cQ.mp hs;have hc:env.cells.lookup n=aA c:=hc;have e1:cellOf env n=pure c:=by unfold cellOf;rw[hc]
   dsimp only
   rw[hk,mZ rfl,e1];refine Eq.trans (ih ((n,c)::acc)) ?_;show _=pure (Yv env.cells r (if(k==bp)=aC then(n,(env.cells.lookup n).getD 0)::acc else acc));rw[mZ hk,hc];rfl
  | false=>
   dsimp only
   rw[hk,ma a0];refine Eq.trans (ih acc) ?_;show _=pure (Yv env.cells r (if(k==bp)=aC then(n,(env.cells.lookup n).getD 0)::acc else acc));rw[ma (by rw[hk];exact a0)]
theorem Uu{scope:fJ}{env:iu}(h:∀y∈scope.names,y.2 = .free->(env.cells.lookup y.1).isSome=aC):closureFor scope env=pure (Yv env.cells scope.names []):=by
 have e:=Sy (env:=env) scope.names [] h;unfold closureFor
 dsimp only
 rw[e];rfl
theorem T6{cells:List (aR×aH)}{x:aR}{c:aH}:∀(names:List (aR×fC))(acc:List (aR×aH)),(∀y∈names,y.2 = .free->(cells.lookup y.1).isSome=aC)->(acc.lookup x=aA c->cells.lookup x=aA c)->
  (Yv cells names acc).lookup x=aA c->cells.lookup x=aA c
 | [],_,_,h,e=>h e
 | (n,k)::r,acc,hf,h,e=>by
  refine T6 r _ (λy hy=>hf y (aQ _ hy)) ?_ e;intro q;by_cases hk:(k==bp)=aC
  ·rw[mZ hk,cH] at q
   cases hx:x==n with
   | true=>
    rw[hx] at q;have exn:x=n:=by simpa using hx
    obtain⟨d,hd⟩:=cQ.mp (hf (n,k) a9 (by simpa using hk));have hd:cells.lookup n=aA d:=hd;rw[hd] at q;rw[exn,hd];exact q
   | false=>rw[hx] at q;exact h q
  ·rw[ma hk] at q;exact h q
theorem Pj{cells:List (aR×aH)}{x:aR}:∀(names:List (aR×fC))(acc:List (aR×aH)),(acc.lookup x).isSome=aC->((Yv cells names acc).lookup x).isSome=aC
 | [],_,h=>h
 | (n,k)::r,acc,h=>by
  refine Pj r _ ?_;split
  ·rw[cH];split<;>simp_all
  ·exact h
theorem R8{cells:List (aR×aH)}{x:aR}:∀(names:List (aR×fC))(acc:List (aR×aH)),(x,bp)∈names->((Yv cells names acc).lookup x).isSome=aC
 | (n,k)::r,acc,h=>by
  rcases aV.mp h with e | h
  ·cases e;refine Pj r _ ?_;rw[mZ (by decide),cH];simp
  ·exact R8 r _ h
structure CompScope(N:List aR)(around scope:fJ)(own fr:List aR)(ix:List Nat):Prop where
 kind:scope.kind = .function
 nocell:∀y∈scope.names,y.2≠.cell
 names:∀y∈scope.names,y.2 = .local->scope.names.lookup y.1=aA .local
 frees:∀y∈scope.names,y.2 = .free->(around.names.lookup y.1=aA .cell\/around.names.lookup y.1=aA .free)
 slots:fr.map aA=ix.map (λi=>N[i]?)
 outs:∀x∈fr,(x,bp)∈scope.names
 apart:∀x∈fr,scope.names.lookup x≠aA .local
def Zz(X:Cx)(N':List aR)(scope:fJ)(cl:List (aR×aH))(C:aH)(s:aI)(H:Hp)(ex:List aH):Cx:=
 { X with N:=N',s₀:=s,H₀:=H,env:=iR scope cl C X.env,outer:=X.stack,ex:=ex,fn:=λ_=>aB,pn:=[],xe:=λ_ _=>False }
def Z4(n:Nat)(ix:List Nat)(σ:St):St:=aJ n none++ix.map (λi=>(σ[i]?).join)
theorem Vw{env:iu}{x:aR}:∀{names:List (aR×fC)}{k:fC},names.lookup x=aA k->
  (names.map λ(n,k)=>if(k==bp&&env.scope.kind==.function&&env.kindOf n==aA .cell) then(n,fQ) else(n,k)).lookup x =
   aA (if(k==bp&&env.scope.kind==.function&&env.kindOf x==aA .cell)=aC then fQ else k)
 | [],_,h=>by simp at h
 | (n,k')::r,k,h=>by
  show List.lookup x ((if(k'==bp&&env.scope.kind==.function&&env.kindOf n==aA .cell)=aC then(n,fQ) else(n,k'))::_)=_
  cases hx:x==n with
  | true=>
   simp only[cH,hx] at h;cases h;have e:x=n:=by simpa using hx
   subst e;split
   ·simp[cH]
   ·simp[cH]
  | false=>
   simp only[cH,hx] at h;split
   ·simp only[cH,hx];exact Vw h
   ·simp only[cH,hx];exact Vw h
theorem UT{env:iu}{x:aR}:∀{names:List (aR×fC)}{k':fC},
  (names.map λ(n,k)=>if(k==bp&&env.scope.kind==.function&&env.kindOf n==aA .cell) then(n,fQ) else(n,k)).lookup x=aA k'->∃k,names.lookup x=aA k
 | [],_,h=>by simp at h
 | (n,k0)::r,k',h=>by
  have h:List.lookup x ((if(k0==bp&&env.scope.kind==.function&&env.kindOf n==aA .cell)=aC then(n,fQ) else(n,k0))::_)=aA k':=h
  cases hx:x==n with
  | true=>exact⟨k0,by simp[cH,hx]⟩
  | false=>
   have:∃k,r.lookup x=aA k:=by
    apply UT (env:=env) (k':=k');split at h<;>simpa [cH,hx] using h
   obtain⟨k,e⟩:=this;exact⟨k,by simp[cH,hx,e]⟩
section
variable {X:Cx} {m3:List (aH×ck)} {σ:St} {H:Hp} {s:aI} {own fr:List aR} {ix:List Nat} {scope:fJ}
theorem CompScope.clos(S:CompScope X.N X.env.scope scope own fr ix)(I:Inv X m3 σ H s):∀y∈scope.names,y.2 = .free->(X.env.cells.lookup y.1).isSome=aC:=λy hy hf=>by obtain⟨c,e⟩:=I.ok.has y.1 (S.frees y hy hf);rw[e];rfl
end
theorem Rh{prog:bC}{w:b6}{A:b5}{R:mK->aI->Prop}{s:aI}{mX target iter:aw}{mW:List aw}{scope:fJ}{pos:dm}{it acc:aE}{env:iu}(I:Nat->aI->Prop)
  (turn:∀n s,I n s->aZ (model prog w) A (k4 it) (λr s₁=>match r with
   | none=>R (.ok .next) s₁
   | some v=>aZ (model prog w) A (hU target it v) (λ_ s₁'=>aZ (model prog w) A (assign target env v) (λ_ s₂=>
     aZ (model prog w) A (forIn mW aC λc r=>if r=aC then do let ok <-l5 c env (eval c env);pure (fL ok) else pure (fL r)) (λok s₃=>
      if ok=aC then aZ (model prog w) A (eval mX env) (λx s₄=>
       aZ (model prog w) A (call (.builtin "list.append") [acc,x]) (λ_ s₅=>∃m,m<n/\I m s₅) (ie (model prog w) A env λe s'=>R (.error e) s') s₄) (ie (model prog w) A env λe s'=>R (.error e) s') s₃
      else ∃m,m<n/\I m s₃) (ie (model prog w) A env λe s'=>R (.error e) s') s₂) (ie (model prog w) A env λe s'=>R (.error e) s') s₁') (ie (model prog w) A env λe s'=>R (.error e) s') s₁) (ie (model prog w) A env λe s'=>R (.error e) s') s)
  (n:Nat) (h:I n s) :
  gF (model prog w) A (.compLoop (.ListComp mX [⟨target,iter,mW,0⟩] scope pos) 0 it acc env) R s:=by
 refine codeAny_loop rfl I (λn s hI=>?_) n h;show aZ _ A ((compTurn (.ListComp mX [⟨target,iter,mW,0⟩] scope pos) 0 it acc env).onRaise (λx=>do fS x env;theTreesLotGoes x)) _ _ s;refine wpAny_noted ?_;rw[compTurn_list];refine aF (fO (aF (ay (turn n s hI) (λr s₁ h₁=>?_) λ_ _ h'=>h')))
 cases r with
 | none=>exact aa h₁
 | some v=>
  refine aF (ay h₁ (λ_ s₁' h₁'=>?_) λ_ _ h'=>h');refine aF (ay h₁' (λ_ s₂ h₂=>aF (ay h₂ (λok s₃ h₃=>?_) λ_ _ h'=>h')) λ_ _ h'=>h')
  cases ok with
  | false=>exact aa ⟨rfl,h₃⟩
  | true=>
   exact aF (aF (ay h₃ (λx s₄ h₄=>aF (ay h₄ (λ_ s₅ h₅=>aa (aa ⟨rfl,h₅⟩)) λ_ _ h'=>h')) λ_ _ h'=>h'))
def K0(X:Cx)(mW:List aw)(t:TT):Prop:=
 ∀(m3:List (aH×ck))(s:aI)(σ:St)(H:Hp)(Q:Bool->Hp->Prop),Inv X m3 σ H s->t σ H Q->
  aZ (model X.prog X.w) X.A (forIn mW aC λc r=>if r=aC then do let ok <-l5 c X.env (eval c X.env);pure (fL ok) else pure (fL r)) (TP X m3 σ Q) X.xe s
def AR:TT:=λ_ H Q=>Q aC H
theorem Eo{X:Cx}:K0 X [] AR:=λ_ _ _ H _ I h=>wpAny_tests_nil ⟨H,I,h⟩
theorem Ep{X:Cx}{c:aw}{t:TT}(h:PT X c t):K0 X [c] t:=λm3 s σ H Q I hq=>wpAny_tests_one (h m3 s σ H Q I hq)
def AS(n:Nat)(ix:List Nat)(g:TG)(tt:TT)(te:TE)(σ:St)(Q:VK)(J:It)(H1:Hp):Prop:=
 ∃W:Nat->Nat->List V->Hp->Prop,(∃m,W 0 m [] H1)/\∀i m ys H,W i m ys H->ys.length<=sizeLine/\
  ((J.stop i H/\∀p,H p=none->Q (.ref p) (upd H p (.lst ys)))\/
   (J.go i H/\∃N:List V->Hp->Prop,(∀ys' H',N ys' H'->∃m',m'<m/\W (i+1) m' ys' H')/\
    ∀x H',J.yld i H x H'->g x (Z4 n ix σ) H' λσ2 H2=>σ2.drop n=(Z4 n ix σ).drop n/\tt σ2 H2 λb H3=>if b=aC then te σ2 H3 λy H4=>N (ys++[y]) H4 else N ys H3))
def OV(n:Nat)(ix:List Nat)(wi:TI)(g:TG)(tt:TT)(te:TE):TE:=λσ H Q=>wi σ H λJ H1=>AS n ix g tt te σ Q J H1
theorem OW{n:Nat}{ix:List Nat}{σ σ2:St}(hd:σ2.drop n=(Z4 n ix σ).drop n):∀(i:Nat) v,(Z4 n ix σ)[i]?=aA (aA v)->σ2[i]?=aA (aA v):=λi v e=>by
 by_cases hi:i<n
 ·unfold Z4 at e;rw[bT (by simpa using hi),cG] at e;rw[mZ hi] at e;cases e
 ·have q:=congrArg (λl=>l[i-n]?) hd;simp only[k9] at q;rw[show n+(i-n)=i by omega] at q;rw[q];exact e
section
variable {X:Cx} {tg mX iter:aw} {mW:List aw} {scope:fJ} {pos:dm} {own fr:List aR} {ix:List Nat} {wi:TI} {g:TG} {tt:TT} {te:TE}
theorem MA{m3:List (aH×ck)}{σ:St}{H2:Hp}{s2:aI}{fp:List aH}{h₁:bV}{tk:Nat}{C:aH}(S:CompScope X.N X.env.scope scope own fr ix)(I2:Inv X m3 σ H2 s2)(f2:∀b∈fp,Ti X m3 H2 b)(hfp:∀b∈fp,b<s2.heap.objs.size)
  (hC:s2.heap.objs.size<=C) (hns:h₁.Ns C λ_=>none) (old:∀b o,s2.heap.get? b=aA o->h₁.get? b=aA o) :
  Inv (Zz X (own++fr) scope (Yv X.env.cells scope.names []) C s2 H2 fp) [] (Z4 own.length ix σ) H2 { s2 with heap:=h₁,toks:=tk }:=by
 have cs:=S.clos I2;have sub:∀x c,(Yv X.env.cells scope.names []).lookup x=aA c->X.env.cells.lookup x=aA c:=λx c e=>T6 scope.names [] cs (λh=>by simp at h) e;have stk:=I2.stkSub
 have okk:(Zz X (own++fr) scope (Yv X.env.cells scope.names []) C s2 H2 fp).Ok:=by
  refine⟨I2.ok.mod,S.kind,I2.ok.glob,I2.ok.blt,hC,λx y c h1 h2=>I2.ok.inj x y c (sub x c h1) (sub y c h2),λx hx=>?_,λx c h _=>?_,I2.ok.hd,I2.ok.frames,.inl rfl,λb hb=>⟨?_,λx c e=>?_⟩,I2.bs,?_,λb o e hb=>?_,λb hb z=>?_,I2.stack,I2.stkFree⟩
  ·-- the cells of the block's free names
   have hx:(relabel scope X.env).names.lookup x=aA .cell\/(relabel scope X.env).names.lookup x=aA .free:=hx
   have key:(x,bp)∈scope.names:=by
    have:∃k',(relabel scope X.env).names.lookup x=aA k'/\(k' = .cell\/k' = .free):=by
     rcases hx with h | h
     ·exact⟨_,h,.inl rfl⟩
     ·exact⟨_,h,.inr rfl⟩
    obtain⟨k',e,hk'⟩:=this;obtain⟨k,e0⟩:=UT e;have e1:=Vw (env:=X.env) e0;have e:(scope.names.map λ(n,k)=>if(k==bp&&X.env.scope.kind==.function&&X.env.kindOf n==aA .cell) then(n,fQ) else(n,k)).lookup x=aA k':=e;rw[e1] at e;have m:=dz e0
    cases k with
    | free=>exact m
    | cell=>exact absurd rfl (S.nocell _ m)
    | _=>simp at e;subst e;rcases hk' with z | z<;>cases z
   exact cQ.mp (R8 _ _ key)
  ·cases h
  ·-- fp differs from the frame
   exact bO (af (hfp b hb) hC)
  ·exact(f2 b hb).2.2.2.2.1 x c (sub x c e)
  ·exact bu I2.ok.bsz I2.sz
  ·rcases(f2 b hb).2.2.2.1 with z | z
   ·exact I2.ok.noex b o e z
   ·exact absurd (af (aT (I2.ok.bs b o e).1) z) (cI _)
  ·rcases aV.mp (stk b z) with e | e
   ·exact(f2 b hb).2.1 e
   ·exact(f2 b hb).2.2.1 e
 have sl:fr.length=ix.length:=by simpa using congrArg fj S.slots
 refine⟨okk,rfl,I2.bare,Un.kept old,⟨_,hns,λi x v h1 h2 h3=>?_⟩,λx c e=>?_,I2.hok.fresh hC,λx c e=>I2.freeC x c (sub x c e),λp hp=>absurd (show p∈([]:List (aH×ck)) from hp) (by simp),I2.hok.kept old,?_⟩
 ·-- a name of the def around
  have h1:(own++fr)[i]?=aA x:=h1;have hi:¬i<own.length:=λhi=>by unfold Z4 at h2;rw[bT (by simpa using hi),cG,mZ hi] at h2;cases h2
  rw[bh (by omega)] at h1;unfold Z4 at h2;rw[bh (by simpa using hi),eQ,aS] at h2
  cases ej:ix[i-own.length]? with
  | none=>rw[ej] at h2;cases h2
  | some j=>
   rw[ej] at h2;have h2:(σ[j]?).join=aA v:=by simpa using h2
   have h2:σ[j]?=aA (aA v):=by
    cases q:σ[j]? with
    | none=>rw[q] at h2;cases h2
    | some z=>rw[q] at h2;exact congrArg aA h2
   have hN:X.N[j]?=aA x:=by have q:=congrArg (λl=>l[i-own.length]?) S.slots;simp only[aS,h1,ej,av] at q;exact(bU q).symm
   have hm:=S.outs x (b7 h1);have hk:=S.frees _ hm rfl;have hk:X.env.scope.names.lookup x=aA .cell\/X.env.scope.names.lookup x=aA .free:=hk;obtain⟨m,hn,hl⟩:=I2.loc;obtain⟨u,r,l⟩:=hl j x v hN h2 (by rcases hk with k | k;exact .inr (.inl k);exact .inr (.inr k));refine⟨u,r,?_⟩;rcases l with⟨k,_⟩ | ⟨_,c,hc,hcell⟩
   ·have k:X.env.scope.names.lookup x=aA .local:=k;rcases hk with q | q<;>rw[k] at q<;>cases q
   ·obtain⟨c',hc'⟩:=cQ.mp (R8 (cells:=X.env.cells) _ [] hm);have ec:=sub x c' hc';rw[hc] at ec;cases ec;refine .inr ⟨?_,c,hc',?_⟩
    ·have h3:(relabel scope X.env).names.lookup x=aA .local\/(relabel scope X.env).names.lookup x=aA .cell\/(relabel scope X.env).names.lookup x=aA .free:=h3;rcases h3 with h3 | h3
     ·obtain⟨k0,e0⟩:=UT h3;have e1:=Vw (env:=X.env) e0;have h3:(scope.names.map λ(n,k)=>if(k==bp&&X.env.scope.kind==.function&&X.env.kindOf n==aA .cell) then(n,fQ) else(n,k)).lookup x=aA .local:=h3;rw[e1] at h3
      have k0l:k0 = .local:=by
       cases k0<;>simp at h3 ⊢
       split at h3<;>cases h3
      subst k0l;exact absurd e0 (S.apart x (b7 h1))
     ·exact h3
    ·obtain⟨o,ho,hd⟩:=hcell;exact⟨o,old _ _ ho,hd⟩
 ·obtain⟨v,o,ho,hd⟩:=I2.cell x c (sub x c e);exact⟨v,o,old _ _ ho,hd⟩
 ·show(Z4 own.length ix σ).length=(own++fr).length;unfold Z4;rw[aq,eQ,aN,aq,sl]
theorem Pk{m3:List (aH×ck)}{σ:St}{H2:Hp}{s2:aI}{fp:List aH}{it:aH}{tn:Nat->bV->Prop}{J:It}{Fin:List V->Hp->Prop}{RR:aE->aH->mK->aI->Prop}{E:aE->aI->Prop}
  (hcalm:X.calm=aC) (S:CompScope X.N X.env.scope scope own fr ix)
  (hg:∀cl C s H ex,PG (Zz X (own++fr) scope cl C s H ex) tg g) (ht:∀cl C s H ex,K0 (Zz X (own++fr) scope cl C s H ex) mW tt) (he:∀cl C s H ex,PE (Zz X (own++fr) scope cl C s H ex) mX te)
  (I2:Inv X m3 σ H2 s2) (T:Mo X.prog X.w X.K tg J fp it tn) (st2:tn 0 s2.heap) (f2:∀b∈fp,Ti X m3 H2 b)
  {W:Nat->Nat->List V->Hp->Prop} {m0:Nat} (w0:W 0 m0 [] H2)
  (turn:∀i m ys H,W i m ys H->ys.length<=sizeLine/\
   ((J.stop i H/\Fin ys H)\/
    (J.go i H/\∃N:List V->Hp->Prop,(∀ys' H',N ys' H'->∃m',m'<m/\W (i+1) m' ys' H')/\
     ∀x H',J.yld i H x H'->g x (Z4 own.length ix σ) H' λσ2 H2=>σ2.drop own.length=(Z4 own.length ix σ).drop own.length/\tt σ2 H2 λb H3=>if b=aC then te σ2 H3 λy H4=>N (ys++[y]) H4 else N ys H3)))
  (hRR:∀(D C:aH)(oC:ck)(m:aR->Option aE)(s':aI)(H':Hp)(ys:List V),Inv X (m3++[(C,oC)]) σ (upd H' D (.lst ys)) s'->s'.heap.get? C=aA oC->s'.heap.Ns C m->Ti X m3 (upd H' D (.lst ys)) C->H' D=none->Fin ys H'->RR (.ref D) C (.ok .next) s') :
  aZ (model X.prog X.w) X.A (newList []) (λacc s₃=>aZ (model X.prog X.w) X.A (newFunctionEnv scope X.env.globals (Yv X.env.cells scope.names []) [] X.env.qual none .none (aA X.env)) (λcenv s₄=>
   gF (model X.prog X.w) X.A (.compStart (.ListComp mX [⟨tg,iter,mW,0⟩] scope pos) 0 (.ref it) acc { cenv with scope:=relabel scope X.env }) (RR acc cenv.locals) s₄) E s₃) E s2:=by
 have hfp:∀b∈fp,b<s2.heap.objs.size:=λb hb=>by obtain⟨o,e,_⟩:=T.obj 0 s2.heap st2 b hb;exact aT e
 refine dN (jz S.nocell (by intro y hy;simp at hy) (λh₁ hns₁ hsb₁=>?_) S.kind)
 dsimp only at hns₁ hsb₁ ⊢
 generalize hH2:s2.heap.push { cls:=.type "list",dict:=none,data:=.seq ([]:List aE).toArray }=G2 at hns₁ hsb₁ ⊢;have hC:G2.objs.size=s2.heap.objs.size+1:=by rw[<-hH2,gY]
 generalize hCC:G2.objs.size=C at hns₁ hsb₁ hC ⊢;generalize hDD:s2.heap.objs.size=D at hC ⊢;have hDC:D≠C:=by omega
 have below:∀b,b<s2.heap.objs.size->b≠C/\b≠D:=λb hb=>by rw[hDD] at hb;exact⟨bO (by omega),bO hb⟩
 have old:∀b o,s2.heap.get? b=aA o->h₁.get? b=aA o:=λb o e=>hsb₁.extBut b o (below b (aT e)).1 (aM _ (hH2▸aM _ e))
 have hacc:h₁.get? D=aA { cls:=.type "list",data:=.seq ([]:List aE).toArray 0 }:=by
  have e0:G2.get? D=aA { cls:=.type "list",data:=.seq ([]:List aE).toArray 0 }:=by rw[<-hH2,<-hDD];exact bD _ rfl
  exact hsb₁.extBut _ _ hDC (aM _ e0)
 have hns₁':h₁.Ns C λ_=>none:=by simpa using hns₁
 have I0:=λtk=>MA (tk:=tk) S I2 f2 hfp (C:=C) (by omega) hns₁' old
 -- what stays aC of the iterator's objects in the block
 have loop:∀s₃:aI,s₃={ s2 with heap:=h₁,toks:=s2.toks+([]:List (aR×aE)).length }->
   gF (model X.prog X.w) X.A (.compLoop (.ListComp mX [⟨tg,iter,mW,0⟩] scope pos) 0 (.ref it) (.ref D) (iR scope (Yv X.env.cells scope.names []) C X.env)) (RR (.ref D) C) s₃:=by
  rintro s₃ rfl;generalize hY:Zz X (own++fr) scope (Yv X.env.cells scope.names []) C s2 H2 fp=Y at I0
  have stat:∀{H':Hp}{pn:List (aH×ck)},(∀b∈fp,H' b=none)->(∀p∈pn,∀b∈fp,p.1≠b)->∀b∈fp,Ti Y pn H' b:=λ{H' pn} hn hp b hb=>by
   subst hY;refine⟨hn b hb,(below b (hfp b hb)).1,λz=>?_,.inl hb,λx c e=>?_,λp hp'=>hp p hp' b hb⟩
   ·exact(I0 0).ok.exfs b hb z
   ·exact((I0 0).ok.exf b hb).2 x c e
  have dfp:∀b∈fp,D≠b:=λb hb=>cJ (below b (hfp b hb)).2;have hcellD:∀x c,Y.env.cells.lookup x=aA c->c≠D:=λx c e z=>by subst hY;have e:(Yv X.env.cells scope.names []).lookup x=aA c:=e;have e':=T6 scope.names [] (S.clos I2) (λh=>by simp at h) e;obtain⟨v,q⟩:=I2.cell x c e';exact(below c q.lt).2 z
  have hfsD:D∉Y.fs:=λz=>by subst hY;obtain⟨_,o,ho,_⟩:=(I0 0).ok.funs.mem z;have:=aT ho;have:D<s2.heap.objs.size:=this;omega
  have eL:Y.env.locals=C:=by subst hY;rfl
  have eS:Y.s₀=s2:=by subst hY;rfl
  have eP:Y.pn=[]:=by subst hY;rfl
  refine Rh (λn s'=>∃i ys mY nn H',Inv Y [] (Z4 own.length ix σ) H' s'/\tn i s'.heap/\(∀b∈fp,H' b=none)/\s'.heap.get? D=aA { cls:=.type "list",data:=.seq mY nn }/\Vals ys mY.toList/\H' D=none/\W i n ys H') ?_ m0
   ⟨0,[],#[],0,H2,I0 _,T.keep _ _ _ st2 λb _ o e=>old b o e,λb hb=>(f2 b hb).1,hacc,.nil,I2.hok.fresh (by omega),w0⟩
  rintro n s3 ⟨i,ys,mY,nn,H3,I3,st3,fr3,oD,vD,nD,w3⟩;obtain⟨hlen,cases3⟩:=turn i n ys H3 w3;have hsize:mY.size<=sizeLine:=by have:=vD.length;simp only[dw] at this;omega
  have pD:Inv Y [(D,{ cls:=.type "list",data:=.seq mY nn })] (Z4 own.length ix σ) H3 s3:=I3.pins_of λp hp=>by rw[aP.mp hp];exact⟨oD,nD,by rw[eL];exact hDC,hfsD,λv z=>by cases z⟩
  have YP:Y.prog=X.prog:=by subst hY;rfl
  have Yw:Y.w=X.w:=by subst hY;rfl
  have YK:Y.K=X.K:=by subst hY;rfl
  have YA:Y.A=X.A:=by subst hY;rfl
  have Yx:Y.xe=λ_ _=>False:=by subst hY;rfl
  have Ye:Y.env=iR scope (Yv X.env.cells scope.names []) C X.env:=by subst hY;rfl
  have ne1:∀p∈[((D,{ cls:=.type "list",data:=.seq mY nn }):aH×ck)],∀b∈fp,p.1≠b:=λp hp b hb=>by rw[aP.mp hp];exact dfp b hb
  rcases cases3 with⟨stop,qn⟩ | ⟨go,N,hN,step⟩
  ·have d:=T.done Y YP Yw YK (by subst hY;exact hcalm) i _ s3 _ H3 (ie (model X.prog X.w) X.A (iR scope (Yv X.env.cells scope.names []) C X.env) λe s'=>RR (.ref D) C (.error e) s') pD (stat fr3 ne1) st3 stop;rw[YA] at d;refine YD d λr s4 ⟨hr,I4⟩=>?_;subst hr;show RR (.ref D) C (.ok .next) s4;obtain⟨oD4,nD4,_⟩:=I4.pin (D,_) (by rw[eP];exact a9);obtain⟨m,hn,_⟩:=I4.loc;rw[eL] at hn;obtain⟨oC,es,ep,hoC,hdC,hrest⟩:=id hn;have hfreeC:H3 C=none:=by have:=I4.free;rw[eL] at this;exact this
   have un:Un (Nz X.stack) fp H2 H3 s2.heap s4.heap:=by have:=I4.base;subst hY;exact this
   have lt2:∀b o,s2.heap.get? b=aA o->b≠D:=λb o e=>(below b (aT e)).2
   have un':Un (Nz X.stack) fp H2 (upd H3 D (.lst ys)) s2.heap s4.heap:=by
    refine⟨un.keep,un.slot,λb o e n hx=>?_,un.there,λb xs e=>?_,λb o u e=>?_,λb ps e=>?_⟩
    ·rw[upd_ne (lt2 b o e)];exact un.free b o e n hx
    ·have q:=un.tups b xs e;rw[upd_ne (ZJ q nD4)];exact q
    ·have q:=un.frzs b o u e;rw[upd_ne (ZJ q nD4)];exact q
    ·obtain⟨more,q⟩:=un.tbls b ps e;exact⟨more,by rw[upd_ne (ZJ q nD4)];exact q⟩
   have hok4:HOk X.prog X.w H3 s4.heap:=by have:=I4.hok;rw[YP,Yw] at this;exact this
   have hok':HOk X.prog X.w (upd H3 D (.lst ys)) s4.heap:=λb u q=>by
    by_cases hb:b=D
    ·subst hb;rw[upd_same] at q;cases q;exact⟨hlen,mY.toList,nn,vD,by simpa using oD4⟩
    ·rw[upd_ne hb] at q;exact(hok4 b u q).stay (λc v _ z=>z) (λc z=>by rw[upd_ne (ZJ z nD4)];exact z) λc xs z=>by rw[upd_ne (ZJ z nD4)];exact z
   have os4:s4.os=s2.os:=by rw[I4.os,eS]
   have I5:Inv X m3 σ (upd H3 D (.lst ys)) s4:=I2.call' os4 un' hok' I4.bare λb hb=>⟨(f2 b hb).2.2.2.1,(f2 b hb).2.1,(f2 b hb).2.2.2.2.1,(f2 b hb).2.2.2.2.2⟩;have CL:C≠X.env.locals:=λz=>by exact(below _ I2.lt).1 z.symm
   have fpC:Ti X m3 (upd H3 D (.lst ys)) C:=I2.fpOk (by omega) (by rw[upd_ne (cJ hDC)];exact hfreeC);refine hRR D C oC m s4 H3 ys (I5.pins_of λp hp=>?_) hoC hn fpC nD4 qn;rcases au.mp hp with z | z
   ·exact I5.pin p (ag _ z)
   ·rw[aP.mp z];exact⟨hoC,fpC.1,fpC.2.1,fpC.2.2.1,λv z=>by rw[hdC] at z;cases z⟩
  ·have d:=T.item Y YP Yw YK (by subst hY;exact hcalm) i _ s3 _ H3 (λ_ _=>False) pD (stat fr3 ne1) st3 go;rw[YA] at d;refine ay d (λr s4 ⟨u,hr,h4⟩=>?_) λ_ _ z=>z.elim;subst hr;refine ay h4 (λ_ s5 ⟨x,H5,I5,r5,y5,st5,fr5⟩=>?_) λ_ _ z=>z.elim;have I5':=I5.pinned (stat fr5 ne1) (T.obj _ _ st5);have hg':=hg (Yv X.env.cells scope.names []) C s2 H2 fp;have ht':=ht (Yv X.env.cells scope.names []) C s2 H2 fp;have he':=he (Yv X.env.cells scope.names []) C s2 H2 fp;rw[hY] at hg' ht' he';have a6:=hg' _ s5 _ H5 x u _ I5' r5 (step x H5 y5);rw[YP,Yw,YA,Ye,Yx] at a6;refine ay a6 (λ_ s6 ⟨σ6,H6,I6,dr,q6⟩=>?_) λ_ _ z=>z.elim;have a7:=ht' _ s6 σ6 H6 _ I6 q6;rw[YP,Yw,YA,Ye,Yx] at a7;refine ay a7 (λok s7 ⟨H7,I7,q7⟩=>?_) λ_ _ z=>z.elim
   have back:∀{H8:Hp}{s8:aI},Inv Y ([((D,{ cls:=.type "list",data:=.seq mY nn }):aH×ck)]++To fp s5.heap) σ6 H8 s8->
     s8.heap.get? D=aA { cls:=.type "list",data:=.seq mY nn }/\H8 D=none/\tn (i+1) s8.heap/\(∀b∈fp,H8 b=none):=λ{H8 s8} I8=>by
    obtain⟨e1,e2,_⟩:=I8.pin (D,{ cls:=.type "list",data:=.seq mY nn }) (by rw[eP];exact a9);refine⟨e1,e2,T.keep _ _ _ st5 λb hb o e=>(I8.pin (b,o) (by rw[eP];exact aQ _ (Wq hb e))).1,λb hb=>?_⟩;obtain⟨o,e,_⟩:=T.obj _ _ st5 b hb;exact(I8.pin (b,o) (by rw[eP];exact aQ _ (Wq hb e))).2.1
   have unp:∀{H8:Hp}{s8:aI},Inv Y ([((D,{ cls:=.type "list",data:=.seq mY nn }):aH×ck)]++To fp s5.heap) σ6 H8 s8->Inv Y [] (Z4 own.length ix σ) H8 s8:=λ{H8 s8} I8=>
    (I8.pins_of (pins':=[]) λp hp=>absurd hp (by simp)).weak (by
     have e1:=(I0 0).len;have e2:=I8.len;rw[e1,e2]) (OW dr)
   cases ok with
   | false=>
    rw[ma a0] at q7;show ∃m,m<n/\_;obtain⟨e1,e2,e3,e4⟩:=back I7;obtain⟨m',hm,w7⟩:=hN _ _ q7;exact⟨m',hm,i+1,ys,mY,nn,H7,unp I7,e3,e4,e1,vD,e2,w7⟩
   | true=>
    rw[mZ rfl] at q7;show aZ _ _ _ _ _ _;have a8:=he' _ s7 σ6 H7 _ I7 q7;rw[YP,Yw,YA,Ye,Yx] at a8;refine ay a8 (λyv s8 ⟨y,H8,I8,ry,q8⟩=>?_) λ_ _ z=>z.elim;obtain⟨e1,e2,e3,e4⟩:=back I8;obtain⟨m',hm,w8⟩:=hN _ _ q8;refine append_at e1 (λh9 hs9 hD9=>?_) hsize;have I9:Inv Y [] (Z4 own.length ix σ) H8 { s8 with heap:=h9 }:=(unp I8).turned (t':=s8.toks) (it:=D) (λb o hb e=>hs9.extBut b o hb e) e2 (by rw[eL];exact hDC) (.inr (by rw[eS];omega)) hcellD (λp hp=>absurd (show p∈([]:List (aH×ck)) by rw[eP] at hp;exact hp) (by simp));refine⟨m',hm,i+1,ys++[y],mY.push yv,nn+1,H8,I9,T.keep _ _ _ e3 λb hb o e=>hs9.extBut b o (cJ (dfp b hb)) e,e4,hD9,?_,e2,w8⟩;rw[kn];exact vD.append (.cons ry .nil)
 exact j7 (loop _ rfl) (T.self X.A 0 _ _ _ (T.keep _ _ _ st2 λb _ o e=>old b o e) (loop _ rfl))
theorem Er(hcalm:X.calm=aC)(hi:PI X tg iter wi)(S:CompScope X.N X.env.scope scope own fr ix)
  (hg:∀cl C s H ex,PG (Zz X (own++fr) scope cl C s H ex) tg g) (ht:∀cl C s H ex,K0 (Zz X (own++fr) scope cl C s H ex) mW tt) (he:∀cl C s H ex,PE (Zz X (own++fr) scope cl C s H ex) mX te)
  (hs:∀x,bw iter X.env x=pure x:=by intro _;rfl):PE X (.ListComp mX [⟨tg,iter,mW,0⟩] scope pos) (OV own.length ix wi g tt te):=by
 intro m3 s σ H Q I h;rw[eval_ListComp];refine gH (use:=none) (cl:=Yv X.env.cells scope.names []) rfl hs (Uu (S.clos I)) S.kind S.names (YD (hi m3 s σ H _ I h) λv s1 h1=>YD h1 λitv s2 h2=>?_);obtain⟨it,fp,tn,J,H2,e,I2,T,st2,f2,W,⟨m0,w0⟩,turn⟩:=h2;subst e;refine Pk (Fin:=λys H=>∀p,H p=none->Q (.ref p) (upd H p (.lst ys))) (RR:=λacc C=>compPost (model X.prog X.w) X.A X.xe none (EP X m3 σ Q) acc C) hcalm S hg ht he I2 T st2 f2 w0 turn ?_;intro D C oC m s' H' ys I5 hoC hn fpC nD fin;refine⟨m,hn,λh' hs'=>⟨.ref D,upd H' D (.lst ys),?_,rfl,fin D nD⟩⟩;exact(I5.unpinned (pl:=[(C,oC)])).turned (t':=s'.toks) (it:=C) (λb o hb e=>hs'.extBut b o hb e) fpC.1 fpC.2.1 fpC.2.2.2.1 fpC.2.2.2.2.1 fpC.2.2.2.2.2
theorem Es{i:Nat}{y:aR}{py spos:dm}(hN:X.N.Nodup)(hy:X.N[i]?=aA y)(hloc:X.env.scope.names.lookup y=aA .local)(hcalm:X.calm=aC)(hi:PI X tg iter wi)(S:CompScope X.N X.env.scope scope own fr ix)
  (hg:∀cl C s H ex,PG (Zz X (own++fr) scope cl C s H ex) tg g) (ht:∀cl C s H ex,K0 (Zz X (own++fr) scope cl C s H ex) mW tt) (he:∀cl C s H ex,PE (Zz X (own++fr) scope cl C s H ex) mX te)
  (hsw:dX (.ListComp mX [⟨tg,iter,mW,0⟩] scope pos) (aA (.Name y py)) spos.line X.env=pure aC:=by rfl)
  (hs:∀x,bw iter X.env x=pure x:=by intro _;rfl):PS X (.Assign [.Name y py] (.ListComp mX [⟨tg,iter,mW,0⟩] scope pos) spos) (Mn (OV own.length ix wi g tt te) (Sw i)):=by
 intro m3 s σ H D0 I h;rw[jl _ _ _ _ hsw];refine aF (fO (aF ?_));show aZ _ X.A (do let _ <-comprehension (.ListComp mX [⟨tg,iter,mW,0⟩] scope pos) scope X.env _ (newList []) aB (eval iter X.env) (aA (assign (.Name y py) X.env))) _ _ s
 refine aF (ay (gH (cl:=Yv X.env.cells scope.names []) (use:=aA (assign (.Name y py) X.env)) (Q:=λ_ s'=>SP X m3 D0 .next s') (E:=X.xe) rfl hs (Uu (S.clos I)) S.kind S.names
  (YD (hi m3 s σ H _ I h) λv s1 h1=>YD h1 λitv s2 h2=>?_)) (λ_ s' hq=>aa (aa hq)) λ_ _ e=>e)
 obtain⟨it,fp,tn,J,H2,e,I2,T,st2,f2,W,⟨m0,w0⟩,turn⟩:=h2;subst e;refine Pk (Fin:=λys H=>∀p,H p=none->Sw i (.ref p) σ (upd H p (.lst ys)) D0.nx) (RR:=λacc C=>compPost (model X.prog X.w) X.A X.xe (aA (assign (.Name y py) X.env)) (λ_ s'=>SP X m3 D0 .next s') acc C) hcalm S hg ht he I2 T st2 f2 w0 turn ?_;intro D C oC m s' H' ys I5 hoC hn fpC nD fin;show aZ _ X.A (assign (.Name y py) X.env (.ref D)) _ _ _;refine i8 (VN I5 hN hy (.inl hloc) (v:=.ref D) rfl (λs6 I6=>?_) (.inr hloc));obtain⟨e6,_⟩:=I6.pin (C,oC) (ag _ (ag _ a9));obtain⟨o',es,ep,ho',r'⟩:=hn;rw[hoC] at ho';cases ho';refine⟨m,⟨oC,es,ep,e6,r'⟩,λh' hs'=>⟨_,upd H' D (.lst ys),?_,fin D nD⟩⟩;exact(I6.unpinned (pl:=[(C,oC)])).turned (t':=s6.toks) (it:=C) (λb o hb e=>hs'.extBut b o hb e) fpC.1 fpC.2.1 fpC.2.2.2.1 fpC.2.2.2.2.1 fpC.2.2.2.2.2
end
open AutoSeq1 (wpAny_loadPart')
section
variable {prog:bC} {w:b6} {A:b5} {E:aE->aI->Prop} {s:aI}
theorem Ri{it l:aH}{i:Nat}{items}{x:aE}{Q:aE->aI->Prop}(hit:s.heap.IsTupleIter it l i)
  (hl:s.heap.IsTuple l items) (hx:items[i]?=aA x)
  (hQ:∀h',h'.IsTupleIter it l (i+1)->gD it s.heap h'->Q x { s with heap:=h' }) :
  aZ (model prog w) A (eT (.ref it)) Q E s:=by
 obtain⟨o,ho,hc,hd⟩:=id hit;obtain⟨ol,hol,_,nl,hdl⟩:=hl;unfold eT
 refine aF (fD (name:=cN "__next__") hit.typeIs F.slot_tuple_iterator_next
  (fE F.slot_tuple_iterator_next hit.typeIs F.entry_tuple_iterator_next ?_ (F.args_tuple_iterator_next_1 _)))
 show aZ _ _ (field (.ref it) 0 >>= _) _ _ s;refine aF (cg ho hd (x:=.ref l) rfl ?_);show aZ _ _ (if(bF l==bJ)=aC then _ else _) _ _ s;rw[ma (show ¬((bF l==bJ)=aC) from a0)];show aZ _ _ (field (.ref it) 1 >>= _) _ _ s;refine aF (cg ho hd (x:=.int i 0) rfl ?_);show aZ _ _ (seqItems? (.ref l) >>= _) _ _ s;refine aF (wpAny_seqItems hol hdl ?_);simp only[cK,hx];refine aF (dQ ho hd (by simp) (aa ⟨x,rfl,aa (hQ _ ?_ (gG ..))⟩));exact⟨_,bo _ ho (cw (bY hd _)),(fY ..).trans hc,by rw[bY hd];simp[eE]⟩
theorem R9{it l:aH}{i:Nat}{items}{Q:aE->aI->Prop}(hh:A.handled=none)
  (hit:s.heap.IsTupleIter it l i) (hl:s.heap.IsTuple l items) (hx:items[i]?=none)
  (hE:∀h' e,lT it s.heap h'->(∃o,h'.get? e=aA o/\o.cls = .type "StopIteration")->E (.ref e) { s with heap:=h' }) :
  aZ (model prog w) A (eT (.ref it)) Q E s:=by
 obtain⟨o,ho,hc,hd⟩:=id hit;obtain⟨ol,hol,_,nl,hdl⟩:=hl;unfold eT
 refine aF (fD (name:=cN "__next__") hit.typeIs F.slot_tuple_iterator_next
  (fE F.slot_tuple_iterator_next hit.typeIs F.entry_tuple_iterator_next ?_ (F.args_tuple_iterator_next_1 _)))
 show aZ _ _ (field (.ref it) 0 >>= _) _ _ s;refine aF (cg ho hd (x:=.ref l) rfl ?_);show aZ _ _ (if(bF l==bJ)=aC then _ else _) _ _ s;rw[ma (show ¬((bF l==bJ)=aC) from a0)];show aZ _ _ (field (.ref it) 1 >>= _) _ _ s;refine aF (cg ho hd (x:=.int i 0) rfl ?_);show aZ _ _ (seqItems? (.ref l) >>= _) _ _ s;refine aF (wpAny_seqItems hol hdl ?_);simp only[cK,hx];refine aF (wpAny_rule (aF (dQ ho hd (by simp) ?_)));show aZ _ _ (newExc (.type "StopIteration") [] >>= _) _ _ _;refine aF ?_;simp only[newExc,newTuple];refine aF (dN ?_ (by size_fits));refine aF (m:=iS _ _) (wpAny_of_eq (a:=bJ) (by first | rfl | (simp only[iS];rfl)) ?_);refine dN ?_ (by size_fits);simp only[raiseNew];refine aF (wpAny_handled ?_)
 first | rw[show A.in1.handled=none from hh] | rw[hh]
 refine aF (aa (lU ?_));exact hE _ _ (((gG ..).extBut.push _).push _) ⟨_,bD _ rfl,rfl⟩
end
def SeqB(b:Bool)(h:bV)(a:aH)(mY:Array aE):Prop:=if b=aC then h.IsList a mY else h.IsTuple a mY
def IterB(b:Bool)(h:bV)(it a:aH)(i:Nat):Prop:=if b=aC then h.IsListIter it a i else h.IsTupleIter it a i
def HA(b:Bool)(K:aG)(H:Hp)(a:aH)(xs:List V):Prop:=if b=aC then SqL K H a xs else SqT K H a xs
def Pl(b:Bool)(a:aH):ck:={ cls:=.type (if b=aC then "list_iterator" else "tuple_iterator"),data:=.fields #[.ref a,.int 0 0] }
theorem SeqB.at{b:Bool}{h h':bV}{a:aH}{mY:Array aE}(x:SeqB b h a mY)(k:∀o,h.get? a=aA o->h'.get? a=aA o):SeqB b h' a mY:=by
 cases b with
 | true=>obtain⟨o,e,r⟩:=(show h.IsList a mY from x);exact⟨o,k o e,r⟩
 | false=>obtain⟨o,e,r⟩:=(show h.IsTuple a mY from x);exact⟨o,k o e,r⟩
theorem SeqB.has{b:Bool}{h:bV}{a:aH}{mY:Array aE}(x:SeqB b h a mY):∃o,h.get? a=aA o:=by
 cases b with
 | true=>obtain⟨o,e,r⟩:=(show h.IsList a mY from x);exact⟨o,e⟩
 | false=>obtain⟨o,e,r⟩:=(show h.IsTuple a mY from x);exact⟨o,e⟩
theorem IterB.at{b:Bool}{h h':bV}{it a:aH}{i:Nat}(x:IterB b h it a i)(k:∀o,h.get? it=aA o->h'.get? it=aA o):IterB b h' it a i:=by
 cases b with
 | true=>obtain⟨o,e,r⟩:=(show h.IsListIter it a i from x);exact⟨o,k o e,r⟩
 | false=>obtain⟨o,e,r⟩:=(show h.IsTupleIter it a i from x);exact⟨o,k o e,r⟩
theorem IterB.has{b:Bool}{h:bV}{it a:aH}{i:Nat}(x:IterB b h it a i):∃o,h.get? it=aA o/\∀v,o.data≠.cell v:=by
 cases b with
 | true=>obtain⟨o,e,_,d⟩:=(show h.IsListIter it a i from x);exact⟨o,e,λv z=>by rw[d] at z;cases z⟩
 | false=>obtain⟨o,e,_,d⟩:=(show h.IsTupleIter it a i from x);exact⟨o,e,λv z=>by rw[d] at z;cases z⟩
theorem IterB.new{b:Bool}{h:bV}{it a:aH}(e:h.get? it=aA (Pl b a)):IterB b h it a 0:=by
 cases b with
 | true=>exact⟨_,e,rfl,rfl⟩
 | false=>exact⟨_,e,rfl,rfl⟩
section
variable {X:Cx} {m3:List (aH×ck)} {σ:St} {H:Hp} {s:aI} {a:aH} {xs ys:List V} {b:Bool}
theorem Inv.seqB(I:Inv X m3 σ H s)(h:HA b X.K H a xs):∃mY:List aE,Vals xs mY/\SeqB b s.heap a mY.toArray/\xs.length<=sizeLine:=by
 cases b with
 | true=>
  obtain⟨mY,r,p,z⟩:=I.list (show SqL X.K H a xs from h);exact⟨mY,r,p.isList,z⟩
 | false=>
  obtain⟨mY,r,p,z⟩:=I.tuple (show SqT X.K H a xs from h);exact⟨mY,r,p,z⟩
theorem Inv.seqB_inj(I:Inv X m3 σ H s)(h:HA b X.K H a xs)(h':HA b X.K H a ys):xs=ys:=by
 cases b with
 | true=>exact I.list_inj (show SqL X.K H a xs from h) (show SqL X.K H a ys from h')
 | false=>exact I.tuple_inj (show SqT X.K H a xs from h) (show SqT X.K H a ys from h')
end
theorem Draws.seq{prog:bC}{w:b6}{A:b5}(b:Bool)(hh:A.handled=none)(it l:aH)(hne:l≠it)(items:Array aE) :
  Draws prog w A it [it,l] items.size (λi v=>items[i]?=aA v) (λi h=>IterB b h it l i/\SeqB b h l items) where
 live:=λ_ _ st=>let⟨o,ho,_⟩:=st.1.has;⟨o,ho⟩
 frame:=λ_ _ _ st hk=>⟨st.1.at λo e=>hk it (by simp) o e,st.2.at λo e=>hk l (by simp) o e⟩
 item:=λi s Q E hi st hQ=>by
  cases b with
  | true=>
   refine wpAny_nextOf_list_item (show s.heap.IsListIter it l i from st.1) (show s.heap.IsList l items from st.2) (x:=items[i]) (by simp[hi]) λh' hit' hs'=>?_;exact hQ _ h' s.toks (by simp[hi]) ⟨hit',st.2.at λo e=>hs'.extBut l o hne e⟩ hs'
  | false=>
   refine Ri (show s.heap.IsTupleIter it l i from st.1) (show s.heap.IsTuple l items from st.2) (x:=items[i]) (by simp[hi]) λh' hit' hs'=>?_;exact hQ _ h' s.toks (by simp[hi]) ⟨hit',st.2.at λo e=>hs'.extBut l o hne e⟩ hs'
 done:=λs Q E st hE=>by
  cases b with
  | true=>exact wpAny_nextOf_list_end hh (show s.heap.IsListIter it l _ from st.1) (show s.heap.IsList l items from st.2) (by simp) hE
  | false=>exact R9 hh (show s.heap.IsTupleIter it l _ from st.1) (show s.heap.IsTuple l items from st.2) (by simp) hE
theorem Va{prog:bC}{w:b6}{A:b5}{E:aE->aI->Prop}{s:aI}{b:Bool}{a:aH}{mY:Array aE}{Q:aE->aI->Prop}(h:SeqB b s.heap a mY)
  (hQ:Q (.ref s.heap.objs.size) { s with heap:=s.heap.push (Pl b a) }):aZ (model prog w) A (lG (.ref a)) Q E s:=by
 cases b with
 | true=>exact wpAny_pyIter_list (show s.heap.IsList a mY from h) hQ
 | false=>exact wpAny_pyIter_tuple (show s.heap.IsTuple a mY from h) hQ
set_option maxHeartbeats 4000000 in
theorem Pm(b:Bool)(l:aH)(items:Array aE) :
  Meets (Builtin.«enumerate.__new__» ⟨[.type "enumerate",.ref l],[]⟩) (λ_ R s=>SeqB b s.heap l items/\
   R (.ok (.ret (.ref (s.heap.push (Pl b l)).objs.size)))
    { s with heap:=(s.heap.push (Pl b l)).push { cls:=.type "enumerate",data:=.fields #[.none,.bool aB,.ref s.heap.objs.size,eE 0,.none,.none] } }):=
 .of_wp λprog w A R s h=>by
  obtain⟨hp,g,d,tk,os⟩:=s;obtain⟨hl,h⟩:=h;have hsub:=sub_enumerate;obtain⟨o,ho⟩:=hl.has;have hL:SeqB b (aI.heap ⟨hp,g,d,tk,os⟩) l items:=hl
  wp_walk using hV ho
  refine wpAny_stack_any λst=>aa ?_;split
  ·rename_i c _ _ _ _ _;cases (c==kZ "enumerate")
   ·wp_walk using hV ho,Va hL
    exact⟨_,rfl,h⟩
   ·wp_walk using hV ho,Va hL
    exact⟨_,rfl,h⟩
  ·wp_walk using hV ho,Va hL
   exact⟨_,rfl,h⟩
section
variable {prog:bC} {w:b6} {A:b5} {E:aE->aI->Prop} {s:aI}
theorem OB{b:Bool}{l:aH}{items:Array aE}{Q:aE->aI->Prop}(hL:SeqB b s.heap l items)
  (h:∀h',IsEnum h' (s.heap.objs.size+1) s.heap.objs.size 0 .none->IterB b h' s.heap.objs.size l 0->h'.objs.size=s.heap.objs.size+2->
   (∀b o,s.heap.get? b=aA o->h'.get? b=aA o)->Q (.ref (s.heap.objs.size+1)) { s with heap:=h' }) :
  aZ (model prog w) A (call (.type "enumerate") [.ref l]) Q E s:=by
 refine callType_new F.called_enumerate (by decide) (F.typeCall_enumerate_1 _) (F.newCall_enumerate_1 _) (λobj=>F.args_object_init_2 obj _) F.entry_enumerate_new
  (Pm b l items) ⟨hL,?_⟩
 have hz:(s.heap.push (Pl b l)).objs.size=s.heap.objs.size+1:=gY ..;show _/\_;rw[hz]
 have he:IsEnum ((s.heap.push (Pl b l)).push
   { cls:=.type "enumerate",data:=.fields #[.none,.bool aB,.ref s.heap.objs.size,eE 0,.none,.none] }) (s.heap.objs.size+1) s.heap.objs.size 0 .none:=by
  have:=bD (s.heap.push (Pl b l))
   (o:={ cls:=.type "enumerate",data:=.fields #[.none,.bool aB,.ref s.heap.objs.size,eE 0,.none,.none] }) rfl
  rw[hz] at this;exact this
 refine⟨⟨_,he,rfl⟩,h _ he (IterB.new (aM _ (bD _ rfl))) (by rw[gY,hz]) λb o x=>aM _ (aM _ x)⟩
end
def Ite(b:Bool)(K:aG)(a:aH):It:=
  ⟨λi H=>∃xs x,HA b K H a xs/\xs[i]?=aA x,
   λi H v H'=>∃p x,H p=none/\v = .ref p/\H'=upd H p (.tup [.int i,x])/\∀xs,HA b K H a xs->xs[i]?=aA x,
   λi H=>∃xs,HA b K H a xs/\xs.length=i⟩
theorem Ie{P:bC}{w:b6}{K:aG}{elts:List aw}{k:Nat}{pos:dm}(b:Bool)(a e it:aH)(hei:e≠it) :
  Mo P w K (.Tuple elts k pos) (Ite b K a) [e,it] e (λi h=>(∃old,IsEnum h e it i old)/\IterB b h it a i) where
 mem:=by simp
 obj:=λi h st c hc=>by
  rcases aV.mp hc with rfl | hc
  ·obtain⟨⟨old,q⟩,_⟩:=st;exact⟨_,q,λv z=>by cases z⟩
  ·rw[aP.mp hc];exact st.2.has
 keep:=λi h h' st kk=>⟨let⟨old,q⟩:=st.1;⟨old,kk e (by simp) _ q⟩,st.2.at λo q=>kk it (by simp) o q⟩
 item:=by
  intro X hP hw hK hc i m3 s σ H E I hf st hg;subst hP hw hK;obtain⟨xs,x,hq,hx⟩:=hg;obtain⟨mY,rv,p,hz⟩:=I.seqB hq;obtain⟨u,hu,ru⟩:=rv.get hx;obtain⟨⟨old,he⟩,hit⟩:=st;have fe:=hf e (by simp);have fi:=hf it (by simp);obtain⟨oa,hoa⟩:=p.has;have tra:H a=none->a<X.s₀.heap.objs.size\/True:=λ_=>.inr trivial
  -- the sequence is neither record
  have ne_of_fp:∀c,Ti X m3 H c->(∃oc,s.heap.get? c=aA oc/\∃n vs,oc.cls = .type n/\oc.data = .fields vs)->a≠c:=λc _ ⟨oc,hoc,n,vs,hn,hv⟩ z=>by
   subst z;rw[hoa] at hoc;cases hoc
   cases b with
   | true=>obtain⟨o,e1,_,m,d⟩:=(show s.heap.IsList a mY.toArray from p);rw[hoa] at e1;cases e1;rw[hv] at d;cases d
   | false=>obtain⟨o,e1,_,m,d⟩:=(show s.heap.IsTuple a mY.toArray from p);rw[hoa] at e1;cases e1;rw[hv] at d;cases d
  have ae:a≠e:=ne_of_fp e fe ⟨_,he,_,_,rfl,rfl⟩
  have ai:a≠it:=ne_of_fp it fi (by
   cases b with
   | true=>obtain⟨o,e1,c1,d1⟩:=(show s.heap.IsListIter it a i from hit);exact⟨o,e1,_,_,c1,d1⟩
   | false=>obtain⟨o,e1,c1,d1⟩:=(show s.heap.IsTupleIter it a i from hit);exact⟨o,e1,_,_,c1,d1⟩)
  have D:=Draws.seq (prog:=X.prog) (w:=X.w) (A:=X.A.in1) b (I.ok.hd hc) it a ai mY.toArray;have hlt:i<mY.toArray.size:=by have:=(aL.mp hu).1;simpa using this
  refine wpAny_pyNext_enum_itemD D he ⟨hit,p⟩ hlt hei (by simp[hei,cJ ae]) λy h' tk hPy ho hs' hT hsz hk=>?_
  have ey:y=u:=by
   have q1:mY.toArray[i]?=aA y:=hPy;have q2:mY.toArray[i]?=aA u:=by simpa using hu
   rw[q1] at q2;exact bU q2
  subst ey;refine⟨_,rfl,wpAny_letOwnedTupleGo_enum ho λh2 he2 hs2=>?_⟩;have hs2:gD e h' h2:=hs2;have Tne:s.heap.objs.size≠e:=gV (aT he);have hTn:H s.heap.objs.size=none:=I.hok.fresh (ar _);have kk:∀c o,c∉[e,it]->s.heap.get? c=aA o->h2.get? c=aA o:=λc o hc' q=>hs2.extBut c o (λz=>hc' (by simp[z])) (hk c o (λz=>hc' (by simp[z])) (λz=>hc' (by simp[z])) q);have hT2:h2.get? s.heap.objs.size=aA { cls:=.type "tuple",data:=.seq #[.int i tk,y] }:=hs2.extBut _ _ Tne hT;have hcs:∀c∈[e,it],(c∈X.ex\/X.s₀.heap.objs.size<=c)/\c≠X.env.locals/\(∀x d,X.env.cells.lookup x=aA d->d≠c)/\∀p∈X.pn++m3,p.1≠c:=λc hc'=>by have f:=hf c hc';exact⟨f.2.2.2.1,f.2.1,f.2.2.2.2.1,f.2.2.2.2.2⟩
  have nfp:∀c u',H c=aA u'->c∉[e,it]:=λc u' q hc'=>by rw[(hf c hc').1] at q;cases q
  have hok0:HOk X.prog X.w H h2:=λc u' q=>(I.hok c u' q).stay (λd v hd q'=>kk d v (by
    rcases hd with z | z
    ·rw[z];exact nfp c u' q
    ·exact nfp d _ z) q') (λ_ z=>z) λ_ _ z=>z
  have new:ObjOk X.prog X.w (upd H s.heap.objs.size (.tup [.int i,x])) h2 s.heap.objs.size (.tup [.int i,x]):=
   ⟨by show 2<=sizeLine;decide,[.int i tk,y],.cons ⟨tk,rfl⟩ (.cons ru .nil),⟨_,hT2,rfl,_,rfl⟩⟩
  have hok1:HOk X.prog X.w (upd H s.heap.objs.size (.tup [.int i,x])) h2:=λc u' q=>by
   by_cases hb:c=s.heap.objs.size
   ·subst hb;rw[upd_same] at q;cases q;exact new
   ·rw[upd_ne hb] at q;exact(hok0 c u' q).stay (λd v _ q'=>q') (λd z=>by rw[upd_ne (ZJ z hTn)];exact z) λd zs z=>by rw[upd_ne (ZJ z hTn)];exact z
  have un:Un (Nz X.stack) [e,it] H (upd H s.heap.objs.size (.tup [.int i,x])) s.heap h2:=by
   refine⟨λc o q _ _ hx'=>kk c o hx' q,λc o q _ _ hx'=>⟨o.slots,kk c o hx' q⟩,λc o q n _=>?_,λc o q hx'=>⟨o,kk c o hx' q⟩,λc zs q=>?_,λc o zs q=>?_,λc ps q=>⟨#[],?_⟩⟩
   ·rw[upd_ne (bO (aT q))];exact n
   ·rw[upd_ne (ZJ q hTn)];exact q
   ·rw[upd_ne (ZJ q hTn)];exact q
   ·rw[upd_ne (ZJ q hTn),q];simp
  have I2:Inv X m3 σ (upd H s.heap.objs.size (.tup [.int i,x])) { s with heap:=h2,toks:=tk+1 }:=I.call (g':=s.gens) (d':=s.drawn) un hok1 I.bare hcs;refine⟨.ref s.heap.objs.size,upd H s.heap.objs.size (.tup [.int i,x]),I2,rfl,⟨_,x,hTn,rfl,rfl,λzs hzs=>by rw[I.seqB_inj hzs hq];exact hx⟩,⟨⟨y,by simpa using he2⟩,?_⟩,λc hc'=>?_⟩
  ·exact hs'.1.at λo q=>hs2.extBut it o (cJ hei) q
  ·rw[upd_ne (bO (by
    rcases aV.mp hc' with rfl | hc'
    ·exact aT he
    ·rw[aP.mp hc'];obtain⟨o,q,_⟩:=hit.has;exact aT q))]
   exact(hf c hc').1
 done:=by
  intro X hP hw hK hc i m3 s σ H E I hf st hg;subst hP hw hK;obtain⟨xs,hq,hx⟩:=hg;obtain⟨mY,rv,p,hz⟩:=I.seqB hq;obtain⟨⟨old,he⟩,hit⟩:=st;have fi:=hf it (by simp);obtain⟨oa,hoa⟩:=p.has
  have ai:a≠it:=λz=>by
   subst z
   cases b with
   | true=>
    obtain⟨o,e1,_,m,d⟩:=(show s.heap.IsList a mY.toArray from p);obtain⟨o',e2,_,d2⟩:=(show s.heap.IsListIter a a i from hit);rw[e1] at e2;cases e2;rw[d] at d2;cases d2
   | false=>
    obtain⟨o,e1,_,m,d⟩:=(show s.heap.IsTuple a mY.toArray from p);obtain⟨o',e2,_,d2⟩:=(show s.heap.IsTupleIter a a i from hit);rw[e1] at e2;cases e2;rw[d] at d2;cases d2
  have D:=Draws.seq (prog:=X.prog) (w:=X.w) (A:=X.A.in1) b (I.ok.hd hc) it a ai mY.toArray;have hl:=rv.length;have hi:i=mY.toArray.size:=by simp;omega
  refine wpAny_pyNext_enum_endD D he (by rw[<-hi];exact⟨hit,p⟩) λh' hx'=>⟨rfl,?_⟩;obtain⟨f0,f1,f2,f3,f4,f5⟩:=fi;exact I.turned (t':=s.toks) (λc o hb q=>hx' c o hb q) f0 f1 f3 f4 f5
 self:=λA i s Q E st hQ=>by obtain⟨⟨old,he⟩,_⟩:=st;exact wpAny_pyIter_enum he hQ
end L2
namespace L2
open PySem PySem.Spec PyProof.Rows
section
variable {X:Cx}
def AU(b:Bool)(K:aG)(ta:TA):TI:=λσ H R=>ta σ H λvs H1=>∃a,vs=[.ref a]/\(∃xs,HA b K H1 a xs)/\R (Ite b K a) H1
theorem Et{elts:List aw}{k:Nat}{tpos:dm}(b:Bool){a:aw}{ta:TA}{p pos:dm}(hg:Gl X "enumerate")(hm:X.mg "enumerate" = none)(ha:PA X [a] ta)(hs:aO [a] X.env=[(aB,eval a X.env)]:=by rfl) :
  PI X (.Tuple elts k tpos) (.Call (.Name "enumerate" p) [a] [] pos) (AU b X.K ta):=by
 intro m3 s σ H R I h;refine Call_ (R3 I hg hm (by decide +kernel:eD "enumerate" = aA (.type "enumerate")) (eF (YD (ha pos m3 s σ H _ I h) λus s1 ⟨vs,H1,I1,r1,q1⟩=>?_) hs rfl));obtain⟨a,e,⟨xs,hq⟩,q⟩:=q1;subst e
 cases r1 with
 | cons r rr=>
  cases rr;cases r;obtain⟨mY,rv,hseq,hz⟩:=I1.seqB hq;refine OB hseq λh' he hit hsz hk=>?_;refine wpAny_pyIter_enum he ?_;have I2:Inv X m3 σ H1 { s1 with heap:=h' }:=I1.kept (t':=s1.toks) hk;have ne:s1.heap.objs.size+1≠s1.heap.objs.size:=gV (jM _);refine⟨s1.heap.objs.size+1,[s1.heap.objs.size+1,s1.heap.objs.size],_,_,H1,rfl,I2,Ie b a (s1.heap.objs.size+1) s1.heap.objs.size ne,⟨⟨.none,he⟩,hit⟩,λc hc=>?_,q⟩;rcases aV.mp hc with rfl | hc
  ·exact I1.fpOk (kB _) (I1.hok.fresh (kB _))
  ·rw[aP.mp hc];exact I1.fpOk (ar _) (I1.hok.fresh (ar _))
end
section
variable {prog:bC} {w:b6} {A:b5} {E:aE->aI->Prop} {s:aI}
theorem NI{d:aH}{o:ck}{es:Array jL}{ep:Nat}{Q:aE->aI->Prop}(hd:(d==eh)=aB)(ho:s.heap.get? d=aA o)(hc:o.ExactDict)(hdat:o.data = .dict es ep)
  (hQ:Q (.ref s.heap.objs.size) { s with heap:=s.heap.push { cls:=.type "dict_keyiterator",data:=.fields #[.ref d,.int 0 0,.int es.size 0,.int ep 0] } }) :
  aZ (model prog w) A (lG (.ref d)) Q E s:=by
 have hT:s.TypeIs (.ref d) "dict":=⟨o,ho,hc.1⟩;refine wpAny_pyIter_slot hT F.slot_dict_iter (fE F.slot_dict_iter hT F.entry_dict_iter ?_ (F.args_dict_iter_1 _));unfold Builtin.«dict.__iter__»;refine aF ?_;unfold Builtin.Dict.dictSlotNone;refine aF (wpAny_notOrdered_dict hT ?_);show aZ _ _ (pure (bF d)) _ _ s;refine aa ?_;show aZ _ _ (jm d >>= _) _ _ s;unfold jm;rw[ma (by rw[hd];exact a0)];refine aF (aa ?_);refine aF (ig ho hdat ?_);refine aF (je ho hdat ?_);refine aF (dN (aa ⟨_,rfl,"dict_keyiterator",_,⟨_,bD _ rfl,rfl⟩,F.slot_dict_keyiterator_next.lookup,?_⟩));simpa [eE] using hQ
theorem Rj{it d:aH}{i ep:Nat}{od:ck}{es:Array jL}{e:jL}{Q:Option aE->aI->Prop}(hit:s.heap.IsKeyIter it d i es.size ep)
  (hod:s.heap.get? d=aA od) (hdd:od.data = .dict es ep) (hx:es[i]?=aA e)
  (hQ:∀h',h'.IsKeyIter it d (i+1) es.size ep->gD it s.heap h'->Q (aA e.key) { s with heap:=h' }) :
  aZ (model prog w) A (k4 (.ref it)) Q E s:=by
 obtain⟨o,ho,hc,hd⟩:=id hit;unfold k4
 refine aF (jB (fD (name:=cN "__next__") hit.typeIs F.slot_dict_keyiterator_next
  (fE F.slot_dict_keyiterator_next hit.typeIs F.entry_dict_keyiterator_next ?_ (F.args_dict_keyiterator_next_1 _))))
 refine aF (aa ?_);refine aF ?_;refine aF ?_
 first | refine aF (dh hit.typeIs (aa ?_)) | refine aF (el hit.typeIs (aa ?_))
 refine aF (wpAny_fieldsOf ho hd ?_);have hown:hZ "dict_keyiterator" = aB:=by decide
 simp only[hown,bS,if_false];show aZ _ _ (if(bF d==bJ)=aC then _ else _) _ _ s;rw[ma (show ¬((bF d==bJ)=aC) from a0)];refine aF (aa ?_);refine aF (ig hod hdd ?_);rw[ma (by simp)];refine aF (aa ?_);refine aF (je hod hdd ?_);rw[ma (by simp)];refine aa ?_;obtain⟨hlt',he⟩:=bZ.mp hx;subst he;simp only[show ¬((i:Int)<0) from by omega,if_false,cK,iY hlt'];refine aF ?_
 first | refine aF (dh hit.typeIs (aa ?_)) | refine aF (el hit.typeIs (aa ?_))
 refine aF (jn hit.typeIs ?_);show aZ _ _ (setField (.ref it) 1 (eE ((i:Int)+1)) >>= _) _ _ s;refine aF (dQ ho hd (by simp) ?_)
 have hit':(s.heap.update it (bq (·.setIfInBounds 1 (eE ((i:Int)+1))))).IsKeyIter it d (i+1) es.size ep:=
  ⟨_,bo _ ho (cw (bY hd _)),(fY ..).trans hc,by rw[bY hd];simp[eE]⟩
 refine aF (dY ?_);refine aF (jn (s:={ s with heap:=s.heap.update it (bq (·.setIfInBounds 1 (eE ((i:Int)+1)))) }) hit'.typeIs ?_);show aZ _ _ (pure es[i].key) _ _ _;exact aa (aa ⟨_,rfl,aa (hQ _ hit' (gG ..))⟩)
theorem Qb{it d:aH}{ep:Nat}{od:ck}{es:Array jL}{Q:Option aE->aI->Prop}(hh:A.handled=none)(hit:s.heap.IsKeyIter it d es.size es.size ep)
  (hod:s.heap.get? d=aA od) (hdd:od.data = .dict es ep)
  (hQ:∀h',lT it s.heap h'->Q none { s with heap:=h' }):aZ (model prog w) A (k4 (.ref it)) Q E s:=by
 obtain⟨o,ho,hc,hd⟩:=id hit;unfold k4
 refine aF (jB (fD (name:=cN "__next__") hit.typeIs F.slot_dict_keyiterator_next
  (fE F.slot_dict_keyiterator_next hit.typeIs F.entry_dict_keyiterator_next ?_ (F.args_dict_keyiterator_next_1 _))))
 refine aF (aa ?_);refine aF ?_;refine aF ?_
 first | refine aF (dh hit.typeIs (aa ?_)) | refine aF (el hit.typeIs (aa ?_))
 refine aF (wpAny_fieldsOf ho hd ?_);have hown:hZ "dict_keyiterator" = aB:=by decide
 simp only[hown,bS,if_false];show aZ _ _ (if(bF d==bJ)=aC then _ else _) _ _ s;rw[ma (show ¬((bF d==bJ)=aC) from a0)];refine aF (aa ?_);refine aF (ig hod hdd ?_);rw[ma (by simp)];refine aF (aa ?_);refine aF (je hod hdd ?_);rw[ma (by simp)];refine aa ?_;simp only[show ¬((es.size:Int)<0) from by omega,if_false,cK,Array.getElem?_eq_none (ar es.size)];refine aF ?_
 first | refine aF (dh hit.typeIs (aa ?_)) | refine aF (el hit.typeIs (aa ?_))
 show aZ _ _ (setField (.ref it) 0 .none >>= _) _ _ s;refine aF (dQ ho hd (by simp) ?_);show aZ _ _ (newExc (.type "StopIteration") [] >>= _) _ _ _;refine aF ?_;simp only[newExc,newTuple];refine aF (dN ?_ (by size_fits));refine aF (m:=iS _ _) (wpAny_of_eq (a:=bJ) (by first | rfl | (simp only[iS];rfl)) ?_);refine dN ?_ (by size_fits);simp only[raiseNew];refine aF (wpAny_handled ?_);rw[show A.in1.handled=none from hh];refine aF (aa (lU ?_));refine aF (wpAny_isInstance (T:="StopIteration") (b:=aC) ⟨_,bD _ rfl,rfl⟩ isSubtype_stop ?_);exact aa (hQ _ (((gG ..).extBut.push _).push _))
end
def Bh(d:aH)(o:ck)(m4:List (List Xp×V)):It:=
  ⟨λi H=>H d=aA (.frz o (.dT m4))/\i<m4.length,
   λi H v H'=>H'=H/\∃b k y,m4[i]?=aA (k,y)/\v = .ref b/\H b=aA (.tup (k.map kV)),
   λi H=>H d=aA (.frz o (.dT m4))/\i=m4.length⟩
theorem KT.get{H:Hp}:∀{m4:List (List Xp×V)}{xs:List (List Xp×aH×aE)}{i:Nat}{p:List Xp×V},KT H m4 xs->m4[i]?=aA p->∃q,xs[i]?=aA q/\p.1=q.1/\H q.2.1=aA (.tup (p.1.map kV))/\RelV p.2 q.2.2
 | _,_,_,_,.nil,e=>by simp at e
 | _,_,0,_,.cons r _,e=>by simp at e;subst e;exact⟨_,rfl,r⟩
 | _,_,i+1,p,.cons _ t,e=>by obtain⟨q,h1,h2⟩:=KT.get (i:=i) (p:=p) t (by simpa using e);exact⟨q,by simpa using h1,h2⟩
theorem Ig{P:bC}{w:b6}{K:aG}{tg:aw}(d it:aH)(o:ck)(es:Array jL)(ep:Nat)(m4:List (List Xp×V))(ho:o.data = .dict es ep)(hlen:es.size=m4.length) :
  Mo P w K tg (Bh d o m4) [it] it (λi h=>h.IsKeyIter it d i es.size ep) where
 mem:=by simp
 obj:=λi h st b hb=>by rw[aP.mp hb];obtain⟨o,e,c,q⟩:=st;exact⟨o,e,λv z=>by rw[q] at z;cases z⟩
 keep:=λi h h' st k=>by obtain⟨o,e,r⟩:=st;exact⟨o,k it (by simp) o e,r⟩
 item:=by
  intro X hP hw hK hc i m3 s σ H E I hf st hg;subst hP hw hK;obtain⟨hd,hi⟩:=hg;obtain⟨e1,z,y,xs,r,o',es',ep',h1,h2,h3,h4,h5⟩:=(show ObjOk X.prog X.w H s.heap d (.frz o (.dT m4)) from I.hok d _ hd);rw[e1] at h1;cases h1;rw[ho] at h3;cases h3;have hk:m4[i]?=aA m4[i]:=aK hi;obtain⟨q,hq,eq,hb,rv⟩:=KT.get r hk;have he:es[i]?=aA (entryOfKey (jI (Xr X.prog X.w)) q):=by have:=congrArg (λl=>l[i]?) h4;simp only[aS,hq,av] at this;simpa using this
  obtain⟨f0,f1,f2,f3,f4,f5⟩:=hf it (by simp);refine Rj st e1 ho he λh' st' sb=>?_;have I1:Inv X m3 σ H { s with heap:=h' }:=I.turned (t':=s.toks) (λb o hb e=>(sb.2 b hb).trans e) f0 f1 f3 f4 f5;obtain⟨o2,e2,c2,d2⟩:=id st';exact⟨_,rfl,KO (s:={ s with heap:=h' }) e2 c2 d2 (by decide) ⟨.ref q.2.1,H,I1,rfl,⟨rfl,q.2.1,_,_,hk,rfl,hb⟩,st',λb hb=>(hf b hb).1⟩⟩
 done:=by intro X hP hw hK hc i m3 s σ H E I hf st hg;subst hP hw hK;obtain⟨hd,hi⟩:=hg;obtain⟨e1,_⟩:=(show ObjOk X.prog X.w H s.heap d (.frz o (.dT m4)) from I.hok d _ hd);obtain⟨f0,f1,f2,f3,f4,f5⟩:=hf it (by simp);rw[hi,<-hlen] at st;exact Qb (I.ok.hd hc) st e1 ho λh' eb=>⟨rfl,I.turned (t':=s.toks) (λb o hb e=>eb b o hb e) f0 f1 f3 f4 f5⟩
 self:=λA i s Q E st hQ=>by refine wpAny_pyIter_slot st.typeIs F.slot_dict_keyiterator_iter (fE F.slot_dict_keyiterator_iter st.typeIs F.entry_dict_keyiterator_iter ?_ (F.args_dict_keyiterator_iter_1 _));show aZ _ _ (ret (.ref it)) _ _ s;exact aa ⟨_,rfl,"dict_keyiterator",_,st.typeIs,F.slot_dict_keyiterator_next.lookup,hQ⟩
section
variable {X:Cx} {tg:aw}
theorem Inv.freeze{m3:List (aH×ck)}{σ:St}{H:Hp}{s:aI}{d:aH}{m4:List (List Xp×V)}{o:ck}(I:Inv X m3 σ H s)(hd:H d=aA (.dT m4))(ho:s.heap.get? d=aA o) :
  Inv X m3 σ (upd H d (.frz o (.dT m4))) s:=by
 have ne:∀b u,H b=aA u->(∀k,u≠.dT k)->b≠d:=λb u q n z=>by rw[z,hd] at q;exact n _ (bU q).symm
 have nn:∀b,H b=none->b≠d:=λb q z=>by rw[z,hd] at q;cases q
 have un:Un X.fs [] H (upd H d (.frz o (.dT m4))) s.heap s.heap:=
  ⟨λb o q _ _ _=>q,λb o q _ _ _=>⟨o.slots,q⟩,λb o q n _=>by rw[upd_ne (nn b n)];exact n,λb o q _=>⟨o,q⟩,
   λb xs q=>by rw[upd_ne (ne b _ q λ_ z=>nomatch z)];exact q,λb o u q=>by rw[upd_ne (ne b _ q λ_ z=>nomatch z)];exact q,λb ps q=>⟨#[],by rw[upd_ne (ne b _ q λ_ z=>nomatch z),q];simp⟩⟩
 have hok:HOk X.prog X.w (upd H d (.frz o (.dT m4))) s.heap:=λb u q=>by
  have hown:∀c y,H c=aA (.own y)->upd H d (.frz o (.dT m4)) c=aA (.own y):=λc y z=>by rw[upd_ne (ne c _ z λ_ z=>nomatch z)];exact z
  have htup:∀c xs,H c=aA (.tup xs)->upd H d (.frz o (.dT m4)) c=aA (.tup xs):=λc y z=>by rw[upd_ne (ne c _ z λ_ z=>nomatch z)];exact z
  by_cases hb:b=d
  ·subst hb;rw[upd_same] at q;cases q;exact⟨ho,(I.hok b _ hd).stay (λ_ _ _ z=>z) (λc z=>hown c _ z) htup⟩
  ·rw[upd_ne hb] at q;exact(I.hok b u q).stay (λ_ _ _ z=>z) (λc z=>hown c _ z) htup
 have:=I.un (t':=s.toks) un hok;exact this
def K1(tl:TE):TI:=λσ H R=>tl σ H λx H1=>∃d m4,x = .ref d/\((H1 d=aA (.dT m4)/\∀o,R (Bh d o m4) (upd H1 d (.frz o (.dT m4))))\/∃o,H1 d=aA (.frz o (.dT m4))/\R (Bh d o m4) H1)
theorem Rk{l:aw}{tl:TE}(hl:PE X l tl):PI X tg l (K1 tl):=by
 intro m3 s σ H R I h;refine YD (hl m3 s σ H _ I h) λv s1 ⟨x,H1,I1,r1,q1⟩=>?_;obtain⟨d,m4,e,q⟩:=q1;subst e;cases r1
 have core:∀(o:ck)(H2:Hp),Inv X m3 σ H2 s1->H2 d=aA (.frz o (.dT m4))->R (Bh d o m4) H2->aZ (model X.prog X.w) X.A (lG (.ref d)) (PIE X m3 σ tg R) X.xe s1:=λo H2 I2 e2 q2=>by
  obtain⟨e1,z,y,xs,r,o',es,ep,h1,h2,h3,h4,h5⟩:=(show ObjOk X.prog X.w H2 s1.heap d (.frz o (.dT m4)) from I2.hok d _ e2);rw[e1] at h1;cases h1;have hsz:es.size=m4.length:=by have a1:=congrArg fj h4;have a2:=Paired.length r;simp only[dw,aN] at a1;omega
  refine NI y e1 h2 h3 ?_;refine⟨s1.heap.objs.size,[s1.heap.objs.size],_,_,H2,rfl,I2.kept (t':=s1.toks) λb o e=>aM _ e,Ig d _ o es ep m4 h3 hsz,⟨_,bD _ rfl,rfl,rfl⟩,λb hb=>?_,q2⟩;rw[aP.mp hb];exact I2.fpOk (ar _) (I2.hok.fresh (ar _))
 rcases q with⟨hd,q⟩ | ⟨o,hd,q⟩
 ·obtain⟨z,y,xs,r,o,es,ep,h1,h2,h3,h4,h5⟩:=(show ObjOk X.prog X.w H1 s1.heap d (.dT m4) from I1.hok d _ hd);exact core o _ (I1.freeze hd h1) upd_same (q o)
 ·exact core o H1 I1 hd q
end
theorem Walks.seqB{prog:bC}{w:b6}{A:b5}(b:Bool)(hh:A.handled=none)(I ax:aH)(hne:ax≠I)(items:Array aE) :
  Walks prog w A I [I,ax] [I] items.size (λi v=>items[i]?=aA v) (λi h=>IterB b h I ax i/\SeqB b h ax items):=by
 cases b with
 | true=>exact Walks.list hh I ax hne items
 | false=>exact Walks.tuple hh I ax hne items
section
variable {X:Cx}
theorem call_sumR(hc:X.calm=aC):W8 X (.builtin "sum") (λxs H Q=>∃(b:Bool) (p:aH) (ns:List Int),xs=[.ref p]/\HA b X.K H p (ns.map V.int)/\Q (.int ns.sum) H):=by
 intro m3 s σ H xs us Q I r h;obtain⟨b,p,ns,rfl,hq,q⟩:=h;obtain⟨u,rfl,rx⟩:=VP r;cases rx;obtain⟨mY,rv,hseq,hz⟩:=I.seqB hq;have hp:p<s.heap.objs.size:=let⟨_,e⟩:=hseq.has;aT e;refine call_sum_walkG (Va hseq ?_);refine⟨_,_,_,_,_,_,λi=>ns.getD i 0,rfl,Walks.seqB (A:=X.A.in1) b (I.ok.hd hc) s.heap.objs.size p (bO hp) mY.toArray,⟨IterB.new (bD _ rfl),hseq.at λo e=>aM _ e⟩,λc hcm=>?_,λi v hv=>?_,λh' tk t' hk=>?_⟩
 ·show c<(s.heap.push _).objs.size;rw[gY];rcases aV.mp hcm with rfl | hcm
  ·exact jM _
  ·rw[aP.mp hcm];exact Nat.lt_succ_of_lt hp
 ·have hv:mY.toArray[i]?=aA v:=hv;have hv:mY[i]?=aA v:=by simpa using hv
  have hl:=rv.length;rw[aN] at hl;have hi:i<ns.length:=by rw[hl];exact(aL.mp hv).1
  obtain⟨u,hu,ru⟩:=rv.get (i:=i) (x:=.int ns[i]) (by rw[aS,aK hi];rfl);rw[hv] at hu;cases hu;obtain⟨t,rfl⟩:=ru;refine⟨t,?_⟩;show jG ns[i] t=jG (ns.getD i 0) t;rw[aU,aK hi];rfl
 ·have e:preSum (λi=>ns.getD i 0) mY.toArray.size=ns.sum:=by
   have hl:=rv.length;rw[aN] at hl;rw[aj,<-hl]
   have gen:∀k,k<=ns.length->preSum (λi=>ns.getD i 0) k=(ns.take k).sum:=by
    intro k
    induction k with
    | zero=>intro _;simp[preSum]
    | succ k ih=>
     intro hk;rw[preSum,ih (by omega),ij,aU,aK (by omega),lY];simp
   rw[gen _ (ar _),dF]
  rw[e];refine⟨.int ns.sum,H,I.kept (λc o hco=>hk c o ?_ (aM _ hco)),⟨_,rfl⟩,q⟩;intro hm;rw[aP.mp hm] at hco;exact absurd (aT hco) (cI _)
theorem OX(hc:X.calm=aC):W8 X (.builtin "all") (λxs H Q=>∃(b:Bool) (p:aH) (bs:List Bool),xs=[.ref p]/\HA b X.K H p (bs.map V.bl)/\Q (.bl (bs.all id)) H):=by
 intro m3 s σ H xs us Q I r h;obtain⟨b,p,bs,rfl,hq,q⟩:=h;obtain⟨u,rfl,rx⟩:=VP r;cases rx;obtain⟨mY,rv,hseq,hz⟩:=I.seqB hq;have hp:p<s.heap.objs.size:=let⟨_,e⟩:=hseq.has;aT e;have hl:=rv.length;rw[aN] at hl;refine call_all_walk (Va hseq ?_);refine⟨_,_,_,_,_,_,λi=>bs.getD i aC,rfl,Walks.seqB (A:=X.A.in1) b (I.ok.hd hc) s.heap.objs.size p (bO hp) mY.toArray,⟨IterB.new (bD _ rfl),hseq.at λo e=>aM _ e⟩,λi v s' Q' E' hv hQ=>?_,λh' tk hk=>?_⟩
 ·have hv:mY.toArray[i]?=aA v:=hv;have hv:mY[i]?=aA v:=by simpa using hv
  have hi:i<bs.length:=by rw[hl];exact(aL.mp hv).1
  obtain⟨u,hu,ru⟩:=rv.get (i:=i) (x:=.bl bs[i]) (by rw[aS,aK hi];rfl);rw[hv] at hu;cases hu;cases ru;refine bg ?_;have e:bs.getD i aC=bs[i]:=by rw[aU,aK hi];rfl
  rw[<-e];exact hQ
 ·have e:(bN mY.toArray.size).all (λi=>bs.getD i aC)=bs.all id:=by
   rw[aj,<-hl,Bool.eq_iff_iff,bB,bB];constructor
   ·intro h x hx;obtain⟨i,hi,rfl⟩:=gq.mp hx;have:=h i (bX.mpr hi);rw[aU,aK hi] at this;exact this
   ·intro h i hi;have hi:=bX.mp hi;rw[aU,aK hi];exact h _ (dG hi)
  rw[e];refine⟨.bl (bs.all id),H,I.kept (λc o hco=>hk c o ?_ (aM _ hco)),rfl,q⟩;intro hm;rw[aP.mp hm] at hco;exact absurd (aT hco) (cI _)
def K2:V->List V->Hp->VK->Prop:=λx vs H Q=>∃l xs k y,x = .ref l/\vs=[.int k,y]/\H l=aA (.lst xs)/\0<=k/\k<2^63/\xs.length<sizeLine/\Q .non (upd H l (.lst (xs.take k.toNat++y::xs.drop k.toNat)))
theorem Ih:MtM X "list.insert" K2:=by
 intro m3 s σ H x vs v us Q I rx rv h;obtain⟨l,xs,k,y,rfl,rfl,hH,h0,h1,hz,q⟩:=h;cases rx;obtain⟨u1,u2,rfl,r1,r2⟩:=rv.two;obtain⟨t,rfl⟩:=r1;obtain⟨z,mY,n,r,hl,e⟩:=I.lstM hH;have hfit:¬(!Builtin.List.listFitsIndex k)=aC:=by rw[fitsIndex_both (by omega) h1];exact a0
 refine fH F.slot_list_insert ⟨_,e,rfl⟩ F.entry_list_insert (F.args_list_insert_3 _ _ _) (AutoListH.list_insert_list_int_val_1 l mY.toArray n k t u2 hfit (by rw[aj];omega)) ⟨e,?_⟩;refine⟨.non,_,I.lset (its':=mY.take k.toNat++u2::mY.drop k.toNat) hH e ?_ ((r.take k.toNat).append (.cons r2 (r.drop k.toNat))) ?_,rfl,q⟩
 ·show(have j:=if k<0 then(k+((mY.toArray.size:Nat):Int)).toNat else min k.toNat mY.toArray.size;(mY.toArray.extract 0 j).push u2++mY.toArray.extract j)=_;rw[ma (by omega)]
  dsimp only
  by_cases hle:k.toNat<=mY.length
  ·rw[jf (by rw[aj];exact hle)];simp;rw[eI (by rw[dD];exact ar _)]
  ·rw[lI (by rw[aj];omega)];rw[eI (by omega),gZ (by omega)];simp
 ·rw[aq,bK,br,dD];omega
end
def TK(H H':Hp):Prop:=∀b xs,H b=aA (.tup xs)->H' b=aA (.tup xs)
theorem Same.tk{H H':Hp}(s:Same H H'):TK H H':=λb xs h=>s b _ h
theorem Same.new{H:Hp}{p:aH}(h:H p=none)(o:HO):Same H (upd H p o):=λb u q=>by rw[upd_ne (ZJ q h)];exact q
structure Def(K:aG)(mg:aR->Option aE)(x:aR)(st:bj):Prop where
 ex:∃f fd,mg x=aA (.ref f)/\Fun K x x st f fd
theorem def_mk{K:aG}{h:bV}{mg:aR->Option aE}{x:aR}{st:bj}{f:aH}{oc:aE}{od an:Option aH}{osl:Array (Option aE)}{kV doc pm cdv ct:aE}(X:K.In h)(G:h.Ns ao mg)
  (a:bH K ao x=aA (aA (.ref f))) (l:K.lookup f=aA ⟨oc,od,.func (cV x x (XX st) (YL st) (Zp st) .none kV doc pm an cdv ct),osl⟩)
  (c:fu K cdv x=aC) (k:eM K (.ref f)=aC):Def K mg x st:=⟨f,_,ak X G a,LO (st:=st) l c k⟩
structure WD(P:bC)(w:b6)(K:aG)(mg:aR->Option aE)(base:bV)(x:aR)(ps:List aR)(sp:Sp)(k:Nat):Prop where
 ex:∃f fd,mg x=aA (.ref f)/\eM K (.ref f)=aC/\Binds K fd ps []/\Tq P w K mg base Mz k f fd ps sp
section
variable {P:bC} {w:b6} {K:aG} {mg:aR->Option aE} {base:bV}
theorem Def.cal{x:aR}{st:bj}{N ps:List aR}{k:Nat}{sp:Sp}(D:Def K mg x st)(S:Z6 N ps (Zp st))
  (hb:∀(kV doc pm:aE)(an:Option aH)(cdv ct:aE)(us:List aE),us.length=ps.length->iP (cV x x (XX st) (YL st) (Zp st) .none kV doc pm an cdv ct) ⟨us,[]⟩=pure (ps.zip us))
  (len:∀vs H Q E,sp vs H Q E->vs.length=ps.length)
  (hbody:∀(f:aH)(cdv:aE)(A:b5)(outer:List iu)(s:aI)(H:Hp)(vs:List V)(Q:VK)(E:XK),Room k (A.deeper (gX x (Zp st) s.heap.objs.size f cdv))->sp vs H Q E->
   ∃t,PSs (R7 Mz P w K mg base N x (Zp st) f cdv A outer s H E).nox (YL st) t/\t { nx:=λ_ H'=>Q .non H',rt:=Q } (start N vs) H):WD P w K mg base x ps sp (k+1):=by
 obtain⟨f,fd,hm,F⟩:=D.ex;exact⟨f,fd,hm,F.kp,F.binds hb,F.ok S len λcdv A outer s H vs Q E hr h=>hbody f cdv A outer s H vs Q E hr h⟩
end
section
variable {X:Cx} {x:aR} {ps:List aR} {sp:Sp} {k:Nat} {e:aw} {es:List aw} {t:TA} {p pos:dm}
theorem Bi(C:WD X.prog X.w X.K X.mg X.base x ps sp k)(hr:Room k X.A)(hg:Gl X x)(ha:PA X (e::es) t)
  (hdb:(x==("__debug__" : aR))=aB:=by decide) (he:aO (e::es) X.env=(aB,eval e X.env)::aO es X.env:=by rfl) (hpl:(cL pos (aO es X.env)).any (·.1)=aB:=by rfl) :
  PE X (.Call (.Name x p) (e::es) [] pos) (DT sp [] E0 t):=by
 obtain⟨f,fd,a,b,c,d⟩:=C.ex;exact Ed d hr hg a b c .nil AQ ha hdb he hpl
end
def Tt(N:List aR)(around scope:fJ)(own fr:List aR)(ix:List Nat):Bool:=
 (match scope.kind with | .function=>aC | _=>aB)&&scope.names.all (λy=>y.2 != .cell)&&scope.names.all (λy=>y.2 != .local || scope.names.lookup y.1==aA .local)&&
 scope.names.all (λy=>y.2 != .free || (around.names.lookup y.1==aA .cell || around.names.lookup y.1==aA .free))&&(fr.map aA==ix.map (λi=>N[i]?))&&
 fr.all (λx=>scope.names.contains (x,bp))&&fr.all (λx=>scope.names.lookup x != aA .local)
theorem Qc{N:List aR}{around scope:fJ}{own fr:List aR}{ix:List Nat}(h:Tt N around scope own fr ix=aC):CompScope N around scope own fr ix:=by
 unfold Tt at h;simp only[bE] at h;obtain⟨⟨⟨⟨⟨⟨h1,h2⟩,h3⟩,h4⟩,h5⟩,h6⟩,h7⟩:=h;refine⟨?_,λy hy=>?_,λy hy e=>?_,λy hy e=>?_,by simpa using h5,λx hx=>?_,λx hx=>?_⟩
 ·split at h1
  ·assumption
  ·cases h1
 ·simpa using bB.mp h2 y hy
 ·have:=bB.mp h3 y hy;rw[e] at this;simpa using this
 ·have:=bB.mp h4 y hy;rw[e] at this;simpa using this
 ·simpa using bB.mp h6 x hx
 ·simpa using bB.mp h7 x hx
section
variable {X:Cx} {tg mX iter:aw} {mW:List aw} {scope:fJ} {pos:dm} {wi:TI} {g:TG} {tt:TT} {te:TE}
theorem MB(own fr:List aR)(ix:List Nat)(hcalm:X.calm=aC)(hi:PI X tg iter wi)(S:Tt X.N X.env.scope scope own fr ix=aC)
  (hg:∀cl C s H ex,PG (Zz X (own++fr) scope cl C s H ex) tg g) (ht:∀cl C s H ex,K0 (Zz X (own++fr) scope cl C s H ex) mW tt) (he:∀cl C s H ex,PE (Zz X (own++fr) scope cl C s H ex) mX te)
  (hs:∀x,bw iter X.env x=pure x:=by intro _;rfl):PE X (.ListComp mX [⟨tg,iter,mW,0⟩] scope pos) (OV own.length ix wi g tt te):=
 Er hcalm hi (Qc S) hg ht he hs
theorem HS(own fr:List aR)(ix:List Nat){i:Nat}{y:aR}{py spos:dm}(hN:X.N.Nodup)(hy:X.N[i]?=aA y)(hloc:X.env.scope.names.lookup y=aA .local)(hcalm:X.calm=aC)(hi:PI X tg iter wi)(S:Tt X.N X.env.scope scope own fr ix=aC)
  (hg:∀cl C s H ex,PG (Zz X (own++fr) scope cl C s H ex) tg g) (ht:∀cl C s H ex,K0 (Zz X (own++fr) scope cl C s H ex) mW tt) (he:∀cl C s H ex,PE (Zz X (own++fr) scope cl C s H ex) mX te)
  (hsw:dX (.ListComp mX [⟨tg,iter,mW,0⟩] scope pos) (aA (.Name y py)) spos.line X.env=pure aC:=by rfl)
  (hs:∀x,bw iter X.env x=pure x:=by intro _;rfl):PS X (.Assign [.Name y py] (.ListComp mX [⟨tg,iter,mW,0⟩] scope pos) spos) (Mn (OV own.length ix wi g tt te) (Sw i)):=
 Es hN hy hloc hcalm hi (Qc S) hg ht he hsw hs
end
structure R1(mg:aR->Option aE):Prop where
 «len» : mg "len" = none
 «sum» : mg "sum" = none
 «range» : mg "range" = none
 «enumerate» : mg "enumerate" = none
 «zip» : mg "zip" = none
 «tuple» : mg "tuple" = none
 «list» : mg "list" = none
 «all» : mg "all" = none
 «any» : mg "any" = none
 «isinstance» : mg "isinstance" = none
 «int» : mg "int" = none
 «bool» : mg "bool" = none
 «str» : mg "str" = none
 «min» : mg "min" = none
 «max» : mg "max" = none
 «sorted» : mg "sorted" = none
 «abs» : mg "abs" = none
 «ValueError» : mg "ValueError" = none
 «reversed» : mg "reversed" = none
abbrev Eu(g:TG)(tb:TS)(D:Uz)(σ:St)(J:It)(H:Hp):Prop:=
 ∃W:Nat->Nat->St->Hp->Prop,(∃m,W 0 m σ H)/\∀i m σ H,W i m σ H->
   (J.stop i H/\D.nx σ H)\/(J.go i H/\∃N:St->Hp->Prop,(∀σ' H',N σ' H'->∃m',m'<m/\W (i+1) m' σ' H')/\∀x H',J.yld i H x H'->g x σ H' λσ2 H2=>tb { D with nx:=N,ct:=N,bk:=D.nx } σ2 H2)
def Xn(l:List Int)(i:Nat):Int:=l.getD i 0
def Yk(w:List (List Int))(i:Nat):List Int:=w.getD i []
theorem MC{w:List (List Int)}{i:Nat}(h:i<w.length):w[i]?=aA (Yk w i):=by unfold Yk;rw[aU,aK h];rfl
def WT(w:List (List Int))(i j:Nat):Int:=Xn (Yk w i) j
structure MD(w:List (List Int)):Prop where
 pos:1<=w.length
 few:w.length<=7
 sq:∀i,i<w.length->(Yk w i).length=w.length
 lo:∀i j,i<w.length->j<w.length->0<=WT w i j
 hi:∀i j,i<w.length->j<w.length->WT w i j<=9
 sym:∀i j,i<w.length->j<w.length->WT w i j=WT w j i
 dia:∀i,i<w.length->WT w i i=0
def Bj(K:aG):List V->Hp->VK->Prop:=λxs H Q=>∃p ys,xs=[.ref p]/\((SqL K H p ys/\∀l,H l=none->Q (.ref l) (upd H l (.tup ys)))\/(SqT K H p ys/\Q (.ref p) H))
theorem Same.off{H Hc:Hp}{p:aH}(s:Same H Hc)(n:Hc p=none):H p=none:=s.free n
abbrev Z9:=Nat×Nat×Int
def Ii(e:Z9):List Xp×V:=([.inl (e.1:Int),.inl (e.2.1:Int)],.int e.2.2)
def dE(ts:List Z9):List (List Xp×V):=ts.map Ii
structure DictOk(n:Nat)(ts:List Z9):Prop where
 ok:∀e∈ts,e.1<e.2.1/\e.2.1<n/\1<=e.2.2/\e.2.2<=9
 nd:(ts.map λe=>(e.1,e.2.1)).Nodup
theorem NJ{a b a' b':Nat}(h:([dI (a:Int),dI (b:Int)]:List Xp)=[dI (a':Int),dI (b':Int)]):a=a'/\b=b':=by have h1:=(fT h).1;have h2:=(fT (fT h).2).1;have e1:=lP h1;have e2:=lP h2;omega
theorem DictOk.nil(n:Nat):DictOk n []:=⟨λ_ h=>by simp at h,by simp⟩
theorem Ew{ts:List Z9}{a b:Nat}:(∀t,(a,b,t)∉ts)->Ts (dE ts) [.inl (a:Int),.inl (b:Int)]=none:=by intro h;unfold Ts dE;rw[Option.map_eq_none_iff,List.find?_eq_none];intro x hx;obtain⟨e,he,rfl⟩:=ah.mp hx;intro q;have q:=of_decide_eq_true q;obtain⟨h1,h2⟩:=NJ q;obtain⟨a',b',t⟩:=e;simp only at h1 h2;subst h1 h2;exact h t he
theorem Bk{n:Nat}{ts:List Z9}{a b:Nat}{t:Int}(ok:DictOk n ts)(hab:a<b)(hb:b<n)(h1:1<=t)(h9:t<=9) :
  ∃ts',UE (dE ts) [.inl (a:Int),.inl (b:Int)] (.int t)=dE ts'/\DictOk n ts'/\ts'.length<=ts.length+1:=by
 by_cases hm:∃t',(a,b,t')∈ts
 ·-- it is there: replaced
  obtain⟨t',hm⟩:=hm;refine⟨ts.map λe=>if(e.1,e.2.1)=(a,b) then(e.1,e.2.1,t) else e,?_,⟨?_,?_⟩,by simp⟩
  ·unfold UE;rw[mZ ?_]
   ·unfold dE;rw[cO,cO];apply cu;intro e _;show(if(Ii e).1=_ then((Ii e).1,V.int t) else Ii e)=Ii (if(e.1,e.2.1)=(a,b) then(e.1,e.2.1,t) else e);by_cases q:(e.1,e.2.1)=(a,b)
    ·rw[mZ q,mZ ?_]
     ·rfl
     ·have:=gu q;show([.inl (e.1:Int),.inl (e.2.1:Int)]:List Xp)=_;rw[this.1,this.2]
    ·rw[ma q,ma ?_];intro z;obtain⟨h1,h2⟩:=NJ (show([.inl (e.1:Int),.inl (e.2.1:Int)]:List Xp)=_ from z);exact q (by rw[h1,h2])
   ·rw[jN];exact⟨Ii (a,b,t'),ah.mpr ⟨_,hm,rfl⟩,decide_eq_true rfl⟩
  ·intro e he;obtain⟨e',he',rfl⟩:=ah.mp he;have:=ok.ok e' he';by_cases q:(e'.1,e'.2.1)=(a,b)
   ·rw[mZ q];exact⟨this.1,this.2.1,h1,h9⟩
   ·rw[ma q];exact this
  ·rw[cO]
   have e:((λe:Z9=>(e.1,e.2.1)) ∘ λe:Z9=>if(e.1,e.2.1)=(a,b) then(e.1,e.2.1,t) else e)=λe:Z9=>(e.1,e.2.1):=by
    funext e;show((if(e.1,e.2.1)=(a,b) then((e.1,e.2.1,t):Z9) else e).1,(if(e.1,e.2.1)=(a,b) then((e.1,e.2.1,t):Z9) else e).2.1)=_;by_cases q:(e.1,e.2.1)=(a,b)
    ·rw[mZ q]
    ·rw[ma q]
   rw[e];exact ok.nd
 ·have hn:∀t',(a,b,t')∉ts:=λt' h=>hm ⟨t',h⟩;refine⟨ts++[(a,b,t)],?_,⟨?_,?_⟩,by simp⟩
  ·rw[HN _ (Ew hn)];unfold dE;rw[bt];rfl
  ·intro e he;rcases au.mp he with q | q
   ·exact ok.ok e q
   ·rw[aP.mp q];exact⟨hab,hb,h1,h9⟩
  ·rw[bt];refine NH ok.nd ?_;rw[ah];rintro⟨e,he,q⟩;obtain⟨a',b',t'⟩:=e;have:=gu q;simp only at this;rw[this.1,this.2] at he;exact hn t' he
def XG(M:List (List Int))(a b:Nat)(t:Int):List (List Int):=M.set a ((Yk M a).set b t)
def ZX(M:List (List Int))(e:Z9):List (List Int):=XG (XG M e.1 e.2.1 e.2.2) e.2.1 e.1 e.2.2
def Uv(n:Nat)(ts:List Z9):List (List Int):=ts.foldl ZX (aJ n (aJ n 0))
structure MatOk(n:Nat)(M:List (List Int)):Prop where
 len:M.length=n
 row:∀i,i<n->(Yk M i).length=n
 lo:∀i j,i<n->j<n->0<=WT M i j
 hi:∀i j,i<n->j<n->WT M i j<=9
 sym:∀i j,i<n->j<n->WT M i j=WT M j i
 dia:∀i,i<n->WT M i i=0
theorem OY{M:List (List Int)}{a i:Nat}{r:List Int}(ha:a<M.length):Yk (M.set a r) i=if a=i then r else Yk M i:=by
 unfold Yk;rw[aU,aU,bM];by_cases h:a=i
 ·subst h;simp[ha]
 ·simp[h]
theorem Ex{l:List Int}{b j:Nat}{t:Int}(hb:b<l.length):Xn (l.set b t) j=if b=j then t else Xn l j:=by
 unfold Xn;rw[aU,aU,bM];by_cases h:b=j
 ·subst h;simp[hb]
 ·simp[h]
theorem Rn{n:Nat}{M:List (List Int)}{a b i j:Nat}{t:Int}(hl:M.length=n)(hr:∀i,i<n->(Yk M i).length=n)(ha:a<n)(hb:b<n):WT (XG M a b t) i j=if a=i/\b=j then t else WT M i j:=by
 show Xn (Yk (M.set a ((Yk M a).set b t)) i) j=_;rw[OY (by omega)];by_cases h:a=i
 ·subst h;rw[mZ rfl,Ex (by rw[hr a ha];exact hb)];by_cases q:b=j
  ·rw[mZ q,mZ ⟨rfl,q⟩]
  ·rw[ma q,ma (λz=>q z.2)];rfl
 ·rw[ma h,ma (λz=>h z.1)];rfl
theorem WX{n:Nat}{M:List (List Int)}{a b:Nat}{t:Int}(hl:M.length=n)(hr:∀i,i<n->(Yk M i).length=n)(ha:a<n):(XG M a b t).length=n/\∀i,i<n->(Yk (XG M a b t) i).length=n:=by
 refine⟨by unfold XG;rw[cz];exact hl,λi hi=>?_⟩;show(Yk (M.set a ((Yk M a).set b t)) i).length=n;rw[OY (by omega)];split
 ·rw[cz];exact hr a ha
 ·exact hr i hi
theorem MatOk.step{n:Nat}{M:List (List Int)}{e:Z9}(ok:MatOk n M)(h:e.1<e.2.1/\e.2.1<n/\1<=e.2.2/\e.2.2<=9):MatOk n (ZX M e):=by
 obtain⟨a,b,t⟩:=e;obtain⟨hab,hb,h1,h9⟩:=h;simp only at hab hb h1 h9;have ha:a<n:=by omega
 obtain⟨l1,r1⟩:=WX (t:=t) (b:=b) ok.len ok.row ha;obtain⟨l2,r2⟩:=WX (t:=t) (b:=a) l1 r1 hb;have E:∀i j,WT (XG (XG M a b t) b a t) i j=if b=i/\a=j then t else if a=i/\b=j then t else WT M i j:=λi j=>by rw[Rn l1 r1 hb ha,Rn ok.len ok.row ha hb]
 refine⟨l2,r2,λi j hi hj=>?_,λi j hi hj=>?_,λi j hi hj=>?_,λi hi=>?_⟩
 ·show 0<=WT (XG (XG M a b t) b a t) i j;rw[E];split
  ·omega
  ·split
   ·omega
   ·exact ok.lo i j hi hj
 ·show WT (XG (XG M a b t) b a t) i j<=9;rw[E];split
  ·omega
  ·split
   ·omega
   ·exact ok.hi i j hi hj
 ·show WT (XG (XG M a b t) b a t) i j=WT (XG (XG M a b t) b a t) j i;rw[E,E];have s:=ok.sym i j hi hj;by_cases q1:b=i/\a=j
  ·rw[mZ q1];obtain⟨rfl,rfl⟩:=q1;rw[ma (by omega),mZ ⟨rfl,rfl⟩]
  ·rw[ma q1];by_cases q2:a=i/\b=j
   ·rw[mZ q2];obtain⟨rfl,rfl⟩:=q2;rw[mZ ⟨rfl,rfl⟩]
   ·rw[ma q2,ma (λz=>q2 ⟨z.2,z.1⟩),ma (λz=>q1 ⟨z.2,z.1⟩),s]
 ·show WT (XG (XG M a b t) b a t) i i=0;rw[E,ma (by omega),ma (by omega)];exact ok.dia i hi
theorem MatOk.zero(n:Nat):MatOk n (aJ n (aJ n 0)):=by
 have r:∀i,i<n->Yk (aJ n (aJ n (0:Int))) i=aJ n 0:=λi hi=>by unfold Yk;rw[aU,cG,mZ hi];rfl
 have z:∀i j,i<n->j<n->WT (aJ n (aJ n (0:Int))) i j=0:=λi j hi hj=>by show Xn (Yk _ i) j=0;rw[r i hi];unfold Xn;rw[aU,cG,mZ hj];rfl
 exact⟨by simp,λi hi=>by rw[r i hi];simp,λi j hi hj=>by rw[z i j hi hj];omega,λi j hi hj=>by rw[z i j hi hj];omega,λi j hi hj=>by rw[z i j hi hj,z j i hj hi],λi hi=>z i i hi hi⟩
theorem VQ{n:Nat}{ts:List Z9}(ok:DictOk n ts):MatOk n (Uv n ts):=by
 have gen:∀(l:List Z9)(M:List (List Int)),(∀e∈l,e.1<e.2.1/\e.2.1<n/\1<=e.2.2/\e.2.2<=9)->MatOk n M->MatOk n (l.foldl ZX M):=by
  intro l
  induction l with
  | nil=>intro M _ h;exact h
  | cons e r ih=>
   intro M h hM;rw[jd];exact ih _ (λe' he'=>h e' (aQ _ he')) (hM.step (h e a9))
 exact gen ts _ ok.ok (MatOk.zero n)
theorem MatOk.web{n:Nat}{M:List (List Int)}(h:MatOk n M)(h1:1<=n)(h7:n<=7):MD M:=by have e:=h.len;subst e;exact⟨h1,h7,h.row,h.lo,h.hi,h.sym,h.dia⟩
theorem HU{α:Type}(n:Nat)(x:α):(aJ n [x]).flatten=aJ n x:=by
 induction n with
 | zero=>rfl
 | succ n ih=>rw[cC,dJ,ih];rfl
theorem UU{α β:Type}(f:β->α->β)(s:β){l:List α}{i:Nat}{x:α}(h:l[i]?=aA x):(l.take (i+1)).foldl f s=f ((l.take i).foldl f s) x:=by rw[ij,h];show k7 f s (l.take i++[x])=_;rw[List.foldl_append];rfl
structure NamesOk(i:Nat)(l:List Int):Prop where
 len:l.length=i
 nd:l.Nodup
 lo:∀x∈l,0<=x
 hi:∀x∈l,x<i
theorem NamesOk.nil:NamesOk 0 []:=⟨rfl,bx,λ_ h=>by simp at h,λ_ h=>by simp at h⟩
theorem NamesOk.ins{i:Nat}{l:List Int}(h:NamesOk i l)(k:Nat):NamesOk (i+1) (l.take k++(i:Int)::l.drop k):=by
 have hp:(l.take k++(i:Int)::l.drop k).Perm ((i:Int)::l):=by have:=List.perm_middle (a:=(i:Int)) (l₁:=l.take k) (l₂:=l.drop k);rw[jo] at this;exact this
 refine⟨by rw[hp.length_eq,bK,h.len],?_,λx hx=>?_,λx hx=>?_⟩
 ·rw[hp.nodup_iff,bP];exact⟨λhm=>by have:=h.hi _ hm;omega,h.nd⟩
 ·rcases aV.mp (hp.mem_iff.mp hx) with e | e
  ·omega
  ·exact h.lo x e
 ·rcases aV.mp (hp.mem_iff.mp hx) with e | e
  ·omega
  ·have:=h.hi x e;omega
theorem NamesOk.at{i:Nat}{l:List Int}(h:NamesOk i l){x:Nat}(hx:x<i):0<=Xn l x/\Xn l x<i:=by
 have e:Xn l x=l[x]'(by rw[h.len];exact hx):=by unfold Xn;rw[aU,aK (by rw[h.len];exact hx)];rfl
 rw[e];exact⟨h.lo _ (dG _),h.hi _ (dG _)⟩
theorem NamesOk.ne{i:Nat}{l:List Int}(h:NamesOk i l){x y:Nat}(hx:x<i)(hy:y<i)(n:x≠y):Xn l x≠Xn l y:=by
 have ex:Xn l x=l[x]'(by rw[h.len];exact hx):=by unfold Xn;rw[aU,aK (by rw[h.len];exact hx)];rfl
 have ey:Xn l y=l[y]'(by rw[h.len];exact hy):=by unfold Xn;rw[aU,aK (by rw[h.len];exact hy)];rfl
 rw[ex,ey];intro e;exact n ((lF h.nd).mp e)
theorem lt_size{n:Nat}(h:n<=10000):n<sizeLine:=k8 h (by decide)
end L2
namespace VL
open PySem PySem.Spec PyProof.Rows L2
variable {K:aG}
def NsO(od:ck)(f:aR)(u:aE):Prop:=∀(hp:bV)(dx:aH),hp.get? dx=aA od->hp.Ns1 dx (λn=>if n=f then aA u else none)
def Uc(n:aR):aR:=if n = "NoWeb" then "place" else if n = "Apart" then "houses" else if n = "TooMany" then "most" else "total"
inductive PV where
 | non | bl (b:Bool) | int (i:Int) | str (x:aR) | ty (n:String) | exc (n:aR) | exf (n:aR) (l:PV)
 | tup (l:List PV) | lst (l:List PV) | cst (l:List PV)
 | dK (ks:List Xp) (vs:List PV) | dT (ks:List (List Xp)) (vs:List PV)
instance:Inhabited PV:=⟨.non⟩
mutual
/-- nothing in it can be changed -/
def Yc:PV->Bool
 | .tup l=>ZZ l
 | .cst l=>ZZ l
 | .lst _=>aB
 | .dK _ _=>aB
 | .dT _ _=>aB
 | .non=>aC
 | .bl _=>aC
 | .int _=>aC
 | .str _=>aC
 | .ty _=>aC
 | .exc _=>aC
 | .exf _ _=>aC
def ZZ:List PV->Bool
 | []=>aC
 | x::r=>Yc x&&ZZ r
end
theorem VG:∀l:List PV,ZZ l=l.all Yc
 | []=>rfl
 | x::r=>by rw[gJ,<-VG r];rfl
def KL(K:aG)(a:aH)(xs:List V):Prop:=
 ∃(o:ck) (mY:Array aE) (n:Nat),K.lookup a=aA o/\o.cls = .type "list"/\o.dict=none/\o.data = .seq mY n/\mY.size<=sizeLine/\Vals xs mY.toList
def CsK(K:aG)(H:Hp)(p:aH)(xs:List V):Prop:=(∃o,H p=aA (.frz o (.lst xs)))\/KL K p xs
theorem CsK.sq{K:aG}{H:Hp}{p:aH}{xs:List V}(h:CsK K H p xs):SqL K H p xs:=by
 rcases h with h | h
 ·exact .inl (.inr h)
 ·exact .inr h
mutual
/-- v is the tree l in the heap H;fp: the addresses of mY lists and dicts -/
def Is(K:aG)(H:Hp):PV->V->List aH->Prop
 | .non,v,fp=>v = .non/\fp=[]
 | .bl b,v,fp=>v = .bl b/\fp=[]
 | .int i,v,fp=>v = .int i/\fp=[]
 | .str x,v,fp=>v = .str x/\fp=[]
 | .ty n,v,fp=>v = .ty n/\fp=[]
 | .exc n,v,fp=>(∃e o x C,v = .ref e/\H e=aA (.frz o (.own x))/\o.cls = .ref C/\bH K ao n=aA (aA (.ref C))/\o.dict=none/\∃vs,o.data = .fields vs)/\fp=[]
 | .exf n l,v,fp=>(∃e o x C dx od u z,v = .ref e/\H e=aA (.frz o (.own x))/\o.cls = .ref C/\bH K ao n=aA (aA (.ref C))/\o.dict=aA dx/\(∃vs,o.data = .fields vs)/\H dx=aA (.frz od (.own dx))/\NsO od (Uc n) u/\RelV z u/\Is K H l z [])/\fp=[]
 | .tup l,v,fp=>∃p xs,v = .ref p/\H p=aA (.tup xs)/\Iss K H l xs fp
 | .lst l,v,fp=>∃p xs fq,v = .ref p/\H p=aA (.lst xs)/\Iss K H l xs fq/\fp=p::fq
 | .cst l,v,fp=>∃p xs,v = .ref p/\CsK K H p xs/\Iss K H l xs fp
 | .dK ks l,v,fp=>∃p m4 fq,v = .ref p/\Rd H p (.dK m4)/\m4.map (·.1)=ks/\Iss K H l (m4.map (·.2)) fq/\fp=p::fq
 | .dT ks l,v,fp=>∃p m4 fq,v = .ref p/\Rd H p (.dT m4)/\m4.map (·.1)=ks/\Iss K H l (m4.map (·.2)) fq/\fp=p::fq
def Iss(K:aG)(H:Hp):List PV->List V->List aH->Prop
 | [],xs,fp=>xs=[]/\fp=[]
 | l::ls,xs,fp=>∃x r f1 f2,xs=x::r/\Is K H l x f1/\Iss K H ls r f2/\fp=f1++f2
end
def RdK(H H':Hp)(p:aH):Prop:=(∀xs,H p=aA (.lst xs)->H' p=aA (.lst xs))/\(∀m4,Rd H p (.dK m4)->Rd H' p (.dK m4))/\∀m4,Rd H p (.dT m4)->Rd H' p (.dT m4)
theorem RdK.of{H H':Hp}{p:aH}(h:∀o,H p=aA o->H' p=aA o):RdK H H' p:=by
 have r:∀u,Rd H p u->Rd H' p u:=λu q=>by
  rcases q with q | ⟨o,q⟩
  ·exact .inl (h _ q)
  ·exact .inr ⟨o,h _ q⟩
 exact⟨λ_=>h _,λ_=>r _,λ_=>r _⟩
structure TK2(H H':Hp):Prop where
 tup:TK H H'
 frz:∀b o xs,H b=aA (.frz o (.lst xs))->H' b=aA (.frz o (.lst xs))
 exc:∀b o x,H b=aA (.frz o (.own x))->H' b=aA (.frz o (.own x))
theorem Same.tk2{H H':Hp}(s:Same H H'):TK2 H H':=⟨s.tk,λb o xs h=>s b _ h,λb o x h=>s b _ h⟩
theorem CsK.tr{K:aG}{H H':Hp}(t:TK2 H H'){p:aH}{xs:List V}(h:CsK K H p xs):CsK K H' p xs:=by
 rcases h with⟨o,h⟩ | h
 ·exact .inl ⟨o,t.frz p o xs h⟩
 ·exact .inr h
mutual
theorem Is.tr{H H':Hp}(ht:TK2 H H'):∀(l:PV)(v:V)(fp:List aH),(∀p∈fp,RdK H H' p)->Is K H l v fp->Is K H' l v fp
 | .non,_,_,_,h=>by simpa only[Is] using h
 | .bl _,_,_,_,h=>by simpa only[Is] using h
 | .int _,_,_,_,h=>by simpa only[Is] using h
 | .str _,_,_,_,h=>by simpa only[Is] using h
 | .ty _,_,_,_,h=>by simpa only[Is] using h
 | .exc _,_,_,_,h=>by simp only[Is] at h ⊢;obtain⟨⟨e,o,x,C,a,b,c⟩,d⟩:=h;exact⟨⟨e,o,x,C,a,ht.exc e o x b,c⟩,d⟩
 | .exf _ l,_,_,_,h=>by simp only[Is] at h ⊢;obtain⟨⟨e,o,x,C,dx,od,u,z,a,b,c1,c2,c3,c4,c5,c6,c7,c8⟩,d⟩:=h;exact⟨⟨e,o,x,C,dx,od,u,z,a,ht.exc e o x b,c1,c2,c3,c4,ht.exc dx od dx c5,c6,c7,Is.tr ht l z [] (λp hp=>by simp at hp) c8⟩,d⟩
 | .tup l,v,fp,hm,h=>by simp only[Is] at h ⊢;obtain⟨p,xs,e,hp,hi⟩:=h;exact⟨p,xs,e,ht.tup p xs hp,Iss.tr ht l xs fp hm hi⟩
 | .lst l,v,fp,hm,h=>by simp only[Is] at h ⊢;obtain⟨p,xs,fq,e,hr,hi,rfl⟩:=h;exact⟨p,xs,fq,e,(hm p a9).1 _ hr,Iss.tr ht l xs fq (λq hq=>hm q (aQ _ hq)) hi,rfl⟩
 | .cst l,v,fp,hm,h=>by simp only[Is] at h ⊢;obtain⟨p,xs,e,hr,hi⟩:=h;exact⟨p,xs,e,hr.tr ht,Iss.tr ht l xs fp hm hi⟩
 | .dK ks l,v,fp,hm,h=>by simp only[Is] at h ⊢;obtain⟨p,m4,fq,e,hr,hk,hi,rfl⟩:=h;exact⟨p,m4,fq,e,(hm p a9).2.1 _ hr,hk,Iss.tr ht l _ fq (λq hq=>hm q (aQ _ hq)) hi,rfl⟩
 | .dT ks l,v,fp,hm,h=>by simp only[Is] at h ⊢;obtain⟨p,m4,fq,e,hr,hk,hi,rfl⟩:=h;exact⟨p,m4,fq,e,(hm p a9).2.2 _ hr,hk,Iss.tr ht l _ fq (λq hq=>hm q (aQ _ hq)) hi,rfl⟩
theorem Iss.tr{H H':Hp}(ht:TK2 H H'):∀(l:List PV)(xs:List V)(fp:List aH),(∀p∈fp,RdK H H' p)->Iss K H l xs fp->Iss K H' l xs fp
 | [],_,_,_,h=>by simpa only[Iss] using h
 | l::ls,xs,fp,hm,h=>by simp only[Iss] at h ⊢;obtain⟨x,r,f1,f2,e,h1,h2,rfl⟩:=h;exact⟨x,r,f1,f2,e,Is.tr ht l x f1 (λq hq=>hm q (bG _ hq)) h1,Iss.tr ht ls r f2 (λq hq=>hm q (ag _ hq)) h2,rfl⟩
end
theorem Is.mono{H H':Hp}(s:Same H H'){l:PV}{v:V}{fp:List aH}(h:Is K H l v fp):Is K H' l v fp:=Is.tr (Same.tk2 s) l v fp (λp _=>RdK.of λo q=>s p o q) h
theorem Iss.mono{H H':Hp}(s:Same H H'){l:List PV}{v:List V}{fp:List aH}(h:Iss K H l v fp):Iss K H' l v fp:=Iss.tr (Same.tk2 s) l v fp (λp _=>RdK.of λo q=>s p o q) h
mutual
theorem Is.pure{H:Hp}:∀(l:PV)(v:V)(fp:List aH),Yc l=aC->Is K H l v fp->fp=[]
 | .non,_,_,_,h=>by simp only[Is] at h;exact h.2
 | .bl _,_,_,_,h=>by simp only[Is] at h;exact h.2
 | .int _,_,_,_,h=>by simp only[Is] at h;exact h.2
 | .str _,_,_,_,h=>by simp only[Is] at h;exact h.2
 | .ty _,_,_,_,h=>by simp only[Is] at h;exact h.2
 | .exc _,_,_,_,h=>by simp only[Is] at h;exact h.2
 | .exf _ _,_,_,_,h=>by simp only[Is] at h;exact h.2
 | .tup l,v,fp,hp,h=>by simp only[Is] at h;obtain⟨p,xs,e,_,hi⟩:=h;exact Iss.pure l xs fp (by simpa only[Yc] using hp) hi
 | .lst l,v,fp,hp,h=>by simp[Yc] at hp
 | .cst l,v,fp,hp,h=>by simp only[Is] at h;obtain⟨p,xs,e,_,hi⟩:=h;exact Iss.pure l xs fp (by simpa only[Yc] using hp) hi
 | .dK ks l,v,fp,hp,h=>by simp[Yc] at hp
 | .dT ks l,v,fp,hp,h=>by simp[Yc] at hp
theorem Iss.pure{H:Hp}:∀(l:List PV)(xs:List V)(fp:List aH),ZZ l=aC->Iss K H l xs fp->fp=[]
 | [],_,_,_,h=>by simp only[Iss] at h;exact h.2
 | l::ls,xs,fp,hp,h=>by simp only[Iss] at h;simp only[ZZ,bE] at hp;obtain⟨x,r,f1,f2,e,h1,h2,rfl⟩:=h;rw[Is.pure l x f1 hp.1 h1,Iss.pure ls r f2 hp.2 h2];rfl
end
section
variable {H H':Hp}
theorem Iss.len:∀{l:List PV}{xs:List V}{fp:List aH},Iss K H l xs fp->xs.length=l.length
 | [],xs,fp,h=>by simp only[Iss] at h;rw[h.1];rfl
 | l::ls,xs,fp,h=>by simp only[Iss] at h;obtain⟨x,r,f1,f2,rfl,_,h2,_⟩:=h;rw[bK,bK,h2.len]
theorem Iss.get:∀{l:List PV}{xs:List V}{fp:List aH}{i:Nat}{a:PV},Iss K H l xs fp->l[i]?=aA a->∃x f1,xs[i]?=aA x/\Is K H a x f1/\∀p∈f1,p∈fp
 | [],xs,fp,i,a,h,e=>by simp at e
 | l::ls,xs,fp,0,a,h,e=>by simp only[Iss] at h;obtain⟨x,r,f1,f2,rfl,h1,_,rfl⟩:=h;simp at e;subst e;exact⟨x,f1,rfl,h1,λp hp=>bG _ hp⟩
 | l::ls,xs,fp,i+1,a,h,e=>by simp only[Iss] at h;obtain⟨x,r,f1,f2,rfl,_,h2,rfl⟩:=h;obtain⟨y,g,h3,h4,h5⟩:=h2.get (i:=i) (a:=a) (by simpa using e);exact⟨y,g,by simpa using h3,h4,λp hp=>ag _ (h5 p hp)⟩
theorem Iss.get'{l:List PV}{xs:List V}{fp:List aH}{i:Nat}{x:V}(h:Iss K H l xs fp)(e:xs[i]?=aA x):∃a f1,l[i]?=aA a/\Is K H a x f1/\∀p∈f1,p∈fp:=by
 have hi:i<l.length:=by rw[<-h.len];exact(aL.mp e).1
 obtain⟨y,f1,h1,h2,h3⟩:=h.get (aK hi);rw[e] at h1;cases h1;exact⟨_,f1,aK hi,h2,h3⟩
theorem Iss.nil:Iss K H [] [] []:=by simp[Iss]
theorem Iss.cons{l:PV}{ls:List PV}{x:V}{xs:List V}{f1 f2:List aH}(h1:Is K H l x f1)(h2:Iss K H ls xs f2):Iss K H (l::ls) (x::xs) (f1++f2):=by simp only[Iss];exact⟨x,xs,f1,f2,rfl,h1,h2,rfl⟩
theorem Iss.inv{l:PV}{ls:List PV}{xs:List V}{fp:List aH}(h:Iss K H (l::ls) xs fp):∃x r f1 f2,xs=x::r/\Is K H l x f1/\Iss K H ls r f2/\fp=f1++f2:=by simpa only[Iss] using h
theorem Iss.append:∀{l m:List PV}{xs ys:List V}{f1 f2:List aH},Iss K H l xs f1->Iss K H m ys f2->Iss K H (l++m) (xs++ys) (f1++f2)
 | [],m,xs,ys,f1,f2,h,h'=>by simp only[Iss] at h;rw[h.1,h.2];exact h'
 | l::ls,m,xs,ys,f1,f2,h,h'=>by obtain⟨x,r,g1,g2,rfl,a,b,rfl⟩:=h.inv;rw[dM];exact Iss.cons a (b.append h')
theorem Iss.one{l:PV}{x:V}{f:List aH}(h:Is K H l x f):Iss K H [l] [x] f:=by
 have:=Iss.cons h (Iss.nil (H:=H))
 rwa [bI] at this
theorem Iss.take:∀{l:List PV}{xs:List V}{fp:List aH}(n:Nat),Iss K H l xs fp->∃f1,Iss K H (l.take n) (xs.take n) f1/\∀p∈f1,p∈fp
 | l,xs,fp,0,h=>⟨[],by rw[lp,lp];exact Iss.nil,λp hp=>by simp at hp⟩
 | [],xs,fp,n+1,h=>by simp only[Iss] at h;rw[h.1];exact⟨[],by rw[mE,mE];exact Iss.nil,λp hp=>by simp at hp⟩
 | l::ls,xs,fp,n+1,h=>by
  obtain⟨x,r,f1,f2,rfl,h1,h2,rfl⟩:=h.inv;obtain⟨f3,a,b⟩:=h2.take n;refine⟨f1++f3,Iss.cons h1 a,λp hp=>?_⟩;rcases au.mp hp with h | h
  ·exact bG _ h
  ·exact ag _ (b p h)
theorem Iss.drop:∀{l:List PV}{xs:List V}{fp:List aH}(n:Nat),Iss K H l xs fp->∃f1,Iss K H (l.drop n) (xs.drop n) f1/\∀p∈f1,p∈fp
 | l,xs,fp,0,h=>⟨fp,h,λp hp=>hp⟩
 | [],xs,fp,n+1,h=>by simp only[Iss] at h;rw[h.1];exact⟨[],by rw[mF,mF];exact Iss.nil,λp hp=>by simp at hp⟩
 | l::ls,xs,fp,n+1,h=>by obtain⟨x,r,f1,f2,rfl,h1,h2,rfl⟩:=h.inv;obtain⟨f3,a,b⟩:=h2.drop n;exact⟨f3,a,λp hp=>ag _ (b p hp)⟩
theorem Iss.setP:∀{l:List PV}{xs:List V}{a:PV}{x:V}(i:Nat),ZZ l=aC->Yc a=aC->Iss K H l xs []->Is K H a x []->Iss K H (l.set i a) (xs.set i x) []
 | [],xs,a,x,i,_,_,h,_=>by simp only[Iss] at h;rw[h.1];simp only[List.set_nil];exact Iss.nil
 | l::ls,xs,a,x,0,hp,_,h,ha=>by simp only[ZZ,bE] at hp;obtain⟨y,r,f1,f2,rfl,_,h2,e⟩:=h.inv;have e2:=Iss.pure _ _ _ hp.2 h2;subst e2;exact Iss.cons (f1:=[]) ha h2
 | l::ls,xs,a,x,i+1,hp,hq,h,ha=>by simp only[ZZ,bE] at hp;obtain⟨y,r,f1,f2,rfl,h1,h2,e⟩:=h.inv;have e1:=Is.pure _ _ _ hp.1 h1;have e2:=Iss.pure _ _ _ hp.2 h2;subst e1 e2;exact Iss.cons (f1:=[]) h1 (Iss.setP i hp.2 hq h2 ha)
theorem Is.int_inv{i:Int}{v:V}{fp:List aH}(h:Is K H (.int i) v fp):v = .int i/\fp=[]:=by simpa only[Is] using h
theorem Is.int(i:Int):Is K H (.int i) (.int i) []:=by simp[Is]
theorem Is.bl(i:Bool):Is K H (.bl i) (.bl i) []:=by simp[Is]
theorem Is.non:Is K H .non .non []:=by simp[Is]
theorem Is.str(x:aR):Is K H (.str x) (.str x) []:=by simp[Is]
theorem Is.bl_inv{i:Bool}{v:V}{fp:List aH}(h:Is K H (.bl i) v fp):v = .bl i/\fp=[]:=by simpa only[Is] using h
theorem Is.str_inv{i:aR}{v:V}{fp:List aH}(h:Is K H (.str i) v fp):v = .str i/\fp=[]:=by simpa only[Is] using h
theorem Is.non_inv{v:V}{fp:List aH}(h:Is K H .non v fp):v = .non/\fp=[]:=by simpa only[Is] using h
theorem Is.ty_inv{n:String}{v:V}{fp:List aH}(h:Is K H (.ty n) v fp):v = .ty n/\fp=[]:=by simpa only[Is] using h
theorem Is.tup_inv{l:List PV}{v:V}{fp:List aH}(h:Is K H (.tup l) v fp):∃p xs,v = .ref p/\H p=aA (.tup xs)/\Iss K H l xs fp:=by simpa only[Is] using h
theorem Is.tup{l:List PV}{p:aH}{xs:List V}{fp:List aH}(h:H p=aA (.tup xs))(hi:Iss K H l xs fp):Is K H (.tup l) (.ref p) fp:=by simp only[Is];exact⟨p,xs,rfl,h,hi⟩
theorem Is.lst_inv{l:List PV}{v:V}{fp:List aH}(h:Is K H (.lst l) v fp):∃p xs fq,v = .ref p/\H p=aA (.lst xs)/\Iss K H l xs fq/\fp=p::fq:=by simpa only[Is] using h
theorem Is.lst{l:List PV}{p:aH}{xs:List V}{fp:List aH}(h:H p=aA (.lst xs))(hi:Iss K H l xs fp):Is K H (.lst l) (.ref p) (p::fp):=by simp only[Is];exact⟨p,xs,fp,rfl,h,hi,rfl⟩
theorem Is.cst_inv{l:List PV}{v:V}{fp:List aH}(h:Is K H (.cst l) v fp):∃p xs,v = .ref p/\CsK K H p xs/\Iss K H l xs fp:=by simpa only[Is] using h
theorem Is.cst{l:List PV}{p:aH}{xs:List V}{fp:List aH}(h:CsK K H p xs)(hi:Iss K H l xs fp):Is K H (.cst l) (.ref p) fp:=by simp only[Is];exact⟨p,xs,rfl,h,hi⟩
theorem Is.dT_inv{ks:List (List Xp)}{l:List PV}{v:V}{fp:List aH}(h:Is K H (.dT ks l) v fp):∃p m4 fq,v = .ref p/\Rd H p (.dT m4)/\m4.map (·.1)=ks/\Iss K H l (m4.map (·.2)) fq/\fp=p::fq:=by simpa only[Is] using h
theorem Is.dT{ks:List (List Xp)}{l:List PV}{p:aH}{m4:List (List Xp×V)}{fp:List aH}(h:H p=aA (.dT m4))(hk:m4.map (·.1)=ks)(hi:Iss K H l (m4.map (·.2)) fp):Is K H (.dT ks l) (.ref p) (p::fp):=by simp only[Is];exact⟨p,m4,fp,rfl,.inl h,hk,hi,rfl⟩
theorem Is.dK_inv{ks:List Xp}{l:List PV}{v:V}{fp:List aH}(h:Is K H (.dK ks l) v fp):∃p m4 fq,v = .ref p/\Rd H p (.dK m4)/\m4.map (·.1)=ks/\Iss K H l (m4.map (·.2)) fq/\fp=p::fq:=by simpa only[Is] using h
theorem Is.dK{ks:List Xp}{l:List PV}{p:aH}{m4:List (Xp×V)}{fp:List aH}(h:H p=aA (.dK m4))(hk:m4.map (·.1)=ks)(hi:Iss K H l (m4.map (·.2)) fp):Is K H (.dK ks l) (.ref p) (p::fp):=by simp only[Is];exact⟨p,m4,fp,rfl,.inl h,hk,hi,rfl⟩
end
abbrev iL(l:List Int):List PV:=l.map PV.int
theorem Xw(l:List Int):ZZ (iL l)=aC:=by rw[VG,bB];intro x hx;obtain⟨i,_,rfl⟩:=ah.mp hx;rfl
theorem Iss.iL{H:Hp}:∀{l:List Int}{xs:List V}{fp:List aH},Iss K H (VL.iL l) xs fp->xs=l.map V.int/\fp=[]
 | [],xs,fp,h=>by simpa only[VL.iL,dZ,Iss] using h
 | i::l,xs,fp,h=>by obtain⟨x,r,f1,f2,rfl,h1,h2,rfl⟩:=Iss.inv (show Iss K H (PV.int i::VL.iL l) xs fp from h);obtain⟨rfl,rfl⟩:=h1.int_inv;obtain⟨rfl,rfl⟩:=h2.iL;exact⟨rfl,rfl⟩
theorem Iss.ofInts{H:Hp}:∀(l:List Int),Iss K H (VL.iL l) (l.map V.int) []
 | []=>Iss.nil
 | i::l=>Iss.cons (f1:=[]) (Is.int i) (Iss.ofInts l)
end VL
namespace VL
open PySem PySem.Spec PyProof.Rows L2
variable {K:aG}
abbrev SK:=L2.St
abbrev ZS:=List (Option PV)
abbrev XE:=ZS->Option PV
structure EnvIs(K:aG)(Rm:aH->Prop)(H:Hp)(s:ZS)(σ:SK):Prop where
 is:∀(i:Nat) l,s[i]?=aA (aA l)->∃v fp,σ[i]?=aA (aA v)/\Is K H l v fp/\∀p∈fp,¬Rm p
theorem EnvIs.mono{Rm:aH->Prop}{H H':Hp}{s:ZS}{σ:SK}(h:EnvIs K Rm H s σ)(e:Same H H'):EnvIs K Rm H' s σ:=⟨λi l q=>by
 obtain⟨v,fp,a,b,c⟩:=h.is i l q;exact⟨v,fp,a,b.mono e,c⟩⟩
theorem EnvIs.free{Rm:aH->Prop}{H:Hp}{s:ZS}{σ:SK}(h:EnvIs K Rm H s σ):EnvIs K (λ_=>False) H s σ:=⟨λi l q=>by
 obtain⟨v,fp,a,b,c⟩:=h.is i l q;exact⟨v,fp,a,b,λ_ _ z=>z⟩⟩
theorem Same.mut{H H':Hp}(e:Same H H'){p:aH}(h:UR (H p)):UR (H' p):=by
 cases q:H p with
 | none=>rw[q] at h;exact h.elim
 | some o=>rw[e p o q,<-q];exact h
theorem Xz{H:Hp}{p:aH}(h:UR (H p)):H p≠none:=λz=>by rw[z] at h;exact h
def tF(K:aG)(f:XE):TE:=λσ H Q=>∃(Rm:aH->Prop) (s:ZS) (l:PV),(∀p,Rm p->UR (H p))/\EnvIs K Rm H s σ/\f s=aA l/\∀v H' fp,Same H H'->Is K H' l v fp->(∀p∈fp,¬Rm p)->Q v H'
def tM(K:aG)(f:XE):TE:=λσ H Q=>∃(s:ZS) (l:PV),EnvIs K (λ_=>False) H s σ/\f s=aA l/\∀v H' fp,Same H H'->Is K H' l v fp->fp.Nodup->(∀p∈fp,H p=none/\UR (H' p))->Q v H'
def VE(X:Cx)(e:aw)(f:XE):Prop:=PE X e (tF X.K f)
def VM(X:Cx)(e:aw)(f:XE):Prop:=PE X e (tM X.K f)
section
variable {X:Cx} {e:aw} {f g:XE} {t t':TE}
theorem PE.imp(h:PE X e t)(i:∀σ H Q,t' σ H Q->t σ H Q):PE X e t':=λm3 s σ H Q I q=>h m3 s σ H Q I (i σ H Q q)
theorem VM.ve(h:VM X e f):VE X e f:=PE.imp h λσ H Q ⟨Rm,s,l,hd,env,e,k⟩=>
 ⟨s,l,env.free,e,λv H' fp sm i _ n=>k v H' fp sm i λp hp z=>Xz (hd p z) (n p hp).1⟩
def eP(f:XE):XE:=λs=>(f s).bind λl=>if Yc l=aC then aA l else none
theorem Ey{s:ZS}{l:PV}(h:eP f s=aA l):f s=aA l/\Yc l=aC:=by
 unfold eP at h
 cases q:f s with
 | none=>rw[q] at h;cases h
 | some a=>
  rw[q] at h;simp only[aD] at h;split at h
  ·cases h;exact⟨rfl,by assumption⟩
  ·cases h
theorem VE.pure(h:VE X e f):VM X e (eP f):=PE.imp h λσ H Q ⟨s,l,env,e,k⟩=>by
 obtain⟨e1,e2⟩:=Ey e;refine⟨λ_=>False,s,l,λ_ z=>z.elim,env,e1,λv H' fp sm i n=>?_⟩;have:=Is.pure l v fp e2 i;subst this;exact k v H' [] sm i bx λp hp=>by simp at hp
end
def Za(i:Nat):XE:=λs=>(s[i]?).join
def eC(l:PV):XE:=λ_=>aA l
theorem Qd{i:Nat}{s:ZS}{l:PV}(h:Za i s=aA l):s[i]?=aA (aA l):=by
 unfold Za at h
 cases q:s[i]? with
 | none=>rw[q] at h;cases h
 | some o=>rw[q] at h;cases o with
  | none=>cases h
  | some a=>cases h;rfl
section
variable {X:Cx} {pos:dm}
theorem Zb{e:aw}{i:Nat}(h:PE X e (Th i)):VE X e (Za i):=PE.imp h λσ H Q ⟨Rm,s,l,hd,env,e,k⟩=>by obtain⟨v,fp,a,b,c⟩:=env.is i l (Qd e);exact⟨v,a,k v H fp (Same.refl H) b c⟩
theorem Ij{e:aw}{v:V}{l:PV}(h:PE X e (tC v))(hv:∀H,Is X.K H l v []):VE X e (eC l):=PE.imp h λσ H Q ⟨Rm,s,l',hd,env,e,k⟩=>by
 cases e;exact k v H [] (Same.refl H) (hv H) λp hp=>by simp at hp
theorem Zf{i j}:VE X (.Constant (.int i) j pos) (eC (.int i)):=Ij CH λ_=>Is.int i
theorem K3{i j}:VE X (.Constant (.bool i) j pos) (eC (.bl i)):=Ij Ai λ_=>Is.bl i
theorem WE{j}:VE X (.Constant .none j pos) (eC .non):=Ij HD λ_=>Is.non
theorem Ys{i j}:VE X (.Constant (.str i) j pos) (eC (.str i)):=Ij LF λ_=>Is.str i
end
def RB(K:aG)(r:R2)(g:PV->PV->Option PV):Prop:=∀(H:Hp)(x y:V)(a b l:PV)(fa fb:List aH),Is K H a x fa->Is K H b y fb->g a b=aA l->∀Q:VK,
 (∀v H' fp,Same H H'->Is K H' l v fp->(∀p∈fp,p∈fa\/p∈fb\/H p=none)->Q v H')->r x y H Q
def Zh(g:PV->PV->Option PV)(a b:XE):XE:=λs=>(a s).bind λx=>(b s).bind λy=>g x y
theorem Vb{g:PV->PV->Option PV}{a b:XE}{s:ZS}{l:PV}(h:Zh g a b s=aA l):∃x y,a s=aA x/\b s=aA y/\g x y=aA l:=by
 unfold Zh at h
 cases q:a s with
 | none=>rw[q] at h;cases h
 | some x=>cases q2:b s with
  | none=>rw[q,q2] at h;cases h
  | some y=>rw[q,q2] at h;exact⟨x,y,rfl,rfl,h⟩
section
variable {X:Cx} {a b:aw} {fa fb:XE} {pos:dm}
theorem K4{r:R2}{g:PV->PV->Option PV}(hr:RB K r g):∀σ H Q,tF K (Zh g fa fb) σ H Q->CV r (tF K fa) (tF K fb) σ H Q:=λσ H Q ⟨Rm,s,l,hd,env,e,k⟩=>by
 obtain⟨x',y',ex,ey,e⟩:=Vb e;refine⟨Rm,s,x',hd,env,ex,λx H1 f1 s1 i1 n1=>⟨Rm,s,y',λp hp=>Same.mut s1 (hd p hp),env.mono s1,ey,λy H2 f2 s2 i2 n2=>?_⟩⟩;refine hr H2 x y x' y' l f1 f2 (i1.mono s2) i2 e Q λv H3 fp s3 i3 n3=>k v H3 fp (s1.trans (s2.trans s3)) i3 λp hp z=>?_;rcases n3 p hp with h | h | h
 ·exact n1 p h z
 ·exact n2 p h z
 ·exact Xz (Same.mut (s1.trans s2) (hd p z)) h
theorem WG{op:l7}{r:R2}{g:PV->PV->Option PV}(ho:UA X (gW op) r)(hr:RB X.K r g)(ha:VE X a fa)(hb:VE X b fb):VE X (.BinOp a op b pos) (Zh g fa fb):=
 PE.imp (HI ho ha hb) (K4 hr)
theorem LP{op:jJ}{r:R2}{g:PV->PV->Option PV}(ho:UA X (ba op) r)(hr:RB X.K r g)(ha:VE X a fa)(hb:VE X b fb)(hm:cP op b=aB):VE X (.Compare a [op] [b] pos) (Zh g fa fb):=
 PE.imp (Ea ho ha hb hm) (K4 hr)
theorem AV{r:R2}{g:PV->PV->Option PV}(ho:IxR X r)(hr:RB X.K r g)(ha:VE X a fa)(hb:VE X b fb)(hs:NF b):VE X (.Subscript a b pos) (Zh g fa fb):=
 PE.imp (Sx ho ha hb hs) (K4 hr)
end
def gI(g:Int->Int->Int):PV->PV->Option PV
 | .int i,.int j=>aA (.int (g i j))
 | _,_=>none
def gB(g:Int->Int->Bool):PV->PV->Option PV
 | .int i,.int j=>aA (.bl (g i j))
 | _,_=>none
def DY(C:Int->Int->Prop)[∀i j,Decidable (C i j)](g:Int->Int->Int):PV->PV->Option PV
 | .int i,.int j=>if C i j then aA (.int (g i j)) else none
 | _,_=>none
theorem K5{g:Int->Int->Int}{a b l:PV}(h:gI g a b=aA l):∃i j,a = .int i/\b = .int j/\l = .int (g i j):=by
 unfold gI at h;split at h
 ·cases h;exact⟨_,_,rfl,rfl,rfl⟩
 ·cases h
theorem Ez{g:Int->Int->Bool}{a b l:PV}(h:gB g a b=aA l):∃i j,a = .int i/\b = .int j/\l = .bl (g i j):=by
 unfold gB at h;split at h
 ·cases h;exact⟨_,_,rfl,rfl,rfl⟩
 ·cases h
theorem HV{C:Int->Int->Prop}[∀i j,Decidable (C i j)]{g:Int->Int->Int}{a b l:PV}(h:DY C g a b=aA l):∃i j,a = .int i/\b = .int j/\C i j/\l = .int (g i j):=by
 unfold DY at h;split at h
 ·split at h
  ·cases h;exact⟨_,_,rfl,rfl,by assumption,rfl⟩
  ·cases h
 ·cases h
theorem AW(g:Int->Int->Int):RB K (FX λi j=>.int (g i j)) (gI g):=λH x y a b l fa fb ha hb e Q k=>by obtain⟨i,j,rfl,rfl,rfl⟩:=K5 e;exact⟨i,j,ha.int_inv.1,hb.int_inv.1,k _ H [] (Same.refl H) (Is.int _) λp hp=>by simp at hp⟩
theorem UW(g:Int->Int->Bool):RB K (FX λi j=>.bl (g i j)) (gB g):=λH x y a b l fa fb ha hb e Q k=>by obtain⟨i,j,rfl,rfl,rfl⟩:=Ez e;exact⟨i,j,ha.int_inv.1,hb.int_inv.1,k _ H [] (Same.refl H) (Is.bl _) λp hp=>by simp at hp⟩
theorem HW(C:Int->Int->Prop)[∀i j,Decidable (C i j)](g:Int->Int->Int):RB K (rI C λi j=>.int (g i j)) (DY C g):=λH x y a b l fa fb ha hb e Q k=>by obtain⟨i,j,rfl,rfl,c,rfl⟩:=HV e;exact⟨i,j,ha.int_inv.1,hb.int_inv.1,c,k _ H [] (Same.refl H) (Is.int _) λp hp=>by simp at hp⟩
instance (i j:Int):Decidable (CMul i j):=by unfold CMul;infer_instance
instance (i j:Int):Decidable (R4 i j):=by unfold R4;infer_instance
instance (i j:Int):Decidable (DS i j):=by unfold DS;infer_instance
instance (i j:Int):Decidable (AB i j):=by unfold AB;infer_instance
abbrev Yp:=gI (· + ·)
abbrev Su:=gI (· - ·)
abbrev Pn:=DY CMul (· * ·)
abbrev X8:=DY R4 (· / ·)
abbrev YS:=DY (λ_ j=>0<j) (· % ·)
abbrev Wb:=gB (λi j=>decide (i<j))
abbrev Sz:=gB (λi j=>decide (i<=j))
abbrev T7:=gB (λi j=>decide (j<i))
abbrev DZ:=gB (λi j=>decide (j<=i))
section
variable {X:Cx} {a b:aw} {fa fb:XE} {pos:dm}
theorem Xe(ha:VE X a fa)(hb:VE X b fb):VE X (.BinOp a .Add b pos) (Zh Yp fa fb):=WG CY (AW _) ha hb
theorem Qe(ha:VE X a fa)(hb:VE X b fb):VE X (.BinOp a .Sub b pos) (Zh Su fa fb):=WG CZ (AW _) ha hb
theorem LQ(ha:VE X a fa)(hb:VE X b fb):VE X (.BinOp a .Mult b pos) (Zh Pn fa fb):=WG C0 (HW _ _) ha hb
theorem WH(ha:VE X a fa)(hb:VE X b fb):VE X (.BinOp a .FloorDiv b pos) (Zh X8 fa fb):=WG F9 (HW _ _) ha hb
theorem Wr(ha:VE X a fa)(hb:VE X b fb):VE X (.BinOp a .Mod b pos) (Zh YS fa fb):=WG C1 (HW _ _) ha hb
end
def YW:PV->PV->Option PV
 | .str i,.str j=>if i.length+j.length<=sizeLine then aA (.str (i++j)) else none
 | _,_=>none
theorem XA:RB K (λx y H Q=>∃i j,x = .str i/\y = .str j/\i.length+j.length<=sizeLine/\Q (.str (i++j)) H) YW:=λH x y a b l fa fb ha hb e Q k=>by
 unfold YW at e;split at e
 ·split at e
  ·cases e;exact⟨_,_,ha.str_inv.1,hb.str_inv.1,by assumption,k _ H [] (Same.refl H) (Is.str _) λp hp=>by simp at hp⟩
  ·cases e
 ·cases e
def ZK:PV->PV->Option PV
 | .lst l,.int i=>Vv l i
 | .cst l,.int i=>Vv l i
 | .tup l,.int i=>Vv l i
 | .str z,.int i=>if z.length<=sizeLine then(Vv z.cps.toList i).map λc=>.str ⟨#[c]⟩ else none
 | _,_=>none
theorem LR{l:List PV}{xs:List V}{H:Hp}{fp:List aH}{i:Int}{a:PV}(h:Iss K H l xs fp)(e:Vv l i=aA a):∃x f1,Vv xs i=aA x/\Is K H a x f1/\∀p∈f1,p∈fp:=by
 unfold Vv at e ⊢;rw[h.len]
 cases q:KR l.length i with
 | none=>rw[q] at e;cases e
 | some j=>rw[q] at e;exact h.get e
theorem AX:RB K (rIx K) ZK:=λH x y a b l fa fb ha hb e Q k=>by
 unfold ZK at e;split at e
 ·obtain⟨p,xs,fq,rfl,hp,hi,rfl⟩:=ha.lst_inv;obtain⟨z,f1,h1,h2,h3⟩:=LR hi e;exact .inl ⟨p,xs,_,z,rfl,hb.int_inv.1,SqL.of hp,h1,k z H f1 (Same.refl H) h2 λq hq=>.inl (aQ _ (h3 q hq))⟩
 ·obtain⟨p,xs,rfl,hp,hi⟩:=ha.cst_inv;obtain⟨z,f1,h1,h2,h3⟩:=LR hi e;exact .inl ⟨p,xs,_,z,rfl,hb.int_inv.1,hp.sq,h1,k z H f1 (Same.refl H) h2 λq hq=>.inl (h3 q hq)⟩
 ·obtain⟨p,xs,rfl,hp,hi⟩:=ha.tup_inv;obtain⟨z,f1,h1,h2,h3⟩:=LR hi e;exact .inr (.inl ⟨p,xs,_,z,rfl,hb.int_inv.1,SqT.of hp,h1,k z H f1 (Same.refl H) h2 λq hq=>.inl (h3 q hq)⟩)
 ·split at e
  ·cases q:Vv _ _ with
   | none=>rw[q] at e;cases e
   | some c=>
    rw[q] at e;cases e;exact .inr (.inr ⟨_,_,c,ha.str_inv.1,hb.int_inv.1,by assumption,q,k _ H [] (Same.refl H) (Is.str _) λp hp=>by simp at hp⟩)
  ·cases e
 ·cases e
section
variable {X:Cx} {a b:aw} {fa fb:XE} {pos:dm}
theorem Zt(ha:VE X a fa)(hb:VE X b fb)(hs:NF b:=by exact λ_ _=>rfl):VE X (.Subscript a b pos) (Zh ZK fa fb):=AV C7 AX ha hb hs
end
abbrev XT:=ZS->Option Bool
def Mi(K:aG)(f:XT):TT:=λσ H Q=>∃(Rm:aH->Prop) (s:ZS) (c:Bool),(∀p,Rm p->UR (H p))/\EnvIs K Rm H s σ/\f s=aA c/\∀H',Same H H'->Q c H'
def VT(X:Cx)(e:aw)(f:XT):Prop:=PT X e (Mi X.K f)
def VW(X:Cx)(e:aw)(f:XT):Prop:=PW X e (Mi X.K f)
section
variable {X:Cx} {e:aw} {f:XT}
theorem PT.imp{t t':TT}(h:PT X e t)(i:∀σ H Q,t' σ H Q->t σ H Q):PT X e t':=λm3 s σ H Q I q=>h m3 s σ H Q I (i σ H Q q)
theorem PW.imp{t t':TT}(h:PW X e t)(i:∀σ H Q,t' σ H Q->t σ H Q):PW X e t':=λwhole m3 s σ H Q I q=>h whole m3 s σ H Q I (i σ H Q q)
theorem VW.vt(h:VW X e f):VT X e f:=PW.pt h
end
def xB(f:XE):XT:=λs=>match f s with | some (.bl c)=>aA c | _=>none
theorem Ro{f:XE}{s:ZS}{c:Bool}(h:xB f s=aA c):f s=aA (.bl c):=by
 unfold xB at h;split at h
 ·cases h;assumption
 ·cases h
section
variable {X:Cx} {a b c:aw} {m6:List aw} {fa fb:XE} {ga gb:XT} {pos:dm}
theorem Vh(h:VE X a fa)(he:∀whole,l5 a X.env whole=(do let v <-whole;standAt a.pos;holding [v] (truthy v)):=by intro _;rfl):VT X a (xB fa):=
 PT.imp (CJ h he) λσ H Q ⟨Rm,s,c,hd,env,e,k⟩=>⟨Rm,s,.bl c,hd,env,Ro e,λv H' fp sm i n=>⟨c,i.bl_inv.1,k H' sm⟩⟩
theorem Po:∀σ H Q,Mi K (xB fa) σ H Q->ON (tF K fa) σ H Q:=λσ H Q ⟨Rm,s,c,hd,env,e,k⟩=>⟨Rm,s,.bl c,hd,env,Ro e,λv H' fp sm i n=>⟨c,i.bl_inv.1,k H' sm⟩⟩
theorem SM{t t':TE}(i:∀σ H Q,t' σ H Q->t σ H Q):∀σ H Q,ON t' σ H Q->ON t σ H Q:=λσ H Q h=>i σ H _ h
theorem Tu{op:jJ}{r:R2}{g:PV->PV->Option PV}(ho:UA X (ba op) r)(hr:RB X.K r g)(ha:VE X a fa)(hb:VE X b fb)(hm:cP op b=aB):VT X (.Compare a [op] [b] pos) (xB (Zh g fa fb)):=
 PT.imp (Eb ho ha hb hm) λσ H Q h=>SM (K4 hr) σ H Q (Po σ H Q h)
theorem Ud(ha:VE X a fa)(hb:VE X b fb):VT X (.Compare a [.Lt] [b] pos) (xB (Zh Wb fa fb)):=Tu KP (UW _) ha hb (Tp _)
theorem AY(ha:VE X a fa)(hb:VE X b fb):VT X (.Compare a [.LtE] [b] pos) (xB (Zh Sz fa fb)):=Tu UB (UW _) ha hb (Tp _)
theorem SA(ha:VE X a fa)(hb:VE X b fb):VT X (.Compare a [.Gt] [b] pos) (xB (Zh T7 fa fb)):=Tu AD (UW _) ha hb (Tp _)
theorem D1(ha:VE X a fa)(hb:VE X b fb):VT X (.Compare a [.GtE] [b] pos) (xB (Zh DZ fa fb)):=Tu AE (UW _) ha hb (Tp _)
def Vi(a b:XT):XT:=λs=>(a s).bind λc=>if c=aC then b s else aA aB
def Ue(a b:XT):XT:=λs=>(a s).bind λc=>if c=aC then aA aC else b s
def YY(a:XT):XT:=λs=>(a s).map not
theorem EA:∀σ H Q,Mi K (Vi ga gb) σ H Q->Ak (Mi K ga) (Mi K gb) σ H Q:=λσ H Q ⟨Rm,s,c,hd,env,e,k⟩=>by
 unfold Vi at e
 cases q:ga s with
 | none=>rw[q] at e;cases e
 | some d=>
  rw[q] at e;refine⟨Rm,s,d,hd,env,q,λH1 s1=>?_⟩
  cases d with
  | true=>
   simp only[aD,if_true] at e;rw[mZ rfl];exact⟨Rm,s,c,λp hp=>Same.mut s1 (hd p hp),env.mono s1,e,λH2 s2=>k H2 (s1.trans s2)⟩
  | false=>
   simp only[aD,bS,if_false] at e;cases e;rw[ma a0];exact k H1 s1
theorem Bl:∀σ H Q,Mi K (Ue ga gb) σ H Q->tOr (Mi K ga) (Mi K gb) σ H Q:=λσ H Q ⟨Rm,s,c,hd,env,e,k⟩=>by
 unfold Ue at e
 cases q:ga s with
 | none=>rw[q] at e;cases e
 | some d=>
  rw[q] at e;refine⟨Rm,s,d,hd,env,q,λH1 s1=>?_⟩
  cases d with
  | true=>
   simp only[aD,if_true] at e;cases e;rw[mZ rfl];exact k H1 s1
  | false=>
   simp only[aD,bS,if_false] at e;rw[ma a0];exact⟨Rm,s,c,λp hp=>Same.mut s1 (hd p hp),env.mono s1,e,λH2 s2=>k H2 (s1.trans s2)⟩
theorem Ug(ha:VT X a ga):VW X (.BoolOp .And [a] pos) ga:=F4 ha
theorem VR(ha:VT X a ga):VW X (.BoolOp .Or [a] pos) ga:=CK ha
theorem Tv(ha:VT X a ga)(hb:VW X (.BoolOp .And (b::m6) pos) gb):VW X (.BoolOp .And (a::b::m6) pos) (Vi ga gb):=PW.imp (CM ha hb) EA
theorem Uh(ha:VT X a ga)(hb:VW X (.BoolOp .Or (b::m6) pos) gb):VW X (.BoolOp .Or (a::b::m6) pos) (Ue ga gb):=PW.imp (Al ha hb) Bl
theorem XJ(ha:VT X a ga):VT X (.UnaryOp .Not a pos) (YY ga):=PT.imp (CN ha) λσ H Q ⟨Rm,s,c,hd,env,e,k⟩=>by
 unfold YY at e
 cases q:ga s with
 | none=>rw[q] at e;cases e
 | some d=>rw[q] at e;cases e;exact⟨Rm,s,d,hd,env,q,k⟩
end
section
variable {X:Cx} {a b c:aw} {m6:List aw} {fa fb:XE} {gc:XT} {pos:dm}
def Ik(a b:XE):XE:=λs=>(xB a s).bind λc=>if c=aC then b s else aA (.bl aB)
def eOr(a b:XE):XE:=λs=>(xB a s).bind λc=>if c=aC then aA (.bl aC) else b s
def Zbs(a:XE):XE:=λs=>(xB a s).map λc=>.bl !c
def D2(c:XT)(a b:XE):XE:=λs=>(c s).bind λk=>if k=aC then a s else b s
theorem NK{op}(h:VE X a fa):VE X (.BoolOp op [a] pos) fa:=CO h
theorem LS(ha:VE X a fa)(hb:VE X (.BoolOp .And (b::m6) pos) fb):VE X (.BoolOp .And (a::b::m6) pos) (Ik fa fb):=PE.imp (CP ha hb) λσ H Q ⟨Rm,s,l,hd,env,e,k⟩=>by
 unfold Ik at e
 cases q:xB fa s with
 | none=>rw[q] at e;cases e
 | some d=>
  rw[q] at e;refine⟨Rm,s,.bl d,hd,env,Ro q,λv H1 fp s1 i1 _=>⟨d,i1.bl_inv.1,?_⟩⟩
  cases d with
  | true=>
   simp only[aD,if_true] at e;rw[mZ rfl];exact⟨Rm,s,l,λp hp=>Same.mut s1 (hd p hp),env.mono s1,e,λv2 H2 fp2 s2 i2 n2=>k v2 H2 fp2 (s1.trans s2) i2 n2⟩
  | false=>
   simp only[aD,bS,if_false] at e;cases e;rw[ma a0];exact k _ H1 [] s1 (Is.bl aB) λp hp=>by simp at hp
theorem AZ(ha:VE X a fa)(hb:VE X (.BoolOp .Or (b::m6) pos) fb):VE X (.BoolOp .Or (a::b::m6) pos) (eOr fa fb):=PE.imp (An ha hb) λσ H Q ⟨Rm,s,l,hd,env,e,k⟩=>by
 unfold eOr at e
 cases q:xB fa s with
 | none=>rw[q] at e;cases e
 | some d=>
  rw[q] at e;refine⟨Rm,s,.bl d,hd,env,Ro q,λv H1 fp s1 i1 _=>⟨d,i1.bl_inv.1,?_⟩⟩
  cases d with
  | true=>
   simp only[aD,if_true] at e;cases e;rw[mZ rfl];exact k _ H1 [] s1 (Is.bl aC) λp hp=>by simp at hp
  | false=>
   simp only[aD,bS,if_false] at e;rw[ma a0];exact⟨Rm,s,l,λp hp=>Same.mut s1 (hd p hp),env.mono s1,e,λv2 H2 fp2 s2 i2 n2=>k v2 H2 fp2 (s1.trans s2) i2 n2⟩
theorem D3(hc:VT X c gc)(ha:VE X a fa)(hb:VE X b fb):VE X (.IfExp c a b pos) (D2 gc fa fb):=PE.imp (Ml hc ha hb) λσ H Q ⟨Rm,s,l,hd,env,e,k⟩=>by
 unfold D2 at e
 cases q:gc s with
 | none=>rw[q] at e;cases e
 | some d=>
  rw[q] at e;refine⟨Rm,s,d,hd,env,q,λH1 s1=>?_⟩
  cases d with
  | true=>
   simp only[aD,if_true] at e;rw[mZ rfl];exact⟨Rm,s,l,λp hp=>Same.mut s1 (hd p hp),env.mono s1,e,λv2 H2 fp2 s2 i2 n2=>k v2 H2 fp2 (s1.trans s2) i2 n2⟩
  | false=>
   simp only[aD,bS,if_false] at e;rw[ma a0];exact⟨Rm,s,l,λp hp=>Same.mut s1 (hd p hp),env.mono s1,e,λv2 H2 fp2 s2 i2 n2=>k v2 H2 fp2 (s1.trans s2) i2 n2⟩
end
section
variable {X:Cx} {a b c:aw} {fa fb fc:XE} {pos:dm}
def Bm(neg:Bool):PV->Option PV
 | .non=>aA (.bl !neg)
 | _=>aA (.bl neg)
def Qf:PV->Bool
 | .non=>aC
 | _=>aB
theorem Pp{H:Hp}{l:PV}{v:V}{fp:List aH}(i:Is K H l v fp):decide (v=V.non)=Qf l:=by
 cases l with
 | non=>rw[i.non_inv.1];rfl
 | bl b=>rw[i.bl_inv.1];rfl
 | int j=>rw[i.int_inv.1];rfl
 | str y=>rw[i.str_inv.1];rfl
 | ty n=>rw[i.ty_inv.1];rfl
 | exc C=>simp only[Is] at i;obtain⟨⟨e,o,x,C,rfl,_⟩,_⟩:=i;rfl
 | exf C l=>simp only[Is] at i;obtain⟨⟨e,o,x,C,dx,od,u,z,rfl,_⟩,_⟩:=i;rfl
 | lst l=>obtain⟨p,xs,fq,rfl,_⟩:=i.lst_inv;rfl
 | cst l=>obtain⟨p,xs,rfl,_⟩:=i.cst_inv;rfl
 | tup l=>obtain⟨p,xs,rfl,_⟩:=i.tup_inv;rfl
 | dK ks l=>obtain⟨p,xs,fq,rfl,_⟩:=i.dK_inv;rfl
 | dT ks l=>obtain⟨p,xs,fq,rfl,_⟩:=i.dT_inv;rfl
def Vc(neg:Bool)(a:XE):XE:=λs=>(a s).bind (Bm neg)
theorem EB:∀σ H Q,tF K (Vc aB fa) σ H Q->Aj (tF K fa) σ H Q:=λσ H Q ⟨Rm,s,l,hd,env,e,k⟩=>by
 unfold Vc at e
 cases q:fa s with
 | none=>rw[q] at e;cases e
 | some m=>
  rw[q] at e;simp only[aD] at e;refine⟨Rm,s,m,hd,env,q,λv H1 fp s1 i1 _=>?_⟩;show Q _ H1;rw[Pp i1];have:l = .bl (Qf m):=by cases m<;>cases e<;>rfl
  subst this;exact k _ H1 [] s1 (Is.bl _) λp hp=>by simp at hp
theorem HX:∀σ H Q,tF K (Vc aC fa) σ H Q->DO (tF K fa) σ H Q:=λσ H Q ⟨Rm,s,l,hd,env,e,k⟩=>by
 unfold Vc at e
 cases q:fa s with
 | none=>rw[q] at e;cases e
 | some m=>
  rw[q] at e;simp only[aD] at e;refine⟨Rm,s,m,hd,env,q,λv H1 fp s1 i1 _=>?_⟩;show Q _ H1;rw[Pp i1];have:l = .bl (!Qf m):=by cases m<;>cases e<;>rfl
  subst this;exact k _ H1 [] s1 (Is.bl _) λp hp=>by simp at hp
theorem K6:∀σ H Q,Mi K (xB fa) σ H Q->tB (tF K fa) σ H Q:=λσ H Q ⟨Rm,s,c,hd,env,e,k⟩=>⟨Rm,s,.bl c,hd,env,Ro e,λv H' fp sm i n=>⟨c,i.bl_inv.1,k H' sm⟩⟩
theorem QS{t t':TE}(i:∀σ H Q,t' σ H Q->t σ H Q):∀σ H Q,tB t' σ H Q->tB t σ H Q:=λσ H Q h=>i σ H _ h
theorem HY{j pos'}(ha:VE X a fa):VT X (.Compare a [.Is] [.Constant .none j pos'] pos) (xB (Vc aB fa)):=PT.imp (NA (CI ha)) λσ H Q h=>QS EB σ H Q (K6 σ H Q h)
theorem K7{j pos'}(ha:VE X a fa):VT X (.Compare a [.IsNot] [.Constant .none j pos'] pos) (xB (Vc aC fa)):=PT.imp (NA (F3 ha)) λσ H Q h=>QS HX σ H Q (K6 σ H Q h)
def V8:PV->Option PV
 | .int i=>aA (.int (-i))
 | _=>none
def Pq(g:PV->Option PV)(a:XE):XE:=λs=>(a s).bind g
theorem SN(ha:VE X a fa):VE X (.UnaryOp .USub a pos) (Pq V8 fa):=PE.imp (Az C2 ha) λσ H Q ⟨Rm,s,l,hd,env,e,k⟩=>by
 unfold Pq at e
 cases q:fa s with
 | none=>rw[q] at e;cases e
 | some m=>
  rw[q] at e;simp only[aD] at e;unfold V8 at e;split at e
  ·cases e;exact⟨Rm,s,_,hd,env,q,λv H1 fp s1 i1 _=>⟨_,i1.int_inv.1,k _ H1 [] s1 (Is.int _) λp hp=>by simp at hp⟩⟩
  ·cases e
end
end VL
namespace VL
open PySem PySem.Spec PyProof.Rows L2
variable {K:aG}
def UX:List XE->ZS->Option (List PV)
 | [],_=>aA []
 | f::fs,s=>(f s).bind λx=>(UX fs s).map (x::·)
theorem Pr{f:XE}{fs:List XE}{s:ZS}{ls:List PV}(h:UX (f::fs) s=aA ls):∃x r,f s=aA x/\UX fs s=aA r/\ls=x::r:=by
 unfold UX at h
 cases q:f s with
 | none=>rw[q] at h;cases h
 | some x=>cases q2:UX fs s with
  | none=>rw[q,q2] at h;cases h
  | some r=>rw[q,q2] at h;cases h;exact⟨x,r,rfl,rfl,rfl⟩
theorem WI:∀{fs:List XE}{s:ZS}{ls:List PV},UX fs s=aA ls->ls.length=fs.length
 | [],_,_,h=>by cases h;rfl
 | f::fs,s,ls,h=>by obtain⟨x,r,_,h2,rfl⟩:=Pr h;rw[bK,bK,WI h2]
def tFA(K:aG)(fs:List XE):TA:=λσ H Q=>∃(Rm:aH->Prop) (s:ZS) (ls:List PV),(∀p,Rm p->UR (H p))/\EnvIs K Rm H s σ/\UX fs s=aA ls/\∀vs H' fp,Same H H'->Iss K H' ls vs fp->(∀p∈fp,¬Rm p)->Q vs H'
def tMA(K:aG)(fs:List XE):TA:=λσ H Q=>∃(s:ZS) (ls:List PV),EnvIs K (λ_=>False) H s σ/\UX fs s=aA ls/\∀vs H' fp,Same H H'->Iss K H' ls vs fp->fp.Nodup->(∀p∈fp,H p=none/\UR (H' p))->Q vs H'
def VA(X:Cx)(es:List aw)(fs:List XE):Prop:=PA X es (tFA X.K fs)
def B8(X:Cx)(es:List aw)(fs:List XE):Prop:=PA X es (tMA X.K fs)
section
variable {X:Cx} {e:aw} {es:List aw} {f:XE} {fs:List XE} {pos:dm} {k:Nat}
theorem PA.imp{t t':TA}(h:PA X es t)(i:∀σ H Q,t' σ H Q->t σ H Q):PA X es t':=λpos m3 s σ H Q I q=>h pos m3 s σ H Q I (i σ H Q q)
theorem Zi:VA X [] []:=PA.imp XI λσ H Q ⟨Rm,s,ls,hd,env,e,k⟩=>by
 cases e;exact k [] H [] (Same.refl H) Iss.nil λp hp=>by simp at hp
theorem Zc(ha:VE X e f)(hr:VA X es fs)(hs:aO (e::es) X.env=(aB,eval e X.env)::aO es X.env:=by rfl):VA X (e::es) (f::fs):=PA.imp (Yh ha hr hs) λσ H Q ⟨Rm,s,ls,hd,env,e,k⟩=>by
 obtain⟨x',r',h1,h2,rfl⟩:=Pr e;refine⟨Rm,s,x',hd,env,h1,λx H1 f1 s1 i1 n1=>⟨Rm,s,r',λp hp=>Same.mut s1 (hd p hp),env.mono s1,h2,λxs H2 f2 s2 i2 n2=>?_⟩⟩;refine k _ H2 (f1++f2) (s1.trans s2) (Iss.cons (i1.mono s2) i2) λp hp=>?_;rcases au.mp hp with h | h
 ·exact n1 p h
 ·exact n2 p h
theorem Vx:B8 X [] []:=PA.imp XI λσ H Q ⟨s,ls,env,e,k⟩=>by
 cases e;exact k [] H [] (Same.refl H) Iss.nil bx λp hp=>by simp at hp
theorem Xu(ha:VM X e f)(hr:B8 X es fs)(hs:aO (e::es) X.env=(aB,eval e X.env)::aO es X.env:=by rfl):B8 X (e::es) (f::fs):=PA.imp (Yh ha hr hs) λσ H Q ⟨s,ls,env,e,k⟩=>by
 obtain⟨x',r',h1,h2,rfl⟩:=Pr e;refine⟨s,x',env,h1,λx H1 f1 s1 i1 d1 n1=>⟨s,r',env.mono s1,h2,λxs H2 f2 s2 i2 d2 n2=>?_⟩⟩;refine k _ H2 (f1++f2) (s1.trans s2) (Iss.cons (i1.mono s2) i2) ?_ λp hp=>?_
 ·refine cX.mpr ⟨d1,d2,λa ha b hb z=>?_⟩;subst z;exact Xz (n1 a ha).2 (n2 a hb).1
 ·rcases au.mp hp with h | h
  ·exact⟨(n1 p h).1,Same.mut s2 (n1 p h).2⟩
  ·exact⟨Same.off s1 (n2 p h).1,(n2 p h).2⟩
def Yf(fs:List XE):XE:=λs=>(UX fs s).map .tup
def YO(fs:List XE):XE:=λs=>(UX fs s).map .lst
theorem map_some{α β:Type}{o:Option α}{g:α->β}{b:β}(h:o.map g=aA b):∃a,o=aA a/\b=g a:=by
 cases o with
 | none=>cases h
 | some a=>cases h;exact⟨a,rfl,rfl⟩
theorem Y5(h:VA X es fs)(hl:fs.length<=1000:=by decide):VE X (.Tuple es k pos) (Yf fs):=PE.imp (Pf h) λσ H Q ⟨Rm,s,l,hd,env,e,q⟩=>by
 obtain⟨ls,e1,rfl⟩:=map_some e;refine⟨Rm,s,ls,hd,env,e1,λvs H1 fp s1 i1 n1=>⟨?_,λp hp=>?_⟩⟩
 ·rw[i1.len,WI e1];exact cy (lt_size (by omega))
 ·exact q _ _ fp (s1.trans (Same.new hp _)) (Is.tup upd_same (i1.mono (Same.new hp _))) n1
theorem HZ(h:B8 X es fs)(hl:fs.length<=1000:=by decide):VM X (.Tuple es k pos) (Yf fs):=PE.imp (Pf h) λσ H Q ⟨s,l,env,e,q⟩=>by
 obtain⟨ls,e1,rfl⟩:=map_some e;refine⟨s,ls,env,e1,λvs H1 fp s1 i1 d1 n1=>⟨?_,λp hp=>?_⟩⟩
 ·rw[i1.len,WI e1];exact cy (lt_size (by omega))
 ·exact q _ _ fp (s1.trans (Same.new hp _)) (Is.tup upd_same (i1.mono (Same.new hp _))) d1 λa ha=>⟨(n1 a ha).1,Same.mut (Same.new hp _) (n1 a ha).2⟩
theorem Uw(h:VA X es fs)(hl:fs.length<=1000:=by decide):VE X (.List es pos) (YO fs):=PE.imp (LL h) λσ H Q ⟨Rm,s,l,hd,env,e,q⟩=>by
 obtain⟨ls,e1,rfl⟩:=map_some e;refine⟨Rm,s,ls,hd,env,e1,λvs H1 fp s1 i1 n1=>⟨?_,λp hp=>?_⟩⟩
 ·rw[i1.len,WI e1];exact cy (lt_size (by omega))
 ·refine q _ _ (p::fp) (s1.trans (Same.new hp _)) (Is.lst upd_same (i1.mono (Same.new hp _))) λa ha z=>?_;rcases aV.mp ha with rfl | ha
  ·exact Xz (Same.mut s1 (hd a z)) hp
  ·exact n1 a ha z
theorem SO(h:B8 X es fs)(hl:fs.length<=1000:=by decide):VM X (.List es pos) (YO fs):=PE.imp (LL h) λσ H Q ⟨s,l,env,e,q⟩=>by
 obtain⟨ls,e1,rfl⟩:=map_some e;refine⟨s,ls,env,e1,λvs H1 fp s1 i1 d1 n1=>⟨?_,λp hp=>?_⟩⟩
 ·rw[i1.len,WI e1];exact cy (lt_size (by omega))
 ·refine q _ _ (p::fp) (s1.trans (Same.new hp _)) (Is.lst upd_same (i1.mono (Same.new hp _))) (bP.mpr ⟨λz=>Xz (n1 p z).2 hp,d1⟩) λa ha=>?_;rcases aV.mp ha with rfl | ha
  ·exact⟨Same.off s1 hp,by rw[upd_same];exact cU⟩
  ·exact⟨(n1 a ha).1,Same.mut (Same.new hp _) (n1 a ha).2⟩
theorem Rp:VM X (.Dict [] [] pos) (eC (.dT [] [])):=PE.imp HQ λσ H Q ⟨s,l,env,e,q⟩ p hp=>by
 cases e;exact q _ _ [p] (Same.new hp _) (Is.dT upd_same rfl Iss.nil) (by simp) λa ha=>by rw[aP.mp ha];exact⟨hp,by rw[upd_same];exact cU⟩
end
def X9(K:aG)(D:List PV->Option PV)(n:Nat):Sp:=λvs H Q _=>vs.length=n/\∃ls fp l,Iss K H ls vs fp/\D ls=aA l/\∀v H' fq,Same H H'->Is K H' l v fq->fq.Nodup->(∀p∈fq,H p=none/\UR (H' p))->Q v H'
def Ze(D:List PV->Option PV)(fs:List XE):XE:=λs=>(UX fs s).bind D
theorem Zd{α β:Type}{o:Option α}{g:α->Option β}{b:β}(h:o.bind g=aA b):∃a,o=aA a/\g a=aA b:=by
 cases o with
 | none=>cases h
 | some a=>exact⟨a,rfl,h⟩
section
variable {X:Cx} {x:aR} {ps:List aR} {k:Nat} {e:aw} {es:List aw} {fs:List XE} {p pos:dm}
theorem Zx{D:List PV->Option PV}{n:Nat}(C:WD X.prog X.w X.K X.mg X.base x ps (X9 X.K D n) k)(hr:Room k X.A)(hg:Gl X x)(ha:VA X (e::es) fs)(hn:fs.length=n:=by rfl)
  (hdb:(x==("__debug__" : aR))=aB:=by decide) (he:aO (e::es) X.env=(aB,eval e X.env)::aO es X.env:=by rfl) (hpl:(cL pos (aO es X.env)).any (·.1)=aB:=by rfl) :
  VM X (.Call (.Name x p) (e::es) [] pos) (Ze D fs):=PE.imp (Bi C hr hg ha hdb he hpl) λσ H Q ⟨s,l,env,e,q⟩=>by
 obtain⟨ls,e1,e2⟩:=Zd e;refine⟨λ_=>False,s,ls,λ_ z=>z.elim,env,e1,λvs H1 fp s1 i1 n1=>?_⟩;show X9 X.K D n (vs++[]) H1 Q E0;rw[bI];exact⟨by rw[i1.len,WI e1,hn],ls,fp,l,i1,e2,λv H2 fq s2 i2 d2 n2=>q v H2 fq (s1.trans s2) i2 d2 λa ha=>⟨Same.off s1 (n2 a ha).1,(n2 a ha).2⟩⟩
end
def RC(K:aG)(r:List V->Hp->VK->Prop)(g:List PV->Option PV):Prop:=∀(H:Hp)(vs:List V)(ls:List PV)(l:PV)(fp:List aH),Iss K H ls vs fp->g ls=aA l->∀Q:VK,
 (∀v H' fq,Same H H'->Is K H' l v fq->(∀p∈fq,p∈fp\/H p=none)->Q v H')->r vs H Q
def RCM(K:aG)(r:List V->Hp->VK->Prop)(g:List PV->Option PV):Prop:=∀(H:Hp)(vs:List V)(ls:List PV)(l:PV)(fp:List aH),Iss K H ls vs fp->g ls=aA l->∀Q:VK,
 (∀v H' fq,Same H H'->Is K H' l v fq->fq.Nodup->(∀p∈fq,H p=none/\UR (H' p))->Q v H')->r vs H Q
theorem D4{r:List V->Hp->VK->Prop}{g:List PV->Option PV}{fs:List XE}(hr:RC K r g):∀σ H Q,tF K (Ze g fs) σ H Q->tCB r (tFA K fs) σ H Q:=λσ H Q ⟨Rm,s,l,hd,env,e,k⟩=>by
 obtain⟨ls,e1,e2⟩:=Zd e;refine⟨Rm,s,ls,hd,env,e1,λvs H1 fp s1 i1 n1=>hr H1 vs ls l fp i1 e2 Q λv H2 fq s2 i2 n2=>k v H2 fq (s1.trans s2) i2 λp hp z=>?_⟩;rcases n2 p hp with h | h
 ·exact n1 p h z
 ·exact Xz (Same.mut s1 (hd p z)) h
theorem A0{r:List V->Hp->VK->Prop}{g:List PV->Option PV}{fs:List XE}(hr:RCM K r g):∀σ H Q,tM K (Ze g fs) σ H Q->tCB r (tFA K fs) σ H Q:=λσ H Q ⟨s,l,env,e,k⟩=>by obtain⟨ls,e1,e2⟩:=Zd e;exact⟨λ_=>False,s,ls,λ_ z=>z.elim,env,e1,λvs H1 fp s1 i1 n1=>hr H1 vs ls l fp i1 e2 Q λv H2 fq s2 i2 d2 n2=>k v H2 fq (s1.trans s2) i2 d2 λp hp=>⟨Same.off s1 (n2 p hp).1,(n2 p hp).2⟩⟩
section
variable {X:Cx} {x:aR} {k:Nat} {e:aw} {es:List aw} {fs:List XE} {p pos:dm} {id T:String} {r:List V->Hp->VK->Prop} {g:List PV->Option PV}
theorem ZN(hc:W8 X (.builtin id) r)(hr:RC X.K r g)(hg:Gl X x)(hm:X.mg x=none)(hv:eD x=aA (.builtin id))(ha:VA X (e::es) fs)(hn:x≠"__name__":=by decide)(hdb:(x==("__debug__" : aR))=aB:=by decide)
  (he:aO (e::es) X.env=(aB,eval e X.env)::aO es X.env:=by rfl) (hpl:(cL pos (aO es X.env)).any (·.1)=aB:=by rfl):VE X (.Call (.Name x p) (e::es) [] pos) (Ze g fs):=
 PE.imp (Rb hc hg hm hv ha hn hdb he hpl) (D4 hr)
theorem ME(hc:W8 X (.builtin id) r)(hr:RCM X.K r g)(hg:Gl X x)(hm:X.mg x=none)(hv:eD x=aA (.builtin id))(ha:VA X (e::es) fs)(hn:x≠"__name__":=by decide)(hdb:(x==("__debug__" : aR))=aB:=by decide)
  (he:aO (e::es) X.env=(aB,eval e X.env)::aO es X.env:=by rfl) (hpl:(cL pos (aO es X.env)).any (·.1)=aB:=by rfl):VM X (.Call (.Name x p) (e::es) [] pos) (Ze g fs):=
 PE.imp (Rb hc hg hm hv ha hn hdb he hpl) (A0 hr)
theorem YE(hc:W8 X (.type T) r)(hr:RC X.K r g)(hg:Gl X x)(hm:X.mg x=none)(hv:eD x=aA (.type T))(ha:VA X (e::es) fs)(hn:x≠"__name__":=by decide)(hdb:(x==("__debug__" : aR))=aB:=by decide)
  (he:aO (e::es) X.env=(aB,eval e X.env)::aO es X.env:=by rfl) (hpl:(cL pos (aO es X.env)).any (·.1)=aB:=by rfl):VE X (.Call (.Name x p) (e::es) [] pos) (Ze g fs):=
 PE.imp (J5 hc hg hm hv ha hn hdb he hpl) (D4 hr)
end
theorem Iss.one_inv{H:Hp}{l:PV}{vs:List V}{fp:List aH}(h:Iss K H [l] vs fp):∃v,vs=[v]/\Is K H l v fp:=by obtain⟨x,r,f1,f2,rfl,a,b,rfl⟩:=h.inv;simp only[Iss] at b;rw[b.1,b.2,bI];exact⟨x,rfl,a⟩
theorem Iss.two_inv{H:Hp}{l m:PV}{vs:List V}{fp:List aH}(h:Iss K H [l,m] vs fp):∃v w f1 f2,vs=[v,w]/\Is K H l v f1/\Is K H m w f2/\fp=f1++f2:=by obtain⟨x,r,f1,f2,rfl,a,b,rfl⟩:=h.inv;obtain⟨y,rfl,c⟩:=b.one_inv;exact⟨x,y,f1,f2,rfl,a,c,rfl⟩
def MF:PV->Option (List PV)
 | .lst l=>aA l
 | .cst l=>aA l
 | .tup l=>aA l
 | _=>none
theorem QU{H:Hp}{l:PV}{v:V}{fp:List aH}{m:List PV}(h:Is K H l v fp)(e:MF l=aA m):∃p xs fq,v = .ref p/\(SqL K H p xs\/SqT K H p xs)/\Iss K H m xs fq/\∀q∈fq,q∈fp:=by
 cases l with
 | lst l=>
  cases e;obtain⟨p,xs,fq,rfl,hp,hi,rfl⟩:=h.lst_inv;exact⟨p,xs,fq,rfl,.inl (SqL.of hp),hi,λq hq=>aQ _ hq⟩
 | cst l=>
  cases e;obtain⟨p,xs,rfl,hp,hi⟩:=h.cst_inv;exact⟨p,xs,fp,rfl,.inl hp.sq,hi,λq hq=>hq⟩
 | tup l=>
  cases e;obtain⟨p,xs,rfl,hp,hi⟩:=h.tup_inv;exact⟨p,xs,fp,rfl,.inr (SqT.of hp),hi,λq hq=>hq⟩
 | _=>cases e
def ZR:List PV->Option PV
 | [.str z]=>if z.length<=sizeLine then aA (.int z.length) else none
 | [l]=>(MF l).map λm=>.int m.length
 | _=>none
theorem YZ:RC K (λxs H Q=>∃x n,xs=[x]/\AF K x H n/\Q (.int n) H) ZR:=λH vs ls l fp h e Q k=>by
 unfold ZR at e;split at e
 ·split at e
  ·cases e;obtain⟨v,rfl,i⟩:=h.one_inv;exact⟨v,_,rfl,by rw[i.str_inv.1];exact⟨by assumption,rfl⟩,k _ H [] (Same.refl H) (Is.int _) λp hp=>by simp at hp⟩
  ·cases e
 ·obtain⟨m,e1,rfl⟩:=map_some e;obtain⟨v,rfl,i⟩:=h.one_inv;obtain⟨p,xs,fq,rfl,hp,hi,_⟩:=QU (K:=K) i e1;refine⟨_,xs.length,rfl,?_,?_⟩
  ·rcases hp with hp | hp
   ·exact .inl ⟨xs,hp,rfl⟩
   ·exact .inr ⟨xs,hp,rfl⟩
  ·rw[hi.len];exact k _ H [] (Same.refl H) (Is.int _) λp hp=>by simp at hp
 ·cases e
def Y6:List PV->Option PV
 | [l]=>(MF l).map .tup
 | _=>none
theorem Vd:RC K (Bj K) Y6:=λH vs ls l fp h e Q k=>by
 unfold Y6 at e;split at e
 ·obtain⟨m,e1,rfl⟩:=map_some e;obtain⟨v,rfl,i⟩:=h.one_inv;rename_i l0
  cases l0 with
  | tup l=>
   cases e1;obtain⟨p,xs,rfl,hp,hi⟩:=id i.tup_inv;exact⟨p,xs,rfl,.inr ⟨SqT.of hp,k _ H fp (Same.refl H) i λa ha=>.inl ha⟩⟩
  | lst l=>
   cases e1;obtain⟨p,xs,fq,rfl,hp,hi,rfl⟩:=i.lst_inv;exact⟨p,xs,rfl,.inl ⟨SqL.of hp,λq hq=>k _ _ fq (Same.new hq _) (Is.tup upd_same (hi.mono (Same.new hq _))) λa ha=>.inl (aQ _ ha)⟩⟩
  | cst l=>
   cases e1;obtain⟨p,xs,rfl,hp,hi⟩:=i.cst_inv;exact⟨p,xs,rfl,.inl ⟨hp.sq,λq hq=>k _ _ fp (Same.new hq _) (Is.tup upd_same (hi.mono (Same.new hq _))) λa ha=>.inl ha⟩⟩
  | _=>cases e1
 ·cases e
def H9:List PV->Option PV
 | [l]=>(MF l).bind λm=>if ZZ m=aC then aA (.lst m) else none
 | _=>none
def Ws:List PV->Option (List Int)
 | []=>aA []
 | .int i::r=>(Ws r).map (i::·)
 | _=>none
theorem Wv:∀l:List Int,Ws (iL l)=aA l
 | []=>rfl
 | i::r=>by show(Ws (iL r)).map (i::·)=_;rw[Wv r];rfl
theorem Ui:∀{m:List PV}{l:List Int},Ws m=aA l->m=iL l
 | [],l,h=>by cases h;rfl
 | .int i::r,l,h=>by obtain⟨a,e,rfl⟩:=map_some (show(Ws r).map (i::·)=aA l from h);rw[Ui e];rfl
 | .non::_,_,h=>by cases h
 | .bl _::_,_,h=>by cases h
 | .str _::_,_,h=>by cases h
 | .ty _::_,_,h=>by cases h
 | .exc _::_,_,h=>by cases h
 | .exf _ _::_,_,h=>by cases h
 | .tup _::_,_,h=>by cases h
 | .lst _::_,_,h=>by cases h
 | .cst _::_,_,h=>by cases h
 | .dK _ _::_,_,h=>by cases h
 | .dT _ _::_,_,h=>by cases h
abbrev bL(l:List Bool):List PV:=l.map PV.bl
def Uj:List PV->Option (List Bool)
 | []=>aA []
 | .bl i::r=>(Uj r).map (i::·)
 | _=>none
theorem SD:∀l:List Bool,Uj (bL l)=aA l
 | []=>rfl
 | i::r=>by show(Uj (bL r)).map (i::·)=_;rw[SD r];rfl
theorem Vy:∀{m:List PV}{l:List Bool},Uj m=aA l->m=bL l
 | [],l,h=>by cases h;rfl
 | .bl i::r,l,h=>by obtain⟨a,e,rfl⟩:=map_some (show(Uj r).map (i::·)=aA l from h);rw[Vy e];rfl
 | .non::_,_,h=>by cases h
 | .int _::_,_,h=>by cases h
 | .str _::_,_,h=>by cases h
 | .ty _::_,_,h=>by cases h
 | .exc _::_,_,h=>by cases h
 | .exf _ _::_,_,h=>by cases h
 | .tup _::_,_,h=>by cases h
 | .lst _::_,_,h=>by cases h
 | .cst _::_,_,h=>by cases h
 | .dK _ _::_,_,h=>by cases h
 | .dT _ _::_,_,h=>by cases h
theorem Iss.bL{H:Hp}:∀{l:List Bool}{xs:List V}{fp:List aH},Iss K H (VL.bL l) xs fp->xs=l.map V.bl/\fp=[]
 | [],xs,fp,h=>by simpa only[VL.bL,dZ,Iss] using h
 | i::l,xs,fp,h=>by obtain⟨x,r,f1,f2,rfl,h1,h2,rfl⟩:=Iss.inv (show Iss K H (PV.bl i::VL.bL l) xs fp from h);obtain⟨rfl,rfl⟩:=h1.bl_inv;obtain⟨rfl,rfl⟩:=h2.bL;exact⟨rfl,rfl⟩
theorem Bn{H:Hp}{p:aH}{xs:List V}(h:SqL K H p xs\/SqT K H p xs):∃b,HA b K H p xs:=by
 rcases h with h | h
 ·exact⟨aC,h⟩
 ·exact⟨aB,h⟩
def OC:List PV->Option PV
 | [l]=>(MF l).bind λm=>(Uj m).map λbs=>.bl (bs.all id)
 | _=>none
theorem Ga:RC K (λxs H Q=>∃(b:Bool) (p:aH) (bs:List Bool),xs=[.ref p]/\HA b K H p (bs.map V.bl)/\Q (.bl (bs.all id)) H) OC:=λH vs ls l fp h e Q k=>by
 unfold OC at e;split at e
 ·obtain⟨m,e1,e2⟩:=Zd e;obtain⟨ns,e3,rfl⟩:=map_some e2;obtain⟨v,rfl,i⟩:=h.one_inv;obtain⟨p,xs,fq,rfl,hp,hi,hs⟩:=QU (K:=K) i e1;have em:=Vy e3;subst em;obtain⟨rfl,rfl⟩:=hi.bL;obtain⟨b,hb⟩:=Bn hp;exact⟨b,p,ns,rfl,hb,k _ H [] (Same.refl H) (Is.bl _) λp hp=>by simp at hp⟩
 ·cases e
def Te:List PV->Option PV
 | [.int i,.int j]=>aA (.int (if j<i then j else i))
 | _=>none
def OZ:List PV->Option PV
 | [.int i,.int j]=>aA (.int (if j>i then j else i))
 | _=>none
def MG:List PV->Option PV
 | [.int i]=>aA (.int i)
 | [.bl c]=>aA (.int (if c then 1 else 0))
 | _=>none
theorem NL:RC K (λxs H Q=>∃i j,xs=[.int i,.int j]/\Q (.int (if j<i then j else i)) H) Te:=λH vs ls l fp h e Q k=>by
 unfold Te at e;split at e
 ·cases e;obtain⟨v,w,f1,f2,rfl,a,b,rfl⟩:=h.two_inv;exact⟨_,_,by rw[a.int_inv.1,b.int_inv.1],k _ H [] (Same.refl H) (Is.int _) λp hp=>by simp at hp⟩
 ·cases e
theorem EC:RC K (λxs H Q=>∃i j,xs=[.int i,.int j]/\Q (.int (if j>i then j else i)) H) OZ:=λH vs ls l fp h e Q k=>by
 unfold OZ at e;split at e
 ·cases e;obtain⟨v,w,f1,f2,rfl,a,b,rfl⟩:=h.two_inv;exact⟨_,_,by rw[a.int_inv.1,b.int_inv.1],k _ H [] (Same.refl H) (Is.int _) λp hp=>by simp at hp⟩
 ·cases e
theorem ED:RC K (λxs H Q=>(∃i,xs=[.int i]/\Q (.int i) H)\/∃k,xs=[.bl k]/\Q (.int (if k then 1 else 0)) H) MG:=λH vs ls l fp h e Q k=>by
 unfold MG at e;split at e
 ·cases e;obtain⟨v,rfl,a⟩:=h.one_inv;exact .inl ⟨_,by rw[a.int_inv.1],k _ H [] (Same.refl H) (Is.int _) λp hp=>by simp at hp⟩
 ·cases e;obtain⟨v,rfl,a⟩:=h.one_inv;exact .inr ⟨_,by rw[a.bl_inv.1],k _ H [] (Same.refl H) (Is.int _) λp hp=>by simp at hp⟩
 ·cases e
section
variable {X:Cx} {e:aw} {es:List aw} {fs:List XE} {p pos:dm}
def K8:List PV->Option PV
 | [.int _,.ty "int"]=>aA (.bl aC)
 | [.int _,.ty "bool"]=>aA (.bl aB)
 | [.bl _,.ty "bool"]=>aA (.bl aC)
 | [.tup _,.ty "tuple"]=>aA (.bl aC)
 | [.lst _,.ty "list"]=>aA (.bl aC)
 | [.str _,.ty "str"]=>aA (.bl aC)
 | _=>none
end
end VL
namespace VL
open PySem PySem.Spec PyProof.Rows L2
variable {K:aG}
open Classical in
instance:DecidableEq PV:=λa b=>propDecidable (a=b)
def Wc:Nat->PV->PV->Bool
 | _+1,.non,.non=>aC
 | _+1,.bl _,.bl _=>aC
 | _+1,.int _,.int _=>aC
 | _+1,.str _,.str _=>aC
 | n+1,.tup l,.tup m=>(l.zip m).all λz=>Wc n z.1 z.2
 | n+1,.lst l,.lst m=>(l.zip m).all λz=>Wc n z.1 z.2
 | _,_,_=>aB
theorem Rq{α β:Type}{p:α×β->Bool}{a:α}{b:β}{l:List α}{m:List β}(h:((a::l).zip (b::m)).all p=aC):p (a,b)=aC/\(l.zip m).all p=aC:=by rw[dB,gJ,bE] at h;exact h
theorem Iss.inj'{n:Nat}{H:Hp}(ih:∀a b v fa fb,Wc n a b=aC->Is K H a v fa->Is K H b v fb->a=b):∀{l m:List PV}{xs:List V}{fa fb:List aH},(l.zip m).all (λz=>Wc n z.1 z.2)=aC->Iss K H l xs fa->Iss K H m xs fb->l=m
 | [],m,xs,fa,fb,_,h,h'=>by
  simp only[Iss] at h;rw[h.1] at h';have:=h'.len
  cases m with
  | nil=>rfl
  | cons _ _=>simp at this
 | a::l,m,xs,fa,fb,hc,h,h'=>by
  obtain⟨x,r,f1,f2,rfl,h1,h2,rfl⟩:=h.inv
  cases m with
  | nil=>have:=h'.len;simp at this
  | cons b m=>
   obtain⟨x',r',g1,g2,e,h3,h4,rfl⟩:=h'.inv;cases e;obtain⟨c1,c2⟩:=Rq hc;rw[ih a b x f1 g1 c1 h1 h3,Iss.inj' ih c2 h2 h4]
theorem Is.inj'{H:Hp}:∀(n:Nat)(a b:PV)(v:V)(fa fb:List aH),Wc n a b=aC->Is K H a v fa->Is K H b v fb->a=b
 | 0,a,b,v,fa,fb,hc,_,_=>by unfold Wc at hc;simp at hc
 | n+1,a,b,v,fa,fb,hc,ha,hb=>by
  cases a<;>cases b<;>first
   | (exfalso;revert hc;unfold Wc;simp;done)
   | skip
  ·rfl
  ·rw[ha.bl_inv.1] at hb;have:=hb.bl_inv.1;cases this;rfl
  ·rw[ha.int_inv.1] at hb;have:=hb.int_inv.1;cases this;rfl
  ·rw[ha.str_inv.1] at hb;have:=hb.str_inv.1;cases this;rfl
  ·obtain⟨p,xs,rfl,hp,hi⟩:=ha.tup_inv;obtain⟨p',ys,e,hp',hi'⟩:=hb.tup_inv;cases e;rw[hp] at hp';cases hp';unfold Wc at hc;rw[Iss.inj' (Is.inj' n) hc hi hi']
  ·obtain⟨p,xs,fq,rfl,hp,hi,_⟩:=ha.lst_inv;obtain⟨p',ys,fq',e,hp',hi',_⟩:=hb.lst_inv;cases e;rw[hp] at hp';cases hp';unfold Wc at hc;rw[Iss.inj' (Is.inj' n) hc hi hi']
section
variable {X:Cx} {m3:List (aH×ck)} {σ:SK} {H:Hp} {s:aI} {A:b5}
theorem LU{n:Nat}(ih:∀a b x y fa fb u w,Wc n a b=aC->Is K H a x fa->Is K H b y fb->RelV x u->RelV y w->∃r,j8 A s u w r/\(r=aC↔a=b)) :
  ∀{l m:List PV}{xs ys:List V}{fa fb:List aH}{us ws:List aE},(l.zip m).all (λz=>Wc n z.1 z.2)=aC->Iss K H l xs fa->Iss K H m ys fb->Vals xs us->Vals ys ws->
  ∃e:Nat->Bool,(∀j (h1:j<us.length) (h2:j<ws.length),j8 A s us[j] ws[j] (e j))/\((bN (min us.length ws.length)).all e=aC↔l.take (min us.length ws.length)=m.take (min us.length ws.length))
 | [],m,xs,ys,fa,fb,us,ws,_,h,_,r,_=>by simp only[Iss] at h;obtain⟨rfl,_⟩:=h;cases r;exact⟨λ_=>aC,λj h1=>by simp at h1,by simp⟩
 | a::l,[],xs,ys,fa,fb,us,ws,_,_,h,_,r=>by simp only[Iss] at h;obtain⟨rfl,_⟩:=h;cases r;exact⟨λ_=>aC,λj h1 h2=>by simp at h2,by simp⟩
 | a::l,b::m,xs,ys,fa,fb,us,ws,hc,h,h',r,r'=>by
  obtain⟨x,xr,f1,f2,rfl,h1,h2,rfl⟩:=h.inv;obtain⟨y,yr,g1,g2,rfl,h3,h4,rfl⟩:=h'.inv;obtain⟨c1,c2⟩:=Rq hc
  cases r with
  | cons q v=>cases r' with
   | cons q' v'=>
    obtain⟨t,ht,ht'⟩:=ih a b x y f1 g1 _ _ c1 h1 h3 q q';obtain⟨e,he,he'⟩:=LU ih c2 h2 h4 v v';refine⟨λj=>match j with | 0=>t | k+1=>e k,λj h1 h2=>?_,?_⟩
    ·cases j with
     | zero=>exact ht
     | succ k=>exact he k (by simpa using h1) (by simpa using h2)
    ·simp only[bK,Nat.succ_min_succ,List.range_succ_eq_map,gJ,iI,bE,List.take_succ_cons,fM];exact and_congr ht' he'
theorem Iss.same'{l m:List PV}{xs ys:List V}{fa fb:List aH}{us ws:List aE}(h:Iss K H l xs fa)(h':Iss K H m ys fb)(r:Vals xs us)(r':Vals ys ws) :
  (l.take (min us.length ws.length)=m.take (min us.length ws.length)/\us.length=ws.length)↔l=m:=by
 have e1:=h.len;have e2:=h'.len;have e3:=r.length;have e4:=r'.length;constructor
 ·rintro⟨a,b⟩;rw[eI (by omega),eI (by omega)] at a;exact a
 ·intro a;subst a;exact⟨rfl,by omega⟩
def D5(A:b5)(s:aI)(u w:aE)(r:Bool):Prop:=SeqAt.RcAt A s u w r/\SeqAt.RcNeAt A s u w !r
theorem Pt(I:Inv X m3 σ H s):∀(n:Nat)(A:b5)(a b:PV)(x y:V)(fa fb:List aH)(u w:aE),A.units+2*n+2<eJ->Wc n a b=aC->Is K H a x fa->Is K H b y fb->RelV x u->RelV y w->
  (∃r,j8 A s u w r/\(r=aC↔a=b))/\∃r,D5 A s u w r/\(r=aC↔a=b)
 | 0,A,a,b,x,y,fa,fb,u,w,hu,hc,_,_,_,_=>by unfold Wc at hc;simp at hc
 | n+1,A,a,b,x,y,fa,fb,u,w,hu,hc,ha,hb,ru,rw'=>by
  cases a<;>cases b<;>first
   | (exfalso;revert hc;unfold Wc;simp;done)
   | skip
  ·rw[ha.non_inv.1] at ru;rw[hb.non_inv.1] at rw';cases ru;cases rw';exact⟨⟨aC,jg _,by simp⟩,aC,⟨SeqAt.RcAt.none_none,SeqAt.RcNeAt.none_none⟩,by simp⟩
  ·rw[ha.bl_inv.1] at ru;rw[hb.bl_inv.1] at rw';cases ru;cases rw';exact⟨⟨_,gv _ _,by simp⟩,_,⟨SeqAt.RcAt.bool_bool _ _,SeqAt.RcNeAt.bool_bool _ _⟩,by simp⟩
  ·rw[ha.int_inv.1] at ru;rw[hb.int_inv.1] at rw';obtain⟨t,rfl⟩:=ru;obtain⟨t',rfl⟩:=rw';exact⟨⟨_,j8.int_int _ _ _ _,by simp⟩,_,⟨SeqAt.RcAt.int_int _ _ _ _,SeqAt.RcNeAt.int_int _ _ _ _⟩,by simp⟩
  ·rw[ha.str_inv.1] at ru;rw[hb.str_inv.1] at rw';obtain⟨t,rfl⟩:=ru;obtain⟨t',rfl⟩:=rw';exact⟨⟨_,j8.str_str _ _ _ _,by simp⟩,_,⟨SeqAt.RcAt.str_str _ _ _ _,SeqAt.RcNeAt.str_str _ _ _ _⟩,by simp⟩
  ·rename_i l1 l2;obtain⟨p,xs,rfl,hp,hi⟩:=id ha.tup_inv;obtain⟨p',ys,rfl,hp',hi'⟩:=id hb.tup_inv;cases ru;cases rw';have hc':=hc;unfold Wc at hc';obtain⟨us,rv,q,_⟩:=I.tuple (SqT.of hp);obtain⟨ws,rv',q',_⟩:=I.tuple (SqT.of hp');obtain⟨f,hf,hf'⟩:=LU (A:=A.in1) (λa b x y fa fb u w c i1 i2 r1 r2=>(Pt I n A.in1 a b x y fa fb u w (by show A.units+1+2*n+2<eJ;omega) c i1 i2 r1 r2).1) hc' hi hi' rv rv';have rc:=SeqAt.RcAt.tuples (A:=A) (e:=f) (show s.heap.IsTuple p us.toArray from q) (show s.heap.IsTuple p' ws.toArray from q') (by omega) (λj h1 h2=>hf j (by simpa using h1) (by simpa using h2));have rn:=SeqAt.RcNeAt.tuples (A:=A) (e:=f) (show s.heap.IsTuple p us.toArray from q) (show s.heap.IsTuple p' ws.toArray from q') (by omega) (λj h1 h2=>hf j (by simpa using h1) (by simpa using h2));have key:(((bN (min us.toArray.size ws.toArray.size)).all f&&us.toArray.size==ws.toArray.size)=aC)↔PV.tup l1=PV.tup l2:=by simp only[aj,bE,beq_iff_eq,PV.tup.injEq];rw[hf'];exact Iss.same' hi hi' rv rv'
   refine⟨?_,_,⟨rc,rn⟩,key⟩;by_cases e:p=p'
   ·subst e;exact⟨aC,jg _,by simp[Is.inj' (n+1) _ _ _ _ _ hc ha hb]⟩
   ·exact⟨_,ka e rc,key⟩
  ·rename_i l1 l2;obtain⟨p,xs,fq,rfl,hp,hi,_⟩:=id ha.lst_inv;obtain⟨p',ys,fq',rfl,hp',hi',_⟩:=id hb.lst_inv;cases ru;cases rw';have hc':=hc;unfold Wc at hc';obtain⟨us,rv,q,_⟩:=I.list (SqL.of hp);obtain⟨ws,rv',q',_⟩:=I.list (SqL.of hp');obtain⟨f,hf,hf'⟩:=LU (A:=A.in1) (λa b x y fa fb u w c i1 i2 r1 r2=>(Pt I n A.in1 a b x y fa fb u w (by show A.units+1+2*n+2<eJ;omega) c i1 i2 r1 r2).1) hc' hi hi' rv rv'
   have fin:∃r,D5 A s (.ref p) (.ref p') r/\(r=aC↔PV.lst l1=PV.lst l2):=by
    have key:=Iss.same' hi hi' rv rv';by_cases hsz:us.length=ws.length
    ·refine⟨_,⟨SeqAt.RcAt.lists (e:=f) q.isList q'.isList (by simpa using hsz) (by omega) (λj h1 h2=>hf j (by simpa using h1) (by simpa using h2)),SeqAt.RcNeAt.lists (e:=f) q.isList q'.isList (by simpa using hsz) (by omega) (λj h1 h2=>hf j (by simpa using h1) (by simpa using h2))⟩,?_⟩;rw[hsz,Nat.min_self] at hf' key;simp only[aj,PV.lst.injEq];rw[hsz,hf',<-key];simp
    ·refine⟨aB,⟨SeqAt.RcAt.lists_lengths q.isList q'.isList (by simpa using hsz) (by omega),SeqAt.RcNeAt.lists_lengths q.isList q'.isList (by simpa using hsz) (by omega)⟩,?_⟩;rw[PV.lst.injEq,<-key];simp[hsz]
   obtain⟨r,hr,hk⟩:=fin;refine⟨?_,r,hr,hk⟩;by_cases e:p=p'
   ·subst e;exact⟨aC,jg _,by simp[Is.inj' (n+1) _ _ _ _ _ hc ha hb]⟩
   ·exact⟨r,ka e hr.1,hk⟩
end
def Bo(K:aG)(neg:Bool):R2:=λx y H Q=>∃a b fa fb,Is K H a x fa/\Is K H b y fb/\Wc 8 a b=aC/\∀r:Bool,(r=aC↔a=b)->Q (.bl (if neg then !r else r)) H
section
variable {X:Cx}
theorem Gb(hu:X.A.units+64<eJ):UA X (ba .Eq) (Bo X.K aB):=by intro m3 s σ H x y v u Q I rx ry h;obtain⟨a,b,fa,fb,ha,hb,hc,q⟩:=h;obtain⟨_,r,hr,hk⟩:=Pt I 8 X.A a b x y fa fb v u (by omega) hc ha hb rx ry;exact hr.1 X.prog X.w X.xe _ ⟨.bl r,H,I,rfl,q r hk⟩
theorem Gd(hu:X.A.units+64<eJ):UA X (ba .NotEq) (Bo X.K aC):=by intro m3 s σ H x y v u Q I rx ry h;obtain⟨a,b,fa,fb,ha,hb,hc,q⟩:=h;obtain⟨_,r,hr,hk⟩:=Pt I 8 X.A a b x y fa fb v u (by omega) hc ha hb rx ry;exact hr.2 X.prog X.w X.xe _ ⟨.bl !r,H,I,rfl,q r hk⟩
end
def YJ(neg:Bool):PV->PV->Option PV:=λa b=>if Wc 8 a b=aC then aA (.bl (if neg then !decide (a=b) else decide (a=b))) else none
theorem NM(neg:Bool):RB K (Bo K neg) (YJ neg):=λH x y a b l fa fb ha hb e Q k=>by
 unfold YJ at e;split at e
 ·cases e;refine⟨a,b,fa,fb,ha,hb,by assumption,λr hr=>?_⟩
  have:r=decide (a=b):=by
   cases r with
   | true=>exact(decide_eq_true (hr.mp rfl)).symm
   | false=>exact(decide_eq_false λz=>a0 (hr.mpr z)).symm
  subst this;exact k _ H [] (Same.refl H) (Is.bl _) λp hp=>by simp at hp
 ·cases e
def Bp(K:aG)(neg:Bool):R2:=λx y H Q=>∃a b m fa fb,Is K H a x fa/\Is K H b y fb/\MF b=aA m/\(m.all λz=>Wc 8 z a)=aC/\∀r:Bool,(r=aC↔a∈m)->Q (.bl (if neg then !r else r)) H
section
variable {X:Cx} {m3:List (aH×ck)} {σ:SK} {H:Hp} {s:aI}
theorem QV{a:PV}{x:V}{fa:List aH}{u:aE}{A:b5}(I:Inv X m3 σ H s)(hu:A.units+18<eJ)(ha:Is K H a x fa)(rx:RelV x u):∀{m:List PV}{xs:List V}{fb:List aH}{us:List aE},(m.all λz=>Wc 8 z a)=aC->Iss K H m xs fb->Vals xs us->
  ∃e:aE->Bool,(∀y∈us,j8 A s y u (e y))/\(us.any e=aC↔a∈m):=λ{m xs fb us} hc h r=>by
 -- each one's answer
 have each:∀y∈us,∃t:Bool,j8 A s y u t/\(t=aC↔∃b,b∈m/\b=a/\∃z f,Is K H b z f/\RelV z y):=λy hy=>by obtain⟨j,hj,e⟩:=gq.mp hy;have hl:=r.length;have hxj:xs[j]?=aA xs[j]:=aK (by omega);obtain⟨b,f,hb,ib,_⟩:=h.get' hxj;obtain⟨w,hw,rw'⟩:=r.get hxj;rw[aK hj] at hw;cases hw;rw[e] at rw';have hbm:b∈m:=b7 hb;have cb:=bB.mp hc b hbm;obtain⟨⟨t,ht,hk⟩,_⟩:=Pt I 8 A b a xs[j] x f fa y u (by omega) cb ib ha rw' rx;refine⟨t,ht,hk.trans ⟨λz=>⟨b,hbm,z,xs[j],f,ib,rw'⟩,λ⟨b',hb',e',z,f',i',r'⟩=>?_⟩⟩;have ez:z=xs[j]:=r'.inj rw';subst ez;have cb':=bB.mp hc b' hb';subst e';exact Is.inj' 8 b b' _ _ _ cb ib i'
 classical
 refine⟨λy=>if hy:y∈us then(each y hy).choose else aB,λy hy=>?_,?_⟩
 ·simp only[dif_pos hy];exact(each y hy).choose_spec.1
 ·rw[jN];constructor
  ·rintro⟨y,hy,e⟩;rw[dif_pos hy] at e;obtain⟨b,hb,rfl,_⟩:=(each y hy).choose_spec.2.mp e;exact hb
  ·intro hm;obtain⟨j,hj,e⟩:=gq.mp hm;obtain⟨z,f,hz,iz,_⟩:=h.get (aK hj);obtain⟨y,hy,ry⟩:=r.get hz;have hyu:y∈us:=b7 hy;refine⟨y,hyu,?_⟩;rw[dif_pos hyu];exact(each y hyu).choose_spec.2.mpr ⟨a,hm,rfl,z,f,e▸iz,ry⟩
end
section
variable {X:Cx}
theorem Bq(hu:X.A.units+64<eJ):UA X (ba .In) (Bp X.K aB):=by
 intro m3 s σ H x y v u Q I rx ry h;obtain⟨a,b,m,fa,fb,ha,hb,hm,hc,q⟩:=h;obtain⟨p,xs,fq,rfl,hp,hi,_⟩:=QU (K:=X.K) hb hm;cases ry;rcases hp with hp | hp
 ·obtain⟨us,rv,t,_⟩:=I.list hp;obtain⟨e,he,hk⟩:=QV (A:=X.A.in1) I (by show X.A.units+1+18<eJ;omega) ha rx hc hi rv;refine SeqAt.in_listAt e t.isList (λw hw=>he w (by simpa using hw)) ⟨.bl _,H,I,rfl,?_⟩;rw[show us.toArray.any e=us.any e by simp];exact q _ hk
 ·obtain⟨us,rv,t,_⟩:=I.tuple hp;obtain⟨e,he,hk⟩:=QV (A:=X.A.in1) I (by show X.A.units+1+18<eJ;omega) ha rx hc hi rv;refine SeqAt.in_tupleAt e t (λw hw=>he w (by simpa using hw)) ⟨.bl _,H,I,rfl,?_⟩;rw[show us.toArray.any e=us.any e by simp];exact q _ hk
theorem Il(hu:X.A.units+64<eJ):UA X (ba .NotIn) (Bp X.K aC):=by
 intro m3 s σ H x y v u Q I rx ry h;obtain⟨a,b,m,fa,fb,ha,hb,hm,hc,q⟩:=h;obtain⟨p,xs,fq,rfl,hp,hi,_⟩:=QU (K:=X.K) hb hm;cases ry;rcases hp with hp | hp
 ·obtain⟨us,rv,t,_⟩:=I.list hp;obtain⟨e,he,hk⟩:=QV (A:=X.A.in1) I (by show X.A.units+1+18<eJ;omega) ha rx hc hi rv;refine SeqAt.notIn_listAt e t.isList (λw hw=>he w (by simpa using hw)) ⟨.bl _,H,I,rfl,?_⟩;rw[show us.toArray.any e=us.any e by simp];exact q _ hk
 ·obtain⟨us,rv,t,_⟩:=I.tuple hp;obtain⟨e,he,hk⟩:=QV (A:=X.A.in1) I (by show X.A.units+1+18<eJ;omega) ha rx hc hi rv;refine SeqAt.notIn_tupleAt e t (λw hw=>he w (by simpa using hw)) ⟨.bl _,H,I,rfl,?_⟩;rw[show us.toArray.any e=us.any e by simp];exact q _ hk
end
def Rr(neg:Bool):PV->PV->Option PV:=λa b=>(MF b).bind λm=>if(m.all λz=>Wc 8 z a)=aC then aA (.bl (if neg then !decide (a∈m) else decide (a∈m))) else none
theorem Ge(neg:Bool):RB K (Bp K neg) (Rr neg):=λH x y a b l fa fb ha hb e Q k=>by
 obtain⟨m,hm,e⟩:=Zd e;split at e
 ·cases e;refine⟨a,b,m,fa,fb,ha,hb,hm,by assumption,λr hr=>?_⟩
  have:r=decide (a∈m):=by
   cases r with
   | true=>exact(decide_eq_true (hr.mp rfl)).symm
   | false=>exact(decide_eq_false λz=>a0 (hr.mpr z)).symm
  subst this;exact k _ H [] (Same.refl H) (Is.bl _) λp hp=>by simp at hp
 ·cases e
end VL
namespace VL
open PySem PySem.Spec PyProof.Rows L2
variable {K:aG}
mutual
theorem Is.dom{H:Hp}:∀(l:PV)(v:V)(fp:List aH),Is K H l v fp->∀p∈fp,H p≠none
 | .non,_,_,h=>by simp only[Is] at h;rw[h.2];simp
 | .bl _,_,_,h=>by simp only[Is] at h;rw[h.2];simp
 | .int _,_,_,h=>by simp only[Is] at h;rw[h.2];simp
 | .str _,_,_,h=>by simp only[Is] at h;rw[h.2];simp
 | .ty _,_,_,h=>by simp only[Is] at h;rw[h.2];simp
 | .exc _,_,_,h=>by simp only[Is] at h;rw[h.2];simp
 | .exf _ _,_,_,h=>by simp only[Is] at h;rw[h.2];simp
 | .tup l,v,fp,h=>by obtain⟨p,xs,_,_,hi⟩:=h.tup_inv;exact Iss.dom l xs fp hi
 | .lst l,v,fp,h=>by
  obtain⟨p,xs,fq,_,hp,hi,rfl⟩:=h.lst_inv;intro q hq;rcases aV.mp hq with rfl | hq
  ·rw[hp];simp
  ·exact Iss.dom l xs fq hi q hq
 | .cst l,v,fp,h=>by obtain⟨p,xs,_,_,hi⟩:=h.cst_inv;exact Iss.dom l xs fp hi
 | .dK ks l,v,fp,h=>by
  obtain⟨p,m4,fq,_,hp,_,hi,rfl⟩:=h.dK_inv;intro q hq;rcases aV.mp hq with rfl | hq
  ·rcases hp with e | ⟨o,e⟩<;>rw[e]<;>simp
  ·exact Iss.dom l _ fq hi q hq
 | .dT ks l,v,fp,h=>by
  obtain⟨p,m4,fq,_,hp,_,hi,rfl⟩:=h.dT_inv;intro q hq;rcases aV.mp hq with rfl | hq
  ·rcases hp with e | ⟨o,e⟩<;>rw[e]<;>simp
  ·exact Iss.dom l _ fq hi q hq
theorem Iss.dom{H:Hp}:∀(l:List PV)(xs:List V)(fp:List aH),Iss K H l xs fp->∀p∈fp,H p≠none
 | [],_,_,h=>by simp only[Iss] at h;rw[h.2];simp
 | l::ls,xs,fp,h=>by
  obtain⟨x,r,f1,f2,_,h1,h2,rfl⟩:=h.inv;intro q hq;rcases au.mp hq with hq | hq
  ·exact Is.dom l x f1 h1 q hq
  ·exact Iss.dom ls r f2 h2 q hq
end
def Ab(Rm:aH->Prop)(H H':Hp):Prop:=∀b o,H b=aA o->¬Rm b->H' b=aA o
theorem Same.ab{Rm:aH->Prop}{H H':Hp}(s:Same H H'):Ab Rm H H':=λb o h _=>s b o h
theorem Ab.tk{Rm:aH->Prop}{H H':Hp}(a:Ab Rm H H')(hd:∀p,Rm p->UR (H p)):TK2 H H':=⟨λb xs h=>a b _ h λz=>by
 have:=hd b z
 rw[h] at this;exact this,λb o xs h=>a b _ h λz=>by
 have:=hd b z
 rw[h] at this;exact this,λb o x h=>a b _ h λz=>by
 have:=hd b z;rw[h] at this;exact this⟩
theorem Is.ab{Rm:aH->Prop}{H H':Hp}(a:Ab Rm H H')(hd:∀p,Rm p->UR (H p)){l:PV}{v:V}{fp:List aH}(n:∀p∈fp,¬Rm p)(h:Is K H l v fp):Is K H' l v fp:=
 Is.tr (a.tk hd) l v fp (λp hp=>RdK.of λo q=>a p o q (n p hp)) h
structure A1(K:aG)(Rm:aH->Prop)(H1:Hp)(J:It)(ls:List PV):Prop where
 stop:∀H',Ab Rm H1 H'->J.stop ls.length H'
 go:∀H' (i:Nat) l,Ab Rm H1 H'->ls[i]?=aA l->J.go i H'
 yld:∀H' (i:Nat) l x H'',Ab Rm H1 H'->ls[i]?=aA l->J.yld i H' x H''->Same H' H''/\∃fp,Is K H'' l x fp/\∀p∈fp,H1 p≠none/\¬Rm p
abbrev XL:=ZS->Option (List PV)
def iF(K:aG)(f:XL):TI:=λσ H R=>∃(Rm:aH->Prop) (s:ZS) (ls:List PV),(∀p,Rm p->UR (H p))/\EnvIs K Rm H s σ/\f s=aA ls/\∀J H1,Same H H1->A1 K Rm H1 J ls->R J H1
def VI(X:Cx)(tg e:aw)(f:XL):Prop:=PI X tg e (iF X.K f)
section
variable {X:Cx} {tg e:aw} {es:List aw}
theorem PI.imp{t t':TI}(h:PI X tg e t)(i:∀σ H R,t' σ H R->t σ H R):PI X tg e t':=λm3 s σ H R I q=>h m3 s σ H R I (i σ H R q)
def D6:PV->Option (List PV)
 | .lst m=>aA m
 | .cst m=>aA m
 | _=>none
def VU(f:XE):XL:=λs=>(f s).bind D6
def xTup(f:XE):XL:=λs=>match f s with | some (.tup m)=>aA m | _=>none
theorem Gf{a:PV}{m:List PV}(h:D6 a=aA m):a = .lst m\/a = .cst m:=by
 unfold D6 at h;split at h
 ·cases h;exact .inl rfl
 ·cases h;exact .inr rfl
 ·cases h
theorem T8{f:XE}(h:VE X e f):VI X tg e (VU f):=PI.imp (F6 h) λσ H R ⟨Rm,s,ls,hd,env,e,k⟩=>by
 obtain⟨l,e1,e2⟩:=Zd e;refine⟨Rm,s,l,hd,env,e1,λv H1 fp s1 i1 n1=>?_⟩;have hd1:∀p,Rm p->UR (H1 p):=λp hp=>Same.mut s1 (hd p hp)
 have main:∀a xs fq,v = .ref a->SqL X.K H1 a xs->(∀H',Ab Rm H1 H'->SqL X.K H' a xs)->Iss X.K H1 ls xs fq->(∀p∈fq,p∈fp)->∃a,v = .ref a/\(∃xs,SqL X.K H1 a xs)/\R (Itl X.K a) H1:=by
  rintro a xs fq rfl ha keep hi sub;refine⟨a,rfl,⟨xs,ha⟩,k _ H1 s1 ⟨λH' ab=>⟨xs,keep H' ab,by rw[hi.len];exact ar _⟩,λH' i l ab hl=>?_,λH' i l x H'' ab hl y=>?_⟩⟩
  ·obtain⟨x,f1,hx,_,_⟩:=hi.get hl;exact⟨xs,x,keep H' ab,hx⟩
  ·obtain⟨rfl,y⟩:=y;obtain⟨x',f1,hx,ix,sub'⟩:=hi.get hl;have:=y xs (keep _ ab);rw[hx] at this;cases this;have n1':∀p∈f1,¬Rm p:=λp hp=>n1 p (sub p (sub' p hp));exact⟨Same.refl _,f1,ix.ab ab hd1 n1',λp hp=>⟨Is.dom _ _ _ ix p hp,n1' p hp⟩⟩
 rcases Gf e2 with rfl | rfl
 ·obtain⟨a,xs,fq,rfl,ha,hi,rfl⟩:=i1.lst_inv;exact main a xs fq rfl (SqL.of ha) (λH' ab=>SqL.of (ab a _ ha (n1 a a9))) hi λp hp=>aQ _ hp
 ·obtain⟨a,xs,rfl,ha,hi⟩:=i1.cst_inv;exact main a xs fp rfl ha.sq (λH' ab=>(ha.tr (ab.tk hd1)).sq) hi λp hp=>hp
def Xs(n:Nat):List PV:=(bN n).map λ(i:Nat)=>PV.int (i:Int)
def Ux(lo:Int)(n:Nat):List PV:=(bN n).map λ(i:Nat)=>PV.int (lo+(i:Int))
def YG(fs:List XE):XL:=λs=>match UX fs s with | some [.int j]=>if -1000000<=j/\j<=1000000 then aA (Xs j.toNat) else none | _=>none
def WU(fs:List XE):XL:=λs=>match UX fs s with | some [.int i,.int j]=>if -1000000<=i/\i<=1000000/\-1000000<=j/\j<=1000000 then aA (Ux i (j-i).toNat) else none | _=>none
theorem K9{Rm:aH->Prop}{H1:Hp}(lo:Int)(n:Nat):A1 K Rm H1 (Av lo n) (Ux lo n):=by
 refine⟨λH' _=>by unfold Ux;rw[aN,bb];exact ar n,λH' i l _ hl=>?_,λH' i l x H'' _ hl y=>?_⟩
 ·have:=(aL.mp hl).1;unfold Ux at this;rw[aN,bb] at this;exact this
 ·obtain⟨rfl,rfl⟩:=y;have hi:=(aL.mp hl).1;unfold Ux at hi hl;rw[aN,bb] at hi;rw[aS,dS hi] at hl;cases hl;exact⟨Same.refl _,[],Is.int _,λp hp=>by simp at hp⟩
theorem EE(n:Nat):Xs n=Ux 0 n:=by unfold Xs Ux;apply cu;intro i _;rw[Int.zero_add]
theorem Xx{a:aw}{fs:List XE}{p pos:dm}(hg:Gl X "range")(hm:X.mg "range" = none)(ha:VA X [a] fs)(hs:aO [a] X.env=[(aB,eval a X.env)]:=by rfl):VI X tg (.Call (.Name "range" p) [a] [] pos) (YG fs):=
 PI.imp (JY hg hm ha hs) λσ H R ⟨Rm,s,ls,hd,env,e,k⟩=>by
 unfold YG at e;split at e
 ·split at e
  ·cases e;rename_i j he hb;refine⟨Rm,s,_,hd,env,he,λvs H1 fp s1 i1 _=>?_⟩;obtain⟨v,rfl,i⟩:=i1.one_inv;refine⟨j,by rw[i.int_inv.1],by omega,by omega,k _ H1 s1 ?_⟩;rw[EE];exact K9 _ _
  ·cases e
 ·cases e
theorem Qg{a b:aw}{fs:List XE}{p pos:dm}(hg:Gl X "range")(hm:X.mg "range" = none)(ha:VA X [a,b] fs)(hs:aO [a,b] X.env=[(aB,eval a X.env),(aB,eval b X.env)]:=by rfl)(hs2:aO [b] X.env=[(aB,eval b X.env)]:=by rfl):VI X tg (.Call (.Name "range" p) [a,b] [] pos) (WU fs):=
 PI.imp (JZ hg hm ha hs hs2) λσ H R ⟨Rm,s,ls,hd,env,e,k⟩=>by
 unfold WU at e;split at e
 ·split at e
  ·cases e;rename_i i j he hb;refine⟨Rm,s,_,hd,env,he,λvs H1 fp s1 i1 _=>?_⟩;obtain⟨v,w,f1,f2,rfl,iv,iw,_⟩:=i1.two_inv;exact⟨i,j,by rw[iv.int_inv.1,iw.int_inv.1],⟨by omega,by omega,by omega,by omega⟩,k _ H1 s1 (K9 _ _)⟩
  ·cases e
 ·cases e
def X5(m:List PV):List PV:=m.zipIdx.map λz=>.tup [.int (z.2:Nat),z.1]
theorem O0{m:List PV}{i:Nat}{l:PV}(h:(X5 m)[i]?=aA l):∃a,m[i]?=aA a/\l = .tup [.int (i:Nat),a]:=by
 unfold X5 at h;rw[aS,kC] at h
 cases q:m[i]? with
 | none=>rw[q] at h;cases h
 | some a=>rw[q] at h;cases h;exact⟨a,rfl,by simp⟩
theorem O1(m:List PV):(X5 m).length=m.length:=by unfold X5;rw[aN,List.length_zipIdx]
def seqB:Bool->PV->Option (List PV)
 | true,.lst l=>aA l
 | true,.cst l=>aA l
 | false,.tup l=>aA l
 | _,_=>none
theorem EF{H:Hp}{b:Bool}{l:PV}{v:V}{fp:List aH}{m:List PV}(h:Is K H l v fp)(e:seqB b l=aA m):∃p xs fq,v = .ref p/\Iss K H m xs fq/\(∀q∈fq,q∈fp)/\∀(Rm:aH->Prop) H',Ab Rm H H'->(∀p,Rm p->UR (H p))->(∀p∈fp,¬Rm p)->HA b K H' p xs:=by
 cases b with
 | true=>cases l with
  | lst l=>
   cases e;obtain⟨p,xs,fq,rfl,hp,hi,rfl⟩:=h.lst_inv;exact⟨p,xs,fq,rfl,hi,λq hq=>aQ _ hq,λRm H' ab _ n=>SqL.of (ab p _ hp (n p a9))⟩
  | cst l=>
   cases e;obtain⟨p,xs,rfl,hp,hi⟩:=h.cst_inv;exact⟨p,xs,fp,rfl,hi,λq hq=>hq,λRm H' ab hd _=>(hp.tr (ab.tk hd)).sq⟩
  | _=>cases e
 | false=>cases l with
  | tup l=>
   cases e;obtain⟨p,xs,rfl,hp,hi⟩:=h.tup_inv;exact⟨p,xs,fp,rfl,hi,λq hq=>hq,λRm H' ab hd _=>SqT.of ((ab.tk hd).tup p xs hp)⟩
  | _=>cases e
def WV(b:Bool)(fs:List XE):XL:=λs=>match UX fs s with | some [l]=>(seqB b l).map X5 | _=>none
theorem QX{elts:List aw}{k:Nat}{tpos:dm}(b:Bool){a:aw}{fs:List XE}{p pos:dm}(hg:Gl X "enumerate")(hm:X.mg "enumerate" = none)(ha:VA X [a] fs)(hs:aO [a] X.env=[(aB,eval a X.env)]:=by rfl) :
  VI X (.Tuple elts k tpos) (.Call (.Name "enumerate" p) [a] [] pos) (WV b fs):=PI.imp (Et b hg hm ha hs) λσ H R ⟨Rm,s,ls,hd,env,e,k⟩=>by
 unfold WV at e;split at e
 ·rename_i l he;obtain⟨m,e1,rfl⟩:=map_some e;refine⟨Rm,s,_,hd,env,he,λvs H1 fp s1 i1 n1=>?_⟩;obtain⟨v,rfl,i⟩:=i1.one_inv;have hd1:∀p,Rm p->UR (H1 p):=λp hp=>Same.mut s1 (hd p hp);obtain⟨a,xs,fq,rfl,hi,sub,keep⟩:=EF (K:=X.K) i e1;have kp:=λH' ab=>keep Rm H' ab hd1 n1;refine⟨a,rfl,⟨xs,kp H1 (Same.ab (Same.refl H1))⟩,k _ H1 s1 ⟨λH' ab=>⟨xs,kp H' ab,by rw[O1,hi.len]⟩,λH' i l ab hl=>?_,λH' i l x H'' ab hl y=>?_⟩⟩
  ·obtain⟨c,hc,rfl⟩:=O0 hl;obtain⟨x,f1,hx,_,_⟩:=hi.get hc;exact⟨xs,x,kp H' ab,hx⟩
  ·obtain⟨c,hc,rfl⟩:=O0 hl;obtain⟨x',f1,hx,ix,sb⟩:=hi.get hc;obtain⟨q,z,hq,rfl,rfl,y⟩:=y;have:=y xs (kp _ ab);rw[hx] at this;cases this;have n1':∀p∈f1,¬Rm p:=λp hp=>n1 p (sub p (sb p hp));refine⟨Same.new hq _,f1,Is.tup upd_same ?_,λp hp=>⟨Is.dom _ _ _ ix p hp,n1' p hp⟩⟩;exact Iss.cons (f1:=[]) (Is.int _) (Iss.one ((ix.ab ab hd1 n1').mono (Same.new hq _)))
 ·cases e
end
inductive Tgt where
 | one (i:Nat) | many (is:List Nat)
def Tgt.slots:Tgt->List Nat
 | .one i=>[i]
 | .many is=>is
def setAll:List Nat->List PV->ZS->ZS
 | i::is,l::ls,s=>setAll is ls (s.set i (aA l))
 | _,_,s=>s
def Xt:List Nat->List V->SK->SK
 | i::is,l::ls,s=>Xt is ls (s.set i (aA l))
 | _,_,s=>s
def WW:Tgt->PV->ZS->Option ZS
 | .one i,l,s=>aA (s.set i (aA l))
 | .many is,.tup ls,s=>if ls.length=is.length then aA (setAll is ls s) else none
 | _,_,_=>none
def LV:List Nat->DQ
 | []=>Aq
 | i::is=>DR (Sw i) (LV is)
def gT(K:aG):Tgt->TG
 | .one i=>Sw i
 | .many is=>Ar K is.length (LV is)
theorem Pu:∀{is:List Nat}{vs:List V}{σ:SK}{H:Hp}{Q:SK->Hp->Prop},vs.length=is.length->Q (Xt is vs σ) H->LV is vs σ H Q
 | [],[],_,_,_,_,q=>⟨rfl,q⟩
 | [],_::_,_,_,_,h,_=>by simp at h
 | _::_,[],_,_,_,h,_=>by simp at h
 | i::is,v::vs,σ,H,Q,h,q=>⟨v,vs,rfl,Pu (is:=is) (vs:=vs) (by simpa using h) q⟩
theorem Qh{T:Tgt}{l:PV}{v:V}{fp:List aH}{s s':ZS}{H:Hp}(h:Is K H l v fp)(e:WW T l s=aA s') :
  ∃ls vs fs,s'=setAll T.slots ls s/\Iss K H ls vs fs/\ls.length=T.slots.length/\(∀p∈fs,p∈fp)/\∀σ (Q:SK->Hp->Prop),Q (Xt T.slots vs σ) H->gT K T v σ H Q:=by
 cases T with
 | one i=>
  cases e;exact⟨[l],[v],fp,rfl,Iss.one h,rfl,λp hp=>hp,λσ Q q=>q⟩
 | many is=>
  cases l with
  | tup ls=>
   have e:(if ls.length=is.length then aA (VL.setAll is ls s) else none)=aA s':=e;split at e
   ·cases e;obtain⟨p,xs,rfl,hp,hi⟩:=h.tup_inv;exact⟨ls,xs,fp,rfl,hi,by assumption,λp hp=>hp,λσ Q q=>⟨p,xs,rfl,SqT.of hp,by rw[hi.len];assumption,Pu (by rw[hi.len];assumption) q⟩⟩
   ·cases e
  | _=>cases e
theorem XY:∀{is:List Nat}{vs:List V}{σ:SK}{n:Nat},(∀i∈is,i<n)->(Xt is vs σ).drop n=σ.drop n
 | [],_,_,_,_=>rfl
 | _::_,[],_,_,_=>rfl
 | i::is,v::vs,σ,n,h=>by show(Xt is vs (σ.set i (aA v))).drop n=_;rw[XY (λj hj=>h j (aQ _ hj))];have:=h i a9;rw[List.drop_set,mZ this]
theorem EnvIs.set{Rm:aH->Prop}{H:Hp}{s:ZS}{σ:SK}{i:Nat}{l:PV}{v:V}{fp:List aH}(h:EnvIs K Rm H s σ)(hl:s.length=σ.length)(hi:Is K H l v fp)(n:∀p∈fp,¬Rm p):EnvIs K Rm H (s.set i (aA l)) (σ.set i (aA v)):=⟨λj a e=>by
 rw[bM] at e;by_cases hj:i=j
 ·subst hj;rw[mZ rfl] at e;split at e
  ·cases e;exact⟨v,fp,by rw[bM,mZ rfl,mZ (by omega)],hi,n⟩
  ·cases e
 ·rw[ma hj] at e;obtain⟨w,f,h1,h2,h3⟩:=h.is j a e;exact⟨w,f,by rw[bM,ma hj];exact h1,h2,h3⟩⟩
theorem EnvIs.setAll{Rm:aH->Prop}{H:Hp}:∀{is:List Nat}{ls:List PV}{vs:List V}{fs:List aH}{s:ZS}{σ:SK},EnvIs K Rm H s σ->s.length=σ.length->Iss K H ls vs fs->(∀p∈fs,¬Rm p)->EnvIs K Rm H (VL.setAll is ls s) (Xt is vs σ)
 | [],_,_,_,_,_,h,_,_,_=>by unfold VL.setAll Xt;exact h
 | i::is,[],vs,fs,s,σ,h,_,hi,_=>by simp only[Iss] at hi;rw[hi.1];exact h
 | i::is,l::ls,vs,fs,s,σ,h,hl,hi,n=>by obtain⟨x,r,f1,f2,rfl,h1,h2,rfl⟩:=hi.inv;show EnvIs K Rm H (VL.setAll is ls (s.set i (aA l))) (Xt is r (σ.set i (aA x)));exact EnvIs.setAll (h.set hl h1 λp hp=>n p (bG _ hp)) (by rw[cz,cz];exact hl) h2 λp hp=>n p (ag _ hp)
def Z7(n:Nat)(ix:List Nat)(s:ZS):ZS:=aJ n none++ix.map (λi=>(s[i]?).join)
def WK(T:Tgt)(ft:XT)(fe:XE)(s0:ZS):List PV->Option (List PV)
 | []=>aA []
 | l::r=>(WW T l s0).bind λs1=>(ft s1).bind λc=>if c=aC then(fe s1).bind λy=>(WK T ft fe s0 r).map (y::·) else WK T ft fe s0 r
def Yg(n:Nat)(ix:List Nat)(fi:XL)(T:Tgt)(ft:XT)(fe:XE):XE:=λs=>(fi s).bind λls=>if ls.length<=10000 then(WK T ft fe (Z7 n ix s) ls).map .lst else none
def Yi:XT:=λ_=>aA aC
theorem join_some{α:Type}{o:Option (Option α)}{a:α}(h:o.join=aA a):o=aA (aA a):=by
 cases o with
 | none=>cases h
 | some b=>cases b with
  | none=>cases h
  | some c=>cases h;rfl
theorem EnvIs.comp{Rm:aH->Prop}{H:Hp}{s:ZS}{σ:SK}{n:Nat}{ix:List Nat}(h:EnvIs K Rm H s σ):EnvIs K Rm H (Z7 n ix s) (Z4 n ix σ):=⟨λi l e=>by
 unfold Z7 at e;unfold Z4;by_cases hi:i<n
 ·rw[bT (by simpa using hi),cG,mZ hi] at e;cases e
 ·rw[bh (by simpa using hi),eQ,aS] at e;rw[bh (by simpa using hi),eQ,aS]
  cases q:ix[i-n]? with
  | none=>rw[q] at e;cases e
  | some j=>
   rw[q] at e;have e:=join_some (bU e);obtain⟨v,fp,a,b,c⟩:=h.is j l e;exact⟨v,fp,by show aA ((σ[j]?).join)=_;rw[a];rfl,b,c⟩⟩
theorem Pw(n:Nat)(ix:List Nat)(s:ZS)(σ:SK):(Z7 n ix s).length=(Z4 n ix σ).length:=by unfold Z7 Z4;simp
theorem Px{T:Tgt}{ft:XT}{fe:XE}{s0:ZS}{l:PV}{r ys:List PV}(h:WK T ft fe s0 (l::r)=aA ys):∃s1 c,WW T l s0=aA s1/\ft s1=aA c/\((c=aC/\∃y zs,fe s1=aA y/\WK T ft fe s0 r=aA zs/\ys=y::zs)\/(c=aB/\WK T ft fe s0 r=aA ys)):=by
 unfold WK at h;obtain⟨s1,e1,h⟩:=Zd h;obtain⟨c,e2,h⟩:=Zd h;refine⟨s1,c,e1,e2,?_⟩
 cases c with
 | true=>
  rw[mZ rfl] at h;obtain⟨y,e3,h⟩:=Zd h;obtain⟨zs,e4,rfl⟩:=map_some h;exact .inl ⟨rfl,y,zs,e3,e4,rfl⟩
 | false=>
  rw[ma a0] at h;exact .inr ⟨rfl,h⟩
theorem Tw{α:Type}{l:List α}{i:Nat}{a:α}{r:List α}(h:l.drop i=a::r):l[i]?=aA a/\l.drop (i+1)=r:=by
 constructor
 ·have:=congrArg (λz=>z[0]?) h;simpa [k9] using this
 ·rw[<-List.drop_drop,h];rfl
section
variable {n:Nat} {ix:List Nat} {fi:XL} {T:Tgt} {ft:XT} {fe:XE}
theorem EG(hT:∀i∈T.slots,i<n):∀σ H Q,tF K (Yg n ix fi T ft fe) σ H Q->OV n ix (iF K fi) (gT K T) (Mi K ft) (tF K fe) σ H Q:=λσ H Q ⟨Rm,s,L,hd,env,e,k⟩=>by
 obtain⟨ls,e1,e⟩:=Zd e;split at e
 case isFalse=>cases e
 rename_i hlen;obtain⟨ys,e2,rfl⟩:=map_some e;refine⟨Rm,s,ls,hd,env,e1,λJ H1 s1 jis=>?_⟩;have hd1:∀p,Rm p->UR (H1 p):=λp hp=>Same.mut s1 (hd p hp)
 refine⟨λi m vs Hc=>m=ls.length-i/\i<=ls.length/\Same H1 Hc/\∃dn m6 fp,ys=dn++m6/\dn.length<=i/\WK T ft fe (Z7 n ix s) (ls.drop i)=aA m6/\Iss K Hc dn vs fp/\∀p∈fp,¬Rm p,
  ⟨ls.length,by simp,gC _,Same.refl H1,[],ys,[],rfl,ar _,e2,Iss.nil,λp hp=>by simp at hp⟩,?_⟩
 rintro i m vs Hc ⟨rfl,hi,sc,dn,m6,fp,rfl,hdl,ec,iv,nv⟩;refine⟨by rw[iv.len];exact cy (lt_size (by omega)),?_⟩
 cases q:ls.drop i with
 | nil=>
  have hil:i=ls.length:=by have:=congrArg fj q;rw[dD] at this;simp at this;omega
  subst hil;rw[q] at ec;cases ec;refine .inl ⟨jis.stop Hc (Same.ab sc),λp hp=>k _ _ (p::fp) (s1.trans (sc.trans (Same.new hp _))) ?_ λa ha z=>?_⟩
  ·rw[bI];exact Is.lst upd_same (iv.mono (Same.new hp _))
  ·rcases aV.mp ha with rfl | ha
   ·exact Xz (Same.mut (s1.trans sc) (hd a z)) hp
   ·exact nv a ha z
 | cons l r=>
  obtain⟨hl,hr⟩:=Tw q;have hilt:i<ls.length:=(aL.mp hl).1;rw[q] at ec;obtain⟨sb,c,eb,et,alt⟩:=Px ec
  refine .inr ⟨jis.go Hc i l (Same.ab sc) hl,λvs' H'=>Same H1 H'/\∃dn' mV fp',dn++m6=dn'++mV/\dn'.length<=i+1/\WK T ft fe (Z7 n ix s) (ls.drop (i+1))=aA mV/\Iss K H' dn' vs' fp'/\∀p∈fp',¬Rm p,
   λvs' H' h'=>⟨ls.length-(i+1),by omega,rfl,hilt,h'.1,h'.2⟩,λx H2 y=>?_⟩
  obtain⟨s2,fx,ix',nx⟩:=jis.yld Hc i l x H2 (Same.ab sc) hl y;have hd2:∀p,Rm p->UR (H2 p):=λp hp=>Same.mut (sc.trans s2) (hd1 p hp);obtain⟨bl,bv,bf,rfl,bi,_,bsub,buse⟩:=Qh (K:=K) ix' eb;have env2:EnvIs K Rm H2 (Z7 n ix s) (Z4 n ix σ):=(env.mono (s1.trans (sc.trans s2))).comp;have env3:=env2.setAll (is:=T.slots) (Pw n ix s σ) bi λp hp=>(nx p (bsub p hp)).2;refine buse _ _ ⟨XY hT,Rm,_,c,hd2,env3,et,λH3 s3=>?_⟩;have hd3:∀p,Rm p->UR (H3 p):=λp hp=>Same.mut s3 (hd2 p hp);rcases alt with⟨rfl,y',zs,ey,ez,rfl⟩ | ⟨rfl,ez⟩
  ·refine Bg ?_;refine⟨Rm,_,y',hd3,env3.mono s3,ey,λv H4 f4 s4 i4 n4=>?_⟩;refine⟨sc.trans (s2.trans (s3.trans s4)),dn++[y'],zs,fp++f4,by rw[dM];rfl,by rw[aq];simp;exact hdl,by rw[hr];exact ez,(iv.mono (s2.trans (s3.trans s4))).append (Iss.one i4),λp hp=>?_⟩;rcases au.mp hp with h | h
   ·exact nv p h
   ·exact n4 p h
  ·refine Bf ?_;exact⟨sc.trans (s2.trans s3),dn,m6,fp,rfl,ko hdl,by rw[hr];exact ez,iv.mono (s2.trans s3),nv⟩
theorem Ja(hT:∀i∈T.slots,i<n):∀σ H Q,tM K (Yg n ix fi T ft fe) σ H Q->OV n ix (iF K fi) (gT K T) (Mi K ft) (tM K fe) σ H Q:=λσ H Q ⟨s,L,env,e,k⟩=>by
 obtain⟨ls,e1,e⟩:=Zd e;split at e
 case isFalse=>cases e
 rename_i hlen;obtain⟨ys,e2,rfl⟩:=map_some e;have hd:∀(H:Hp) p,(λ_=>False:aH->Prop) p->UR (H p):=λ_ _ z=>z.elim;refine⟨λ_=>False,s,ls,hd H,env,e1,λJ H1 s1 jis=>?_⟩
 refine⟨λi m vs Hc=>m=ls.length-i/\i<=ls.length/\Same H1 Hc/\∃dn m6 fp,ys=dn++m6/\dn.length<=i/\WK T ft fe (Z7 n ix s) (ls.drop i)=aA m6/\Iss K Hc dn vs fp/\fp.Nodup/\∀p∈fp,H1 p=none/\UR (Hc p),
  ⟨ls.length,by simp,gC _,Same.refl H1,[],ys,[],rfl,ar _,e2,Iss.nil,bx,λp hp=>by simp at hp⟩,?_⟩
 rintro i m vs Hc ⟨rfl,hi,sc,dn,m6,fp,rfl,hdl,ec,iv,dv,nv⟩;refine⟨by rw[iv.len];exact cy (lt_size (by omega)),?_⟩
 cases q:ls.drop i with
 | nil=>
  have hil:i=ls.length:=by have:=congrArg fj q;rw[dD] at this;simp at this;omega
  subst hil;rw[q] at ec;cases ec;refine .inl ⟨jis.stop Hc (Same.ab sc),λp hp=>k _ _ (p::fp) (s1.trans (sc.trans (Same.new hp _))) ?_ (bP.mpr ⟨λz=>Xz (nv p z).2 hp,dv⟩) λa ha=>?_⟩
  ·rw[bI];exact Is.lst upd_same (iv.mono (Same.new hp _))
  ·rcases aV.mp ha with rfl | ha
   ·exact⟨Same.off (s1.trans sc) hp,by rw[upd_same];exact cU⟩
   ·exact⟨Same.off s1 (nv a ha).1,Same.mut (Same.new hp _) (nv a ha).2⟩
 | cons l r=>
  obtain⟨hl,hr⟩:=Tw q;have hilt:i<ls.length:=(aL.mp hl).1;rw[q] at ec;obtain⟨sb,c,eb,et,alt⟩:=Px ec
  refine .inr ⟨jis.go Hc i l (Same.ab sc) hl,λvs' H'=>Same H1 H'/\∃dn' mV fp',dn++m6=dn'++mV/\dn'.length<=i+1/\WK T ft fe (Z7 n ix s) (ls.drop (i+1))=aA mV/\Iss K H' dn' vs' fp'/\fp'.Nodup/\∀p∈fp',H1 p=none/\UR (H' p),
   λvs' H' h'=>⟨ls.length-(i+1),by omega,rfl,hilt,h'.1,h'.2⟩,λx H2 y=>?_⟩
  obtain⟨s2,fx,ix',nx⟩:=jis.yld Hc i l x H2 (Same.ab sc) hl y;obtain⟨bl,bv,bf,rfl,bi,_,bsub,buse⟩:=Qh (K:=K) ix' eb;have env2:EnvIs K (λ_=>False) H2 (Z7 n ix s) (Z4 n ix σ):=(env.mono (s1.trans (sc.trans s2))).comp;have env3:=env2.setAll (is:=T.slots) (Pw n ix s σ) bi λp hp=>(nx p (bsub p hp)).2;refine buse _ _ ⟨XY hT,λ_=>False,_,c,hd H2,env3,et,λH3 s3=>?_⟩;rcases alt with⟨rfl,y',zs,ey,ez,rfl⟩ | ⟨rfl,ez⟩
  ·refine Bg ?_;refine⟨_,y',env3.mono s3,ey,λv H4 f4 s4 i4 d4 n4=>?_⟩;refine⟨sc.trans (s2.trans (s3.trans s4)),dn++[y'],zs,fp++f4,by rw[dM];rfl,by rw[aq];simp;exact hdl,by rw[hr];exact ez,(iv.mono (s2.trans (s3.trans s4))).append (Iss.one i4),cX.mpr ⟨dv,d4,λa ha b hb z=>?_⟩,λp hp=>?_⟩
   ·subst z;exact Xz (Same.mut (s2.trans s3) (nv a ha).2) (n4 a hb).1
   ·rcases au.mp hp with h | h
    ·exact⟨(nv p h).1,Same.mut (s2.trans (s3.trans s4)) (nv p h).2⟩
    ·exact⟨Same.off (sc.trans (s2.trans s3)) (n4 p h).1,(n4 p h).2⟩
  ·refine Bf ?_;exact⟨sc.trans (s2.trans s3),dn,m6,fp,rfl,ko hdl,by rw[hr];exact ez,iv.mono (s2.trans s3),dv,λp hp=>⟨(nv p hp).1,Same.mut (s2.trans s3) (nv p hp).2⟩⟩
end
def B9(X:Cx)(mW:List aw)(f:XT):Prop:=K0 X mW (Mi X.K f)
section
variable {X:Cx} {tg mX iter c:aw} {mW:List aw} {scope:fJ} {pos:dm} {fi:XL} {T:Tgt} {ft:XT} {fe:XE}
theorem WL:B9 X [] Yi:=λm3 s σ H Q I ⟨Rm,s',c,hd,env,e,k⟩=>by cases e;exact Eo m3 s σ H Q I (k H (Same.refl H))
theorem EH(h:VT X c ft):B9 X [c] ft:=Ep h
theorem Rt(own fr:List aR)(ix:List Nat)(hcalm:X.calm=aC)(hi:VI X tg iter fi)(S:Tt X.N X.env.scope scope own fr ix=aC)
  (hg:∀cl C s H ex,PG (Zz X (own++fr) scope cl C s H ex) tg (gT X.K T)) (ht:∀cl C s H ex,B9 (Zz X (own++fr) scope cl C s H ex) mW ft) (he:∀cl C s H ex,VE (Zz X (own++fr) scope cl C s H ex) mX fe)
  (hT:∀i∈T.slots,i<own.length:=by decide) (hs:∀x,bw iter X.env x=pure x:=by intro _;rfl):VE X (.ListComp mX [⟨tg,iter,mW,0⟩] scope pos) (Yg own.length ix fi T ft fe):=
 PE.imp (MB own fr ix hcalm hi S hg (λcl C s H ex=>(show K0 (Zz X (own++fr) scope cl C s H ex) mW (Mi X.K ft) from ht cl C s H ex)) (λcl C s H ex=>(show PE (Zz X (own++fr) scope cl C s H ex) mX (tF X.K fe) from he cl C s H ex)) hs) (EG hT)
theorem EI(own fr:List aR)(ix:List Nat)(hcalm:X.calm=aC)(hi:VI X tg iter fi)(S:Tt X.N X.env.scope scope own fr ix=aC)
  (hg:∀cl C s H ex,PG (Zz X (own++fr) scope cl C s H ex) tg (gT X.K T)) (ht:∀cl C s H ex,B9 (Zz X (own++fr) scope cl C s H ex) mW ft) (he:∀cl C s H ex,VM (Zz X (own++fr) scope cl C s H ex) mX fe)
  (hT:∀i∈T.slots,i<own.length:=by decide) (hs:∀x,bw iter X.env x=pure x:=by intro _;rfl):VM X (.ListComp mX [⟨tg,iter,mW,0⟩] scope pos) (Yg own.length ix fi T ft fe):=
 PE.imp (MB own fr ix hcalm hi S hg (λcl C s H ex=>(show K0 (Zz X (own++fr) scope cl C s H ex) mW (Mi X.K ft) from ht cl C s H ex)) (λcl C s H ex=>(show PE (Zz X (own++fr) scope cl C s H ex) mX (tM X.K fe) from he cl C s H ex)) hs) (Ja hT)
end
def SQ(xs:List PV)(lo hi:Option Int):List PV:=(xs.drop (HT.sIx xs.length 0 lo)).take (HT.sIx xs.length xs.length hi-HT.sIx xs.length 0 lo)
theorem Iss.cut{H:Hp}{l:List PV}{xs:List V}{fp:List aH}(lo hi:Option Int)(h:Iss K H l xs fp):∃f1,Iss K H (SQ l lo hi) (J6 xs lo hi) f1/\∀p∈f1,p∈fp:=by unfold SQ J6;rw[h.len];obtain⟨f1,a,b⟩:=h.drop (HT.sIx l.length 0 lo);obtain⟨f2,c,d⟩:=a.take (HT.sIx l.length l.length hi-HT.sIx l.length 0 lo);exact⟨f2,c,λp hp=>b p (d p hp)⟩
abbrev XO:=ZS->Option (Option Int)
def tFO(K:aG)(f:XO):TO:=λσ H Q=>∃(Rm:aH->Prop) (s:ZS) (i:Option Int),(∀p,Rm p->UR (H p))/\EnvIs K Rm H s σ/\f s=aA i/\∀H',Same H H'->Q i H'
def VO(X:Cx)(e:Option aw)(f:XO):Prop:=PO X e (tFO X.K f)
def XZ:XO:=λ_=>aA none
def Y4(f:XE):XO:=λs=>match f s with | some (.int i)=>aA (aA i) | _=>none
def Sv(x:PV)(lo hi:Option Int):Option PV:=match x with | .lst l=>aA (.lst (SQ l lo hi)) | .cst l=>aA (.lst (SQ l lo hi)) | _=>none
def Xm(g:PV->Option Int->Option Int->Option PV)(a:XE)(lo hi:XO):XE:=λs=>(a s).bind λx=>(lo s).bind λl=>(hi s).bind λu=>g x l u
theorem Im{l:List PV}(lo hi:Option Int)(h:ZZ l=aC):ZZ (SQ l lo hi)=aC:=by rw[VG,bB] at *;intro x hx;unfold SQ at hx;exact h x (gy (bz hx))
section
variable {X:Cx} {e:aw} {lo hi:Option aw} {p2 pos:dm} {fa:XE} {fl fh:XO}
theorem Yy:VO X none XZ:=λm3 s σ H Q I ⟨Rm,s',i,hd,env,e,k⟩=>by cases e;exact Ef m3 s σ H Q I (k H (Same.refl H))
theorem Z8{e:aw}(h:VE X e fa):VO X (aA e) (Y4 fa):=λm3 s σ H Q I ⟨Rm,s',i,hd,env,e,k⟩=>by
 unfold Y4 at e;split at e
 ·cases e;rename_i j hj;exact Eg h m3 s σ H Q I ⟨Rm,s',.int j,hd,env,hj,λv H' fp sm i n=>⟨j,i.int_inv.1,k H' sm⟩⟩
 ·cases e
theorem T9(ha:VE X e fa)(hl:VO X lo fl)(hh:VO X hi fh):VE X (.Subscript e (.Slice lo hi none p2) pos) (Xm Sv fa fl fh):=PE.imp (Mr Ei ha hl hh) λσ H Q ⟨Rm,s,l,hd,env,e,k⟩=>by
 obtain⟨x,e1,e⟩:=Zd e;obtain⟨a,e2,e⟩:=Zd e;obtain⟨b,e3,e⟩:=Zd e;refine⟨Rm,s,x,hd,env,e1,λv H1 fp s1 i1 n1=>⟨Rm,s,a,λp hp=>Same.mut s1 (hd p hp),env.mono s1,e2,λH2 s2=>⟨Rm,s,b,λp hp=>Same.mut (s1.trans s2) (hd p hp),env.mono (s1.trans s2),e3,λH3 s3=>?_⟩⟩⟩
 cases x with
 | lst l=>
  cases e;obtain⟨p,xs,fq,rfl,hp,hi,rfl⟩:=(i1.mono (s2.trans s3)).lst_inv;obtain⟨f1,c,d⟩:=hi.cut a b;refine⟨p,xs,rfl,SqL.of hp,λq hq=>k _ _ (q::f1) (s1.trans (s2.trans (s3.trans (Same.new hq _)))) (Is.lst upd_same (c.mono (Same.new hq _))) λr hr z=>?_⟩;rcases aV.mp hr with rfl | hr
  ·exact Xz (Same.mut (s1.trans (s2.trans s3)) (hd r z)) hq
  ·exact n1 r (aQ _ (d r hr)) z
 | cst l=>
  cases e;obtain⟨p,xs,rfl,hp,hi⟩:=(i1.mono (s2.trans s3)).cst_inv;obtain⟨f1,c,d⟩:=hi.cut a b;refine⟨p,xs,rfl,hp.sq,λq hq=>k _ _ (q::f1) (s1.trans (s2.trans (s3.trans (Same.new hq _)))) (Is.lst upd_same (c.mono (Same.new hq _))) λr hr z=>?_⟩;rcases aV.mp hr with rfl | hr
  ·exact Xz (Same.mut (s1.trans (s2.trans s3)) (hd r z)) hq
  ·exact n1 r (d r hr) z
 | _=>cases e
end
end VL
namespace VL
open PySem PySem.Spec PyProof.Rows L2
variable {K:aG}
structure Rel(K:aG)(O:List Nat)(H0:Hp)(fps:Nat->List aH)(s:ZS)(σ:SK)(H:Hp):Prop where
 same:Same H0 H
 len:s.length=σ.length
 is:∀(i:Nat) l,s[i]?=aA (aA l)->∃v,σ[i]?=aA (aA v)/\Is K H l v (fps i)
 emp:∀(i:Nat),(∀l,s[i]?≠aA (aA l))->fps i=[]
 nd:∀i∈O,(fps i).Nodup
 own:∀i∈O,∀p∈fps i,H0 p=none/\UR (H p)
 dis:∀i∈O,∀j,j≠i->∀p∈fps i,p∉fps j
def Ow(O:List Nat)(fps:Nat->List aH)(p:aH):Prop:=∃i∈O,p∈fps i
def Ya(O:List Nat)(s:ZS):ZS:=O.foldl (λs i=>s.set i none) s
theorem Py:∀{O:List Nat}{s:ZS}{i:Nat}{l:PV},(Ya O s)[i]?=aA (aA l)->i∉O/\s[i]?=aA (aA l)
 | [],s,i,l,h=>⟨by simp,h⟩
 | o::O,s,i,l,h=>by
  obtain⟨h1,h2⟩:=Py (O:=O) (s:=s.set o none) h;rw[bM] at h2;by_cases e:o=i
  ·rw[mZ e] at h2;split at h2<;>cases h2
  ·rw[ma e] at h2;exact⟨by simp only[aV,not_or];exact⟨λz=>e z.symm,h1⟩,h2⟩
section
variable {O:List Nat} {H0 H H':Hp} {fps:Nat->List aH} {s:ZS} {σ:SK}
theorem Rel.at(r:Rel K O H0 fps s σ H)(i:Nat){p:aH}(hp:p∈fps i):∃l v,s[i]?=aA (aA l)/\σ[i]?=aA (aA v)/\Is K H l v (fps i):=by
 cases q:s[i]? with
 | none=>rw[r.emp i (λl z=>by rw[q] at z;cases z)] at hp;simp at hp
 | some o=>cases o with
  | none=>rw[r.emp i (λl z=>by rw[q] at z;cases z)] at hp;simp at hp
  | some l=>
   obtain⟨v,a,b⟩:=r.is i l q;exact⟨l,v,rfl,a,b⟩
theorem Rel.dom(r:Rel K O H0 fps s σ H)(i:Nat):∀p∈fps i,H p≠none:=λp hp=>by obtain⟨l,v,_,_,b⟩:=r.at i hp;exact Is.dom _ _ _ b p hp
theorem Rel.env(r:Rel K O H0 fps s σ H):EnvIs K (λ_=>False) H s σ:=⟨λi l e=>by
 obtain⟨v,a,b⟩:=r.is i l e;exact⟨v,_,a,b,λ_ _ z=>z⟩⟩
theorem Rel.envO(r:Rel K O H0 fps s σ H):EnvIs K (Ow O fps) H (Ya O s) σ:=⟨λi l e=>by
 obtain⟨n,e⟩:=Py e;obtain⟨v,a,b⟩:=r.is i l e;exact⟨v,_,a,b,λp hp ⟨j,hj,hpj⟩=>r.dis j hj i (λz=>n (z▸hj)) p hpj hp⟩⟩
theorem Rel.owMut(r:Rel K O H0 fps s σ H):∀p,Ow O fps p->UR (H p):=λp ⟨i,hi,hp⟩=>(r.own i hi p hp).2
theorem Rel.grow(r:Rel K O H0 fps s σ H)(e:Same H H'):Rel K O H0 fps s σ H':=
 ⟨r.same.trans e,r.len,λi l q=>by obtain⟨v,a,b⟩:=r.is i l q;exact⟨v,a,b.mono e⟩,r.emp,r.nd,λi hi p hp=>⟨(r.own i hi p hp).1,Same.mut e (r.own i hi p hp).2⟩,r.dis⟩
theorem Rel.less{F:Hp}(r:Rel K O F fps s σ H)(e:Same H0 F):Rel K O H0 fps s σ H:=
 ⟨e.trans r.same,r.len,r.is,r.emp,r.nd,λi hi p hp=>⟨Same.off e (r.own i hi p hp).1,(r.own i hi p hp).2⟩,r.dis⟩
open Classical in
def Wd(H:Hp)(Rm:aH->Prop):Hp:=λb=>if Rm b then none else H b
theorem O2{Rm:aH->Prop}:Same (Wd H Rm) H:=λb o h=>by
 unfold Wd at h;split at h
 ·cases h
 ·exact h
theorem Rel.frame(r:Rel K O H0 fps s σ H):Rel K O (Wd H (Ow O fps)) fps s σ H:=
 ⟨O2,r.len,r.is,r.emp,r.nd,λi hi p hp=>⟨by unfold Wd;rw[mZ ⟨i,hi,hp⟩],(r.own i hi p hp).2⟩,r.dis⟩
theorem Rel.under(r:Rel K O H0 fps s σ H):Same H0 (Wd H (Ow O fps)):=λb o h=>by unfold Wd;rw[ma (λ⟨i,hi,hp⟩=>by rw[(r.own i hi b hp).1] at h;cases h)];exact r.same b o h
open Classical in
def Ru(fps:Nat->List aH)(n:Nat)(i:Nat)(fp:List aH):Nat->List aH:=λj=>if j=i/\i<n then fp else fps j
theorem YH{n i j:Nat}{fp:List aH}(h:j≠i):Ru fps n i fp j=fps j:=by unfold Ru;rw[ma (λz=>h z.1)]
theorem Jb{n i:Nat}{fp:List aH}(h:i<n):Ru fps n i fp i=fp:=by unfold Ru;rw[mZ ⟨rfl,h⟩]
theorem Rel.set(r:Rel K O H0 fps s σ H){i:Nat}{l:PV}{v:V}{fp:List aH}(hi:Is K H l v fp)(ho:i∈O->fp.Nodup/\∀p∈fp,H0 p=none/\UR (H p))
  (hd:∀j,j≠i->(j∈O\/i∈O)->∀p∈fp,p∉fps j):Rel K O H0 (Ru fps s.length i fp) (s.set i (aA l)) (σ.set i (aA v)) H:=by
 by_cases hlt:i<s.length
 ·have e1:Ru fps s.length i fp i=fp:=Jb hlt;refine⟨r.same,by rw[cz,cz];exact r.len,λj a e=>?_,λj h=>?_,λj hj=>?_,λj hj p hp=>?_,λj hj k hk p hp=>?_⟩
  ·rw[bM] at e;by_cases hj:i=j
   ·subst hj;rw[mZ rfl,mZ hlt] at e;cases e;rw[e1];exact⟨v,by rw[bM,mZ rfl,mZ (by rw[<-r.len];exact hlt)],hi⟩
   ·rw[ma hj] at e;obtain⟨w,h1,h2⟩:=r.is j a e;rw[YH (cJ hj)];exact⟨w,by rw[bM,ma hj];exact h1,h2⟩
  ·by_cases hj:i=j
   ·subst hj;exact absurd (by rw[bM,mZ rfl,mZ hlt]) (h l)
   ·rw[YH (cJ hj)];exact r.emp j λa z=>h a (by rw[bM,ma hj];exact z)
  ·by_cases e:j=i
   ·subst e;rw[e1];exact(ho hj).1
   ·rw[YH e];exact r.nd j hj
  ·by_cases e:j=i
   ·subst e;rw[e1] at hp;exact(ho hj).2 p hp
   ·rw[YH e] at hp;exact r.own j hj p hp
  ·by_cases e:j=i
   ·subst e;rw[e1] at hp;rw[YH hk];exact hd k hk (.inr hj) p hp
   ·rw[YH e] at hp;by_cases e2:k=i
    ·subst e2;rw[e1];exact λz=>hd j e (.inl hj) p z hp
    ·rw[YH e2];exact r.dis j hj k hk p hp
 ·have e1:s.set i (aA l)=s:=jC (by omega);have e2:σ.set i (aA v)=σ:=jC (by rw[<-r.len];omega);have e3:Ru fps s.length i fp=fps:=by funext j;unfold Ru;rw[ma (λz=>hlt z.2)]
  rw[e1,e2,e3];exact r
theorem Rel.mutate(r:Rel K O H0 fps s σ H){i:Nat}(hi:i∈O){p:aH}(hp:p∈fps i){o:HO}{l':PV}{v:V}{fp':List aH}(hv:σ[i]?=aA (aA v))(hlt:i<s.length)
  (h':Is K (upd H p o) l' v fp') (nd:fp'.Nodup) (hm:∀q∈fp',H0 q=none/\UR (upd H p o q)) (hd:∀j,j≠i->∀q∈fp',q∉fps j) (hmo:UR (aA o)):Rel K O H0 (Ru fps s.length i fp') (s.set i (aA l')) σ (upd H p o):=by
 have mu:=(r.own i hi p hp).2;have pn:H0 p=none:=(r.own i hi p hp).1;have e1:Ru fps s.length i fp' i=fp':=Jb hlt
 have tk:TK2 H (upd H p o):=⟨λb xs h=>by
  rw[upd_ne (λz=>by rw[z] at h;rw[h] at mu;exact mu)];exact h,λb o xs h=>by
  rw[upd_ne (λz=>by rw[z] at h;rw[h] at mu;exact mu)];exact h,λb o x h=>by
  rw[upd_ne (λz=>by rw[z] at h;rw[h] at mu;exact mu)];exact h⟩
 refine⟨λb u h=>by rw[upd_ne (ZJ h pn)];exact r.same b u h,by rw[cz];exact r.len,λj a e=>?_,λj h=>?_,λj hj=>?_,λj hj q hq=>?_,λj hj k hk q hq=>?_⟩
 ·rw[bM] at e;by_cases hj:i=j
  ·subst hj;rw[mZ rfl,mZ hlt] at e;cases e;rw[e1];exact⟨v,hv,h'⟩
  ·rw[ma hj] at e;obtain⟨w,h1,h2⟩:=r.is j a e;rw[YH (cJ hj)];refine⟨w,h1,Is.tr tk _ _ _ (λq hq=>RdK.of λu hu=>?_) h2⟩;have ne:q≠p:=λz=>r.dis i hi j (cJ hj) p hp (z▸hq);rw[upd_ne ne];exact hu
 ·by_cases hj:i=j
  ·subst hj;exact absurd (by rw[bM,mZ rfl,mZ hlt]) (h l')
  ·rw[YH (cJ hj)];exact r.emp j λa z=>h a (by rw[bM,ma hj];exact z)
 ·by_cases e:j=i
  ·subst e;rw[e1];exact nd
  ·rw[YH e];exact r.nd j hj
 ·by_cases e:j=i
  ·subst e;rw[e1] at hq;exact hm q hq
  ·rw[YH e] at hq;refine⟨(r.own j hj q hq).1,?_⟩;have ne:q≠p:=λz=>r.dis j hj i (cJ e) q hq (z▸hp);rw[upd_ne ne];exact(r.own j hj q hq).2
 ·by_cases e:j=i
  ·subst e;rw[e1] at hq;rw[YH hk];exact hd k hk q hq
  ·rw[YH e] at hq;by_cases e2:k=i
   ·subst e2;rw[e1];exact λz=>hd j e q z hq
   ·rw[YH e2];exact r.dis j hj k hk q hq
end
def Kep(a b:List aH):Prop:=a=b\/a=[]
theorem Kep.refl(a:List aH):Kep a a:=.inl rfl
theorem Kep.trans{a b c:List aH}(h:Kep a b)(k:Kep b c):Kep a c:=by
 rcases h with rfl | h
 ·exact k
 ·exact .inr h
inductive Out where
 | nx (s:ZS) | rt (l:PV) | bk (s:ZS) | ct (s:ZS)
abbrev XS:=ZS->Option Out
def OutOk(K:aG)(O W:List Nat)(H0:Hp)(fps:Nat->List aH)(σ:SK)(D:Uz):Out->Prop
 | .nx s'=>∀m8 σ' H',Rel K O H0 m8 s' σ' H'->(∀j,j∉W->σ'[j]?=σ[j]?/\Kep (m8 j) (fps j))->D.nx σ' H'
 | .bk s'=>∀m8 σ' H',Rel K O H0 m8 s' σ' H'->(∀j,j∉W->σ'[j]?=σ[j]?/\Kep (m8 j) (fps j))->D.bk σ' H'
 | .ct s'=>∀m8 σ' H',Rel K O H0 m8 s' σ' H'->(∀j,j∉W->σ'[j]?=σ[j]?/\Kep (m8 j) (fps j))->D.ct σ' H'
 | .rt l=>∀v fp H',Same H0 H'->Is K H' l v fp->fp.Nodup->(∀p∈fp,H0 p=none/\UR (H' p))->D.rt v H'
def Gg(K:aG)(O W:List Nat)(f:XS):TS:=λD σ H=>∃H0 fps s out,Rel K O H0 fps s σ H/\f s=aA out/\OutOk K O W H0 fps σ D out
def VS(X:Cx)(O W:List Nat)(st:bj)(f:XS):Prop:=PS X st (Gg X.K O W f)
def NN(X:Cx)(O W:List Nat)(st:List bj)(f:XS):Prop:=PSs X st (Gg X.K O W f)
theorem OutOk.same{O W W':List Nat}{H0:Hp}{fps fps1:Nat->List aH}{σ σ1:SK}{D:Uz}{out:Out}(h:OutOk K O W' H0 fps σ D out)(k:∀j,j∉W'->σ1[j]?=σ[j]?/\Kep (fps1 j) (fps j))(hs:∀j,j∉W'->j∉W):OutOk K O W H0 fps1 σ1 D out:=by
 cases out with
 | nx s'=>exact λm8 σ' H' r q=>h m8 σ' H' r λj hj=>⟨(q j (hs j hj)).1.trans (k j hj).1,(q j (hs j hj)).2.trans (k j hj).2⟩
 | bk s'=>exact λm8 σ' H' r q=>h m8 σ' H' r λj hj=>⟨(q j (hs j hj)).1.trans (k j hj).1,(q j (hs j hj)).2.trans (k j hj).2⟩
 | ct s'=>exact λm8 σ' H' r q=>h m8 σ' H' r λj hj=>⟨(q j (hs j hj)).1.trans (k j hj).1,(q j (hs j hj)).2.trans (k j hj).2⟩
 | rt l=>exact h
theorem OutOk.less{O W:List Nat}{H0 F:Hp}{fps:Nat->List aH}{σ:SK}{D:Uz}{out:Out}(h:OutOk K O W H0 fps σ D out)(e:Same H0 F):OutOk K O W F fps σ D out:=by
 cases out with
 | nx s'=>exact λm8 σ' H' r q=>h m8 σ' H' (r.less e) q
 | bk s'=>exact λm8 σ' H' r q=>h m8 σ' H' (r.less e) q
 | ct s'=>exact λm8 σ' H' r q=>h m8 σ' H' (r.less e) q
 | rt l=>exact λv fp H' sm i d n=>h v fp H' (e.trans sm) i d λp hp=>⟨Same.off e (n p hp).1,(n p hp).2⟩
def Zs:XS:=λs=>aA (.nx s)
def Zk(f g:XS):XS:=λs=>(f s).bind λo=>match o with | .nx s'=>g s' | r=>aA r
def YF(c:XT)(f g:XS):XS:=λs=>(c s).bind λk=>if k=aC then f s else g s
def Yd(f:XE):XS:=λs=>(f s).map .rt
def Zl(i:Nat)(f:XE):XS:=λs=>(f s).map λl=>.nx (s.set i (aA l))
section
variable {X:Cx} {O W W1 W2:List Nat} {st:bj} {m6:List bj} {f g:XS} {pos:dm}
theorem PS.imp{t t':TS}(h:PS X st t)(i:∀D σ H,t' D σ H->t D σ H):PS X st t':=λm3 s σ H D I q=>h m3 s σ H D I (i D σ H q)
theorem PSs.imp{t t':TS}(h:PSs X m6 t)(i:∀D σ H,t' D σ H->t D σ H):PSs X m6 t':=λm3 s σ H D I q=>h m3 s σ H D I (i D σ H q)
theorem Gh:∀D σ H,Gg K O W Zs D σ H->DP D σ H:=λD σ H ⟨H0,fps,s,out,r,e,k⟩=>by cases e;exact k fps σ H r λj _=>⟨rfl,Kep.refl _⟩
theorem ZA:NN X O [] [] Zs:=PSs.imp F5 Gh
theorem Zj(h:VS X O W st f):NN X O W [st] f:=Ra h
theorem Zg(h1:VS X O W1 st f)(h2:NN X O W2 m6 g):NN X O (W1++W2) (st::m6) (Zk f g):=PSs.imp (Tj h1 h2) λD σ H ⟨H0,fps,s,out,r,e,k⟩=>by
 obtain⟨o1,e1,e⟩:=Zd e;have sub1:∀j,j∉W1++W2->j∉W1:=λj hj z=>hj (bG _ z);have sub2:∀j,j∉W1++W2->j∉W2:=λj hj z=>hj (ag _ z);refine⟨H0,fps,s,o1,r,e1,?_⟩
 cases o1 with
 | nx s1=>
  intro fps1 σ1 H1 r1 q1;exact⟨H0,fps1,s1,out,r1,e,k.same (λj hj=>q1 j (sub1 j hj)) sub2⟩
 | bk s1=>cases e;exact λm8 σ' H' r' q'=>k m8 σ' H' r' λj hj=>q' j (sub1 j hj)
 | ct s1=>cases e;exact λm8 σ' H' r' q'=>k m8 σ' H' r' λj hj=>q' j (sub1 j hj)
 | rt l=>cases e;exact k
theorem Yl{c:aw}{a b:List bj}{fc:XT}(hc:VT X c fc)(ha:NN X O W1 a f)(hb:NN X O W2 b g):VS X O (W1++W2) (.If c a b pos) (YF fc f g):=PS.imp (HF hc ha hb) λD σ H ⟨H0,fps,s,out,r,e,k⟩=>by
 obtain⟨c,e1,e⟩:=Zd e;have sub1:∀j,j∉W1++W2->j∉W1:=λj hj z=>hj (bG _ z);have sub2:∀j,j∉W1++W2->j∉W2:=λj hj z=>hj (ag _ z);refine⟨λ_=>False,s,c,λ_ z=>z.elim,r.env,e1,λH1 s1=>?_⟩
 cases c with
 | true=>
  rw[mZ rfl] at e ⊢;exact⟨H0,fps,s,out,r.grow s1,e,k.same (λj _=>⟨rfl,Kep.refl _⟩) sub1⟩
 | false=>
  rw[ma a0] at e ⊢;exact⟨H0,fps,s,out,r.grow s1,e,k.same (λj _=>⟨rfl,Kep.refl _⟩) sub2⟩
theorem Z5{e:aw}{fe:XE}(he:VM X e fe):VS X O [] (.Return (aA e) pos) (Yd fe):=PS.imp (Pd he) λD σ H ⟨H0,fps,s,out,r,e,k⟩=>by obtain⟨l,e1,rfl⟩:=map_some e;exact⟨s,l,r.env,e1,λv H' fp sm i d n=>k v fp H' (r.same.trans sm) i d λp hp=>⟨Same.off r.same (n p hp).1,(n p hp).2⟩⟩
theorem EJ{e:aw}{i:Nat}(he:PE X e (Th i))(hi:i∈O:=by decide):VS X O [] (.Return (aA e) pos) (Yd (Za i)):=PS.imp (Pd he) λD σ H ⟨H0,fps,s,out,r,e,k⟩=>by obtain⟨l,e1,rfl⟩:=map_some e;obtain⟨v,a,b⟩:=r.is i l (Qd e1);exact⟨v,a,k v _ H r.same b (r.nd i hi) (r.own i hi)⟩
theorem Jc{t:TE}{i:Nat}{fe:XE}(ht:∀σ H Q,tM K fe σ H Q->t σ H Q):∀D σ H,Gg K O [i] (Zl i fe) D σ H->Mn t (Sw i) D σ H:=λD σ H ⟨H0,fps,s,out,r,e,k⟩=>by
 obtain⟨l,e1,rfl⟩:=map_some e;refine ht σ H _ ⟨s,l,r.env,e1,λv H' fp sm is d n=>?_⟩;refine k _ _ H' ((r.grow sm).set (i:=i) is (λ_=>⟨d,λp hp=>⟨Same.off r.same (n p hp).1,(n p hp).2⟩⟩) λj _ _ p hp z=>r.dom j p z (n p hp).1) λj hj=>?_;have:j≠i:=by simpa using hj
 exact⟨by rw[bM,ma (cJ this)],.inl (YH this)⟩
theorem Zq{i:Nat}{x:aR}{e:aw}{fe:XE}{pos':dm}(hN:X.N.Nodup)(hi:X.N[i]?=aA x)(hx:DN X.env.scope x)(he:VM X e fe)(hs:dX e (aA (.Name x pos')) pos.line X.env=pure aB:=by rfl)(hf:X.fn x=aC\/X.env.scope.names.lookup x=aA .local:=by first | exact .inl rfl | exact .inr rfl | assumption) :
  VS X O [i] (.Assign [.Name x pos'] e pos) (Zl i fe):=PS.imp (HG hN hi hx he hs hf) (Jc λ_ _ _ h=>h)
end
def We(T:Tgt)(fb:XS):List PV->ZS->Option Out
 | [],s=>aA (.nx s)
 | l::r,s=>(WW T l s).bind λs1=>(fb s1).bind λo=>match o with | .nx s2=>We T fb r s2 | .ct s2=>We T fb r s2 | .bk s2=>aA (.nx s2) | .rt v=>aA (.rt v)
def Wt(O:List Nat)(fi:XL)(T:Tgt)(fb:XS):XS:=λs=>(fi (Ya O s)).bind λls=>We T fb ls s
theorem Rel.setAll{O:List Nat}{H0 H:Hp}:∀{is:List Nat}{ls:List PV}{vs:List V}{fs:List aH}{fps:Nat->List aH}{s:ZS}{σ:SK},Rel K O H0 fps s σ H->Iss K H ls vs fs->ls.length=is.length->(∀i∈is,i∉O)->(∀i∈O,∀p∈fps i,p∉fs)->
  ∃m8,Rel K O H0 m8 (VL.setAll is ls s) (Xt is vs σ) H/\∀j,j∉is->(Xt is vs σ)[j]?=σ[j]?/\Kep (m8 j) (fps j)
 | [],ls,vs,fs,fps,s,σ,r,_,_,_,_=>⟨fps,by unfold VL.setAll Xt;exact r,λj _=>⟨by unfold Xt;rfl,Kep.refl _⟩⟩
 | i::is,[],vs,fs,fps,s,σ,r,_,hl,_,_=>by simp at hl
 | i::is,l::ls,vs,fs,fps,s,σ,r,hi,hl,hO,hd=>by
  obtain⟨x,rr,f1,f2,rfl,h1,h2,rfl⟩:=hi.inv;have hiO:=hO i a9
  have r1:=r.set (i:=i) h1 (λz=>absurd z hiO) λj hj hjo p hp z=>by
   rcases hjo with hjo | hjo
   ·exact hd j hjo p z (bG _ hp)
   ·exact absurd hjo hiO
  obtain⟨m8,r2,q2⟩:=Rel.setAll (is:=is) r1 h2 (by simpa using hl) (λj hj=>hO j (aQ _ hj)) λj hj p hp z=>by have hji:j≠i:=λe=>hiO (by rw[<-e];exact hj);rw[YH hji] at hp;exact hd j hj p hp (ag _ z)
  refine⟨m8,r2,λj hj=>?_⟩;have hji:j≠i:=λe=>hj (e▸a9);obtain⟨a,b⟩:=q2 j (λz=>hj (aQ _ z));exact⟨a.trans (by rw[bM,ma (cJ hji)]),b.trans (.inl (YH hji))⟩
section
variable {O W:List Nat} {T:Tgt} {fb:XS}
theorem Pz{H1:Hp}{fps:Nat->List aH}{s:ZS}{σ:SK}{D:Uz}{J:It}{ls:List PV}{out:Out}(r:Rel K O (Wd H1 (Ow O fps)) fps s σ H1)(jis:A1 K (Ow O fps) H1 J ls)(e:We T fb ls s=aA out)(hT:∀i∈T.slots,i∉O)
  (k:OutOk K O (T.slots++W) (Wd H1 (Ow O fps)) fps σ D out):Eu (gT K T) (Gg K O W fb) D σ J H1:=by
 have subT:∀j,j∉T.slots++W->j∉T.slots:=λj hj z=>hj (bG _ z);have subW:∀j,j∉T.slots++W->j∉W:=λj hj z=>hj (ag _ z)
 refine⟨λi m σ' H'=>m=ls.length-i/\i<=ls.length/\∃m8 s',Rel K O (Wd H1 (Ow O fps)) m8 s' σ' H'/\We T fb (ls.drop i) s'=aA out/\∀j,j∉T.slots++W->σ'[j]?=σ[j]?/\Kep (m8 j) (fps j),
  ⟨ls.length,by simp,gC _,fps,s,r,e,λj _=>⟨rfl,Kep.refl _⟩⟩,?_⟩
 rintro i m σ' H' ⟨rfl,hi,m8,s',r',e',q'⟩;have ab:Ab (Ow O fps) H1 H':=λb o h n=>r'.same b o (by unfold Wd;rw[ma n];exact h)
 cases q:ls.drop i with
 | nil=>
  have hil:i=ls.length:=by have:=congrArg fj q;rw[dD] at this;simp at this;omega
  subst hil;rw[q] at e';cases e';exact .inl ⟨jis.stop H' ab,k m8 σ' H' r' q'⟩
 | cons l rr=>
  obtain⟨hl,hr⟩:=Tw q;have hilt:i<ls.length:=(aL.mp hl).1;rw[q] at e';unfold We at e';obtain⟨sb,eb,e'⟩:=Zd e';obtain⟨o,eo,e'⟩:=Zd e'
  refine .inr ⟨jis.go H' i l ab hl,λσ2 H2=>∃fps2 s2,Rel K O (Wd H1 (Ow O fps)) fps2 s2 σ2 H2/\We T fb (ls.drop (i+1)) s2=aA out/\∀j,j∉T.slots++W->σ2[j]?=σ[j]?/\Kep (fps2 j) (fps j),
   λσ2 H2 h2=>⟨ls.length-(i+1),by omega,rfl,hilt,h2⟩,λx H2 y=>?_⟩
  obtain⟨s2,fx,ix,nx⟩:=jis.yld H' i l x H2 ab hl y;obtain⟨bl,bv,bf,rfl,bi,blen,bsub,buse⟩:=Qh (K:=K) ix eb;obtain⟨fps3,r3,q3⟩:=Rel.setAll (is:=T.slots) (r'.grow s2) bi blen hT λj hj p hp z=>by obtain⟨n1,n2⟩:=nx p (bsub p z);have:=(r'.own j hj p hp).1;unfold Wd at this;rw[ma n2] at this;exact n1 this
  refine buse _ _ ⟨_,fps3,_,o,r3,eo,?_⟩;have keep:∀j,j∉T.slots++W->(Xt T.slots bv σ')[j]?=σ[j]?/\Kep (fps3 j) (fps j):=λj hj=>⟨(q3 j (subT j hj)).1.trans (q' j hj).1,(q3 j (subT j hj)).2.trans (q' j hj).2⟩
  cases o with
  | nx s4=>exact λfps4 σ4 H4 r4 q4=>⟨fps4,s4,r4,by rw[hr];exact e',λj hj=>⟨(q4 j (subW j hj)).1.trans (keep j hj).1,(q4 j (subW j hj)).2.trans (keep j hj).2⟩⟩
  | ct s4=>exact λfps4 σ4 H4 r4 q4=>⟨fps4,s4,r4,by rw[hr];exact e',λj hj=>⟨(q4 j (subW j hj)).1.trans (keep j hj).1,(q4 j (subW j hj)).2.trans (keep j hj).2⟩⟩
  | bk s4=>
   cases e';exact λfps4 σ4 H4 r4 q4=>k fps4 σ4 H4 r4 λj hj=>⟨(q4 j (subW j hj)).1.trans (keep j hj).1,(q4 j (subW j hj)).2.trans (keep j hj).2⟩
  | rt v=>
   cases e';exact k
end
section
variable {X:Cx} {O W:List Nat} {tg iter:aw} {body:List bj} {fi:XL} {T:Tgt} {fb:XS} {pos:dm}
theorem Vj(hp:iK (model X.prog X.w) X.A X.env X.xe)(hc:X.calm=aC)(hi:VI X tg iter fi)(hg:PG X tg (gT X.K T))(hb:NN X O W body fb)(hT:∀i∈T.slots,i∉O:=by decide)
  (hs:∀x,bw iter X.env x=pure x:=by intro _;rfl):VS X O (T.slots++W) (.For tg iter body [] pos) (Wt O fi T fb):=PS.imp (SJ hp hc hi hg hb hs) λD σ H ⟨H0,fps,s,out,r,e,k⟩=>by
 obtain⟨ls,e1,e⟩:=Zd e;refine⟨Ow O fps,Ya O s,ls,r.owMut,r.envO,e1,λJ H1 s1 jis=>?_⟩;exact Pz (r.grow s1).frame jis e hT (k.less (r.grow s1).under)
end
def YM(c:XT)(fb:XS):Nat->ZS->Option Out
 | 0,_=>none
 | n+1,s=>(c s).bind λk=>if k=aC then(fb s).bind λo=>match o with | .nx s2=>YM c fb n s2 | .ct s2=>YM c fb n s2 | .bk s2=>aA (.nx s2) | .rt v=>aA (.rt v) else aA (.nx s)
theorem Tx{c:XT}{fb:XS}:∀{n:Nat}{s:ZS}{o:Out},YM c fb n s=aA o->YM c fb (n+1) s=aA o
 | 0,_,_,h=>by cases h
 | n+1,s,o,h=>by
  unfold YM at h ⊢;obtain⟨k,e1,h⟩:=Zd h;rw[e1]
  cases k with
  | false=>exact h
  | true=>
   rw[mZ rfl] at h;obtain⟨o1,e2,h⟩:=Zd h;simp only[aD,if_true,e2]
   cases o1 with
   | nx s2=>exact Tx h
   | ct s2=>exact Tx h
   | bk s2=>exact h
   | rt v=>exact h
theorem O3{c:XT}{fb:XS}{n m:Nat}{s:ZS}{o:Out}(h:YM c fb n s=aA o)(hm:n<=m):YM c fb m s=aA o:=by
 induction m with
 | zero=>
  have:n=0:=by omega
  subst this;exact h
 | succ m ih=>
  by_cases e:n=m+1
  ·subst e;exact h
  ·exact Tx (ih (by omega))
open Classical in
def UY(c:XT)(fb:XS):XS:=λs=>if h:∃n,(YM c fb n s).isSome=aC then YM c fb h.choose s else none
theorem Qi{c:XT}{fb:XS}{n:Nat}{s:ZS}{o:Out}(h:YM c fb n s=aA o):UY c fb s=aA o:=by
 have ex:∃n,(YM c fb n s).isSome=aC:=⟨n,by rw[h];rfl⟩;unfold UY;rw[dif_pos ex];obtain⟨o',e⟩:=cQ.mp ex.choose_spec;rw[e];rcases Nat.le_total n ex.choose with hl | hl
 ·rw[O3 h hl] at e;exact e.symm
 ·rw[O3 e hl] at h;exact h
section
variable {X:Cx} {O W:List Nat} {c:aw} {body:List bj} {fc:XT} {fb:XS} {pos:dm}
theorem MH(hp:iK (model X.prog X.w) X.A X.env X.xe)(hc:VT X c fc)(hb:NN X O W body fb):VS X O W (.While c body [] pos) (UY fc fb):=PS.imp (HH hp hc hb) λD σ H ⟨H0,fps,s,out,r,e,k⟩=>by
 unfold UY at e;split at e
 case isFalse=>cases e
 rename_i ex;generalize ex.choose=n at e;refine⟨λm σ' H'=>∃m8 s',Rel X.K O H0 m8 s' σ' H'/\YM fc fb m s'=aA out/\∀j,j∉W->σ'[j]?=σ[j]?/\Kep (m8 j) (fps j),⟨n,fps,s,r,e,λj _=>⟨rfl,Kep.refl _⟩⟩,?_⟩;rintro m σ' H' ⟨m8,s',r',e',q'⟩
 cases m with
 | zero=>cases e'
 | succ m=>
  unfold YM at e';obtain⟨b,e1,e'⟩:=Zd e';refine⟨λ_=>False,s',b,λ_ z=>z.elim,r'.env,e1,λH2 s2=>?_⟩
  cases b with
  | false=>
   rw[ma a0] at e' ⊢;cases e';exact k m8 σ' H2 (r'.grow s2) q'
  | true=>
   rw[mZ rfl] at e' ⊢;obtain⟨o,eo,e'⟩:=Zd e';refine⟨λσ2 H2=>∃fps2 s2,Rel X.K O H0 fps2 s2 σ2 H2/\YM fc fb m s2=aA out/\∀j,j∉W->σ2[j]?=σ[j]?/\Kep (fps2 j) (fps j),λσ2 H2 h2=>⟨m,jM m,h2⟩,H0,m8,s',o,r'.grow s2,eo,?_⟩
   cases o with
   | nx s4=>exact λfps4 σ4 H4 r4 q4=>⟨fps4,s4,r4,e',λj hj=>⟨(q4 j hj).1.trans (q' j hj).1,(q4 j hj).2.trans (q' j hj).2⟩⟩
   | ct s4=>exact λfps4 σ4 H4 r4 q4=>⟨fps4,s4,r4,e',λj hj=>⟨(q4 j hj).1.trans (q' j hj).1,(q4 j hj).2.trans (q' j hj).2⟩⟩
   | bk s4=>
    cases e';exact λfps4 σ4 H4 r4 q4=>k fps4 σ4 H4 r4 λj hj=>⟨(q4 j hj).1.trans (q' j hj).1,(q4 j hj).2.trans (q' j hj).2⟩
   | rt v=>cases e';exact k
end
end VL
namespace VL
open PySem PySem.Spec PyProof.Rows L2
variable {K:aG}
section
variable {O:List Nat} {H0 H H':Hp} {fps:Nat->List aH} {s:ZS} {σ:SK}
theorem Rel.lst_at(r:Rel K O H0 fps s σ H){i:Nat}(hi:i∈O){m:List PV}(e:s[i]?=aA (aA (.lst m))):∃p xs fq,σ[i]?=aA (aA (.ref p))/\H p=aA (.lst xs)/\Iss K H m xs fq/\fps i=p::fq:=by obtain⟨v,a,b⟩:=r.is i _ e;obtain⟨p,xs,fq,rfl,hp,hm,ef⟩:=b.lst_inv;exact⟨p,xs,fq,a,hp,hm,ef⟩
theorem Rel.dT_at(r:Rel K O H0 fps s σ H){i:Nat}(hi:i∈O){ks:List (List Xp)}{m:List PV}(e:s[i]?=aA (aA (.dT ks m))):∃p m4 fq,σ[i]?=aA (aA (.ref p))/\H p=aA (.dT m4)/\m4.map (·.1)=ks/\Iss K H m (m4.map (·.2)) fq/\fps i=p::fq:=by
 obtain⟨v,a,b⟩:=r.is i _ e;obtain⟨p,xs,fq,rfl,hp,hk,hm,ef⟩:=b.dT_inv;refine⟨p,xs,fq,a,?_,hk,hm,ef⟩;have mu:=(r.own i hi p (by rw[ef];exact a9)).2;rcases hp with hp | ⟨o,hp⟩
 ·exact hp
 ·rw[hp] at mu;exact mu.elim
theorem Rel.dK_at(r:Rel K O H0 fps s σ H){i:Nat}(hi:i∈O){ks:List Xp}{m:List PV}(e:s[i]?=aA (aA (.dK ks m))):∃p m4 fq,σ[i]?=aA (aA (.ref p))/\H p=aA (.dK m4)/\m4.map (·.1)=ks/\Iss K H m (m4.map (·.2)) fq/\fps i=p::fq:=by
 obtain⟨v,a,b⟩:=r.is i _ e;obtain⟨p,xs,fq,rfl,hp,hk,hm,ef⟩:=b.dK_inv;refine⟨p,xs,fq,a,?_,hk,hm,ef⟩;have mu:=(r.own i hi p (by rw[ef];exact a9)).2;rcases hp with hp | ⟨o,hp⟩
 ·exact hp
 ·rw[hp] at mu;exact mu.elim
theorem Sa{α:Type}{l:List α}{i:Nat}{a:α}(h:l[i]?=aA a):i<l.length:=(aL.mp h).1
theorem TK.upd'{p:aH}{o:HO}(mu:UR (H p)):TK2 H (L2.upd H p o):=⟨λb xs h=>by
 rw[upd_ne (λz=>by rw[z] at h;rw[h] at mu;exact mu)];exact h,λb o xs h=>by
 rw[upd_ne (λz=>by rw[z] at h;rw[h] at mu;exact mu)];exact h,λb o x h=>by
 rw[upd_ne (λz=>by rw[z] at h;rw[h] at mu;exact mu)];exact h⟩
theorem RdK.upd_ne{p q:aH}{o:HO}(ne:q≠p):RdK H (L2.upd H p o) q:=RdK.of λu hu=>by rw[L2.upd_ne ne];exact hu
theorem Rel.relist(r:Rel K O H0 fps s σ H){i:Nat}(hi:i∈O){m m':List PV}(e:s[i]?=aA (aA (.lst m))){p:aH}{fq fq':List aH}{xs':List V}(ef:fps i=p::fq)(hv:σ[i]?=aA (aA (.ref p)))
  (h':Iss K H m' xs' fq') (nd:(p::fq').Nodup) (hf:∀q∈fq',q∈fq\/((H0 q=none/\UR (H q))/\∀j,q∉fps j)):Rel K O H0 (Ru fps s.length i (p::fq')) (s.set i (aA (.lst m'))) σ (L2.upd H p (.lst xs')):=by
 have hp:p∈fps i:=by rw[ef];exact a9
 have mu:=(r.own i hi p hp).2;have np:p∉fq':=(bP.mp nd).1;refine r.mutate hi hp hv (Sa e) (Is.lst upd_same (Iss.tr (TK.upd' mu) _ _ _ (λq hq=>RdK.upd_ne λz=>np (z▸hq)) h')) nd (λq hq=>?_) (λj hj q hq z=>?_) cU
 ·rcases aV.mp hq with rfl | hq
  ·exact⟨(r.own i hi q hp).1,by rw[upd_same];exact cU⟩
  ·have ne:q≠p:=λz=>np (z▸hq);rw[L2.upd_ne ne];rcases hf q hq with h | h
   ·exact r.own i hi q (by rw[ef];exact aQ _ h)
   ·exact h.1
 ·rcases aV.mp hq with rfl | hq
  ·exact r.dis i hi j hj q hp z
  ·rcases hf q hq with h | h
   ·exact r.dis i hi j hj q (by rw[ef];exact aQ _ h) z
   ·exact h.2 j z
end
def Gi(s:ZS)(i:Nat):Option (List PV):=match s[i]? with | some (aA (.lst m))=>aA m | _=>none
def HB:PV->Option Int
 | .int k=>aA k
 | _=>none
def A2:PV->Option (List PV)
 | .lst k=>aA k
 | _=>none
theorem Rv{s:ZS}{i:Nat}{m:List PV}(h:Gi s i=aA m):s[i]?=aA (aA (.lst m)):=by
 unfold Gi at h;split at h
 ·cases h;assumption
 ·cases h
theorem Rw{a:PV}{k:Int}(h:HB a=aA k):a = .int k:=by
 unfold HB at h;split at h
 ·cases h;rfl
 ·cases h
theorem MI{a:PV}{k:List PV}(h:A2 a=aA k):a = .lst k:=by
 unfold A2 at h;split at h
 ·cases h;rfl
 ·cases h
def gd(c:Bool):Option Unit:=if c=aC then aA () else none
theorem Sb{c:Bool}{u:Unit}(h:gd c=aA u):c=aC:=by
 unfold gd at h;split at h
 ·assumption
 ·cases h
def XB(i:Nat)(f:XE):XS:=λs=>(f s).bind λl=>(Gi s i).bind λm=>(gd (decide (m.length<=10000))).bind λ_=>aA (.nx (s.set i (aA (.lst (m++[l])))))
def Sd(i:Nat)(f:XE):XS:=λs=>(f s).bind λl=>(A2 l).bind λn=>(Gi s i).bind λm=>(gd (decide (m.length+n.length<=10000))).bind λ_=>aA (.nx (s.set i (aA (.lst (m++n)))))
def Se(i:Nat)(fk:XE)(f:XE):XS:=λs=>(fk s).bind λk=>(f s).bind λl=>(HB k).bind λk=>(Gi s i).bind λm=>(gd (ZZ m&&Yc l&&decide (0<=k/\k<=1000000/\m.length<=10000))).bind λ_=>aA (.nx (s.set i (aA (.lst (m.take k.toNat++l::m.drop k.toNat)))))
section
variable {X:Cx} {O:List Nat} {i:Nat} {st:bj} {f fk:XE}
theorem tyL{H:Hp}{p:aH}{xs:List V}(h:H p=aA (.lst xs)):tyV K "list" (.ref p) H:=.inl ⟨rfl,_,SqL.of h⟩
theorem O4{s:ZS}{σ:SK}{fps:Nat->List aH}{fp:List aH}:∀j,j∉[i]->σ[j]?=σ[j]?/\Kep (Ru fps s.length i fp j) (fps j):=λj hj=>⟨rfl,.inl (YH (by simpa using hj))⟩
theorem UG(h:PS X st (Mm (tBM X.K "list" KU (Th i) (UC (tM X.K f) NB))))(hi:i∈O:=by decide):VS X O [i] st (XB i f):=PS.imp h λD σ H ⟨H0,fps,s,out,r,e,k⟩=>by
 obtain⟨l,e1,e⟩:=Zd e;obtain⟨m,em,e⟩:=Zd e;obtain⟨_,eg,e⟩:=Zd e;have em:=Rv em;have hlen:=of_decide_eq_true (Sb eg);cases e;obtain⟨p,xs,fq,hv,hp,hm,ef⟩:=r.lst_at hi em;refine⟨.ref p,hv,tyL hp,s,l,r.env,e1,λy H2 fe s2 i2 d2 n2=>?_⟩;refine⟨p,xs,y,rfl,rfl,s2 _ _ hp,by rw[hm.len];exact lt_size (by omega),?_⟩;have r2:=r.grow s2;have fr:∀q∈fe,∀j,q∉fps j:=λq hq j z=>r.dom j q z (n2 q hq).1;refine k _ _ _ (r2.relist hi em ef hv ((hm.mono s2).append (Iss.one i2)) ?_ λq hq=>?_) O4
 ·have nd:=r.nd i hi;rw[ef] at nd;rw[<-fF];exact cX.mpr ⟨nd,d2,λa ha b hb z=>fr b hb i (by rw[ef,<-z];exact ha)⟩
 ·rcases au.mp hq with h | h
  ·exact .inl h
  ·exact .inr ⟨⟨Same.off r.same (n2 q h).1,(n2 q h).2⟩,fr q h⟩
theorem Io(h:PS X st (Mm (tBM X.K "list" KW (Th i) (UC (tM X.K f) NB))))(hi:i∈O:=by decide):VS X O [i] st (Sd i f):=PS.imp h λD σ H ⟨H0,fps,s,out,r,e,k⟩=>by
 obtain⟨l,e1,e⟩:=Zd e;obtain⟨n,en,e⟩:=Zd e;obtain⟨m,em,e⟩:=Zd e;obtain⟨_,eg,e⟩:=Zd e;rw[MI en] at e1;have em:=Rv em;have hlen:=of_decide_eq_true (Sb eg);cases e;obtain⟨p,xs,fq,hv,hp,hm,ef⟩:=r.lst_at hi em;refine⟨.ref p,hv,tyL hp,s,_,r.env,e1,λy H2 fe s2 i2 d2 n2=>?_⟩;obtain⟨b,zs,fb,rfl,hb,hz,rfl⟩:=i2.lst_inv;have hb':H2 b=aA (.lst zs):=hb;refine⟨p,b,xs,zs,rfl,rfl,s2 _ _ hp,hb',by rw[hm.len,hz.len];exact cy (lt_size (by omega)),?_⟩;have r2:=r.grow s2;have fr:∀q∈fb,∀j,q∉fps j:=λq hq j z=>r.dom j q z (n2 q (aQ _ hq)).1;refine k _ _ _ (r2.relist hi em ef hv ((hm.mono s2).append hz) ?_ λq hq=>?_) O4
 ·have nd:=r.nd i hi;rw[ef] at nd;rw[<-fF];exact cX.mpr ⟨nd,(bP.mp d2).2,λa ha b hb z=>fr b hb i (by rw[ef,<-z];exact ha)⟩
 ·rcases au.mp hq with h | h
  ·exact .inl h
  ·exact .inr ⟨⟨Same.off r.same (n2 q (aQ _ h)).1,(n2 q (aQ _ h)).2⟩,fr q h⟩
theorem Iss.pureEq{H:Hp}{l:List PV}{xs:List V}{fp:List aH}(h:Iss K H l xs fp)(hp:ZZ l=aC):Iss K H l xs []:=by have:=Iss.pure _ _ _ hp h;subst this;exact h
theorem LW{l:List PV}(n:Nat)(h:ZZ l=aC):ZZ (l.take n)=aC:=by rw[VG,bB] at *;exact λx hx=>h x (bz hx)
theorem LX{l:List PV}(n:Nat)(h:ZZ l=aC):ZZ (l.drop n)=aC:=by rw[VG,bB] at *;exact λx hx=>h x (gy hx)
theorem Ip(h:PS X st (Mm (tBM X.K "list" K2 (Th i) (UC (tF X.K fk) (UC (tF X.K f) NB)))))(hi:i∈O:=by decide):VS X O [i] st (Se i fk f):=PS.imp h λD σ H ⟨H0,fps,s,out,r,e,k⟩=>by obtain⟨kk,e0,e⟩:=Zd e;obtain⟨l,e1,e⟩:=Zd e;obtain⟨ki,ek,e⟩:=Zd e;obtain⟨m,em,e⟩:=Zd e;obtain⟨_,eg,e⟩:=Zd e;rw[Rw ek] at e0;have em:=Rv em;have hc:=Sb eg;simp only[bE,decide_eq_true_eq] at hc;obtain⟨⟨pm,pl⟩,k0,k1,hlen⟩:=hc;cases e;obtain⟨p,xs,fq,hv,hp,hm,ef⟩:=r.lst_at hi em;refine⟨.ref p,hv,tyL hp,λ_=>False,s,_,λ_ z=>z.elim,r.env,e0,λz H1 fz s1 i1 _=>⟨λ_=>False,s,l,λ_ z=>z.elim,r.env.mono s1,e1,λy H2 fe s2 i2 _=>?_⟩⟩;have s12:=s1.trans s2;obtain⟨rfl,_⟩:=i1.int_inv;have:=Is.pure _ _ _ pl i2;subst this;refine⟨p,xs,ki,y,rfl,rfl,s12 _ _ hp,k0,by omega,by rw[hm.len];exact lt_size (by omega),?_⟩;have hm':=(hm.mono s12).pureEq pm;obtain⟨f1,a1,_⟩:=hm'.take ki.toNat;obtain⟨f2,a2,_⟩:=hm'.drop ki.toNat;have a1:=a1.pureEq (LW _ pm);have a2:=a2.pureEq (LX _ pm);exact k _ _ _ ((r.grow s12).relist hi em ef hv (a1.append (Iss.cons i2 a2)) (by simp) λq hq=>by simp at hq) O4
end
theorem Iss.setRow{H:Hp}{o:List V}:∀{m:List PV}{xs:List V}{fq:List aH}{j:Nat}{n n':List PV}{q:aH},Iss K H m xs fq->m[j]?=aA (.lst n)->xs[j]?=aA (.ref q)->fq.Nodup->UR (H q)->ZZ n=aC->Iss K (L2.upd H q (.lst o)) n' o []->
  Iss K (L2.upd H q (.lst o)) (m.set j (.lst n')) xs fq
 | [],_,_,_,_,_,_,_,e,_,_,_,_,_=>by simp at e
 | a::m,xs,fq,0,n,n',q,h,e,ex,nd,mu,pn,h'=>by obtain⟨x,r,f1,f2,rfl,h1,h2,rfl⟩:=h.inv;simp at e ex;subst e ex;obtain⟨p',zs,fz,e,hp,hz,rfl⟩:=h1.lst_inv;cases e;have:=Iss.pure _ _ _ pn hz;subst this;have nq:q∉f2:=(bP.mp nd).1;exact Iss.cons (Is.lst upd_same h') (Iss.tr (TK.upd' mu) _ _ _ (λz hz=>RdK.upd_ne λe=>nq (e▸hz)) h2)
 | a::m,xs,fq,j+1,n,n',q,h,e,ex,nd,mu,pn,h'=>by obtain⟨x,r,f1,f2,rfl,h1,h2,rfl⟩:=h.inv;simp at e ex;obtain⟨nd1,nd2,nd3⟩:=cX.mp nd;obtain⟨y,fy,hy,iy,suby⟩:=h2.get e;rw[ex] at hy;cases hy;obtain⟨p',zs,fz,e',_,_,rfl⟩:=iy.lst_inv;cases e';have nq:q∉f1:=λz=>nd3 q z q (suby q a9) rfl;exact Iss.cons (Is.tr (TK.upd' mu) _ _ _ (λz hz=>RdK.upd_ne λe=>nq (e▸hz)) h1) (Iss.setRow h2 e ex nd2 mu pn h')
def Ym(i:Nat)(fa fb:XE)(f:XE):XS:=λs=>(f s).bind λl=>(fa s).bind λa=>(fb s).bind λb=>(HB a).bind λa=>(HB b).bind λb=>(Gi s i).bind λm=>(KR m.length a).bind λj=>(m[j]?).bind λr=>(A2 r).bind λn=>
 (gd (ZZ n&&Yc l)).bind λ_=>(KR n.length b).map λc=>.nx (s.set i (aA (.lst (m.set j (.lst (n.set c l))))))
theorem Ww{X:Cx}{O:List Nat}{i:Nat}{st:bj}{f fa fb:XE}(h:PS X st (Mn (tF X.K f) (As (CV (Eh X.K) (Th i) (tF X.K fa)) (tF X.K fb) DU)))(hi:i∈O:=by decide):VS X O [i] st (Ym i fa fb f):=PS.imp h λD σ H ⟨H0,fps,s,out,r,e,k⟩=>by
 obtain⟨l,e0,e⟩:=Zd e;obtain⟨a,e1,e⟩:=Zd e;obtain⟨b,e2,e⟩:=Zd e;obtain⟨ai,ea,e⟩:=Zd e;obtain⟨bi,eb,e⟩:=Zd e;obtain⟨m,em,e⟩:=Zd e;obtain⟨j,ej,e⟩:=Zd e;obtain⟨rw',en,e⟩:=Zd e;obtain⟨n,er,e⟩:=Zd e;obtain⟨_,eg,e⟩:=Zd e;rw[Rw ea] at e1;rw[Rw eb] at e2;rw[MI er] at en;have em:=Rv em;have hc:=Sb eg;simp only[bE] at hc;obtain⟨pn,pl⟩:=hc;obtain⟨c,ec,rfl⟩:=map_some e;obtain⟨p,xs,fq,hv,hp,hm,ef⟩:=r.lst_at hi em;refine⟨λ_=>False,s,l,λ_ z=>z.elim,r.env,e0,λy H1 fy s1 i1 _=>?_⟩;refine⟨.ref p,hv,λ_=>False,s,_,λ_ z=>z.elim,r.env.mono s1,e1,λz H2 fz s2 i2 _=>?_⟩;obtain⟨rfl,_⟩:=i2.int_inv;have s12:=s1.trans s2;obtain⟨q,f1,hq,iq,subq⟩:=(hm.mono s12).get en;obtain⟨qa,zs,fz',rfl,hqa,hz,rfl⟩:=id iq.lst_inv;refine⟨p,xs,ai,.ref qa,rfl,rfl,SqL.of (s12 _ _ hp),?_,λ_=>False,s,_,λ_ z=>z.elim,r.env.mono s12,e2,λw H3 fw s3 i3 _=>?_⟩
 ·unfold Vv;rw[hm.len,ej];exact hq
 obtain⟨rfl,_⟩:=i3.int_inv;have s123:=s12.trans s3;have r3:=r.grow s123;have hqf:qa∈fps i:=by rw[ef];exact aQ _ (subq qa a9)
 have mu:=(r3.own i hi qa hqf).2;have hqa3:H3 qa=aA (.lst zs):=s3 _ _ hqa;have:=Is.pure _ _ _ pl i1;subst this;refine⟨qa,zs,bi,c,rfl,rfl,hqa3,by rw[hz.len];exact ec,?_⟩;have nd:=r.nd i hi;rw[ef] at nd;have hqp:qa≠p:=λz=>(bP.mp nd).1 (z▸subq qa a9);have newrow:Iss X.K (L2.upd H3 qa (.lst (zs.set c y))) (n.set c l) (zs.set c y) []:=Iss.tr (TK.upd' mu) _ _ _ (λq hq=>by simp at hq) (Iss.setP c pn pl ((hz.mono s3).pureEq pn) (i1.mono (s2.trans s3)));have rows:=Iss.setRow (hm.mono s123) en hq (bP.mp nd).2 mu pn newrow;refine k _ _ _ (r3.mutate (o:=.lst (zs.set c y)) (l':=.lst (m.set j (.lst (n.set c l)))) (fp':=p::fq) hi hqf hv (Sa em) (Is.lst (by rw[L2.upd_ne (cJ hqp)];exact s123 _ _ hp) rows) nd (λq hq=>?_) (λj hj q hq z=>r.dis i hi j hj q (by rw[ef];exact hq) z) cU) O4;refine⟨(r.own i hi q (by rw[ef];exact hq)).1,?_⟩;by_cases e:q=qa
 ·subst e;rw[upd_same];exact cU
 ·rw[L2.upd_ne e];exact(r3.own i hi q (by rw[ef];exact hq)).2
def Iq(i:Nat)(g:PV->PV->Option PV)(f:XE):XS:=λs=>match s[i]? with | some (aA a)=>(f s).bind λb=>(g a b).map λl=>.nx (s.set i (aA l)) | _=>none
theorem EK{X:Cx}{O:List Nat}{i:Nat}{st:bj}{f:XE}{g:Int->Int->Int}(h:PS X st (Au i (tF X.K f) (ipI g))):VS X O [i] st (Iq i (gI g) f):=PS.imp h λD σ H ⟨H0,fps,s,out,r,e,k⟩=>by
 unfold Iq at e;split at e
 case h_2=>cases e
 rename_i a ea;obtain⟨b,e1,e⟩:=Zd e;obtain⟨l,e2,rfl⟩:=map_some e;obtain⟨m,n,rfl,rfl,rfl⟩:=K5 e2;obtain⟨v,hv,iv⟩:=r.is i _ ea;refine⟨v,hv,λ_=>False,s,_,λ_ z=>z.elim,r.env,e1,λy H1 fy s1 i1 _=>⟨m,n,iv.int_inv.1,i1.int_inv.1,?_⟩⟩;refine k _ _ H1 ((r.grow s1).set (i:=i) (Is.int _) (λ_=>⟨bx,λp hp=>by simp at hp⟩) λj _ _ p hp=>by simp at hp) λj hj=>?_;have:j≠i:=by simpa using hj
 exact⟨by rw[bM,ma (cJ this)],.inl (YH this)⟩
def MJ(T:Tgt)(f:XE):XS:=λs=>(f s).bind λl=>if Yc l=aC then(WW T l s).map .nx else none
theorem EL{X:Cx}{O:List Nat}{st:bj}{f:XE}{T:Tgt}(h:PS X st (Mn (tF X.K f) (gT X.K T)))(hT:∀i∈T.slots,i∉O:=by decide):VS X O T.slots st (MJ T f):=PS.imp h λD σ H ⟨H0,fps,s,out,r,e,k⟩=>by
 obtain⟨l,e1,e⟩:=Zd e;split at e
 case isFalse=>cases e
 rename_i pl;obtain⟨s',e2,rfl⟩:=map_some e;refine⟨λ_=>False,s,l,λ_ z=>z.elim,r.env,e1,λv H1 fp s1 i1 _=>?_⟩;have:=Is.pure _ _ _ pl i1;subst this;obtain⟨ls,vs,fs,rfl,hi,hl,sub,use⟩:=Qh (K:=X.K) i1 e2;obtain⟨m8,r2,q2⟩:=Rel.setAll (is:=T.slots) (r.grow s1) hi hl hT λj hj p hp z=>by have:=sub p z;simp at this
 exact use σ D.nx (k m8 _ H1 r2 q2)
end VL
namespace VL
open PySem PySem.Spec PyProof.Rows L2
variable {K:aG}
def PB:PV->Option Xp
 | .int i=>aA (.inl i)
 | .str x=>aA (.inr x)
 | _=>none
def MK:List PV->Option (List Xp)
 | []=>aA []
 | a::r=>(PB a).bind λk=>(MK r).map (k::·)
def PD:PV->Option (List Xp)
 | .tup l=>MK l
 | _=>none
def kP:Xp->PV
 | .inl i=>.int i
 | .inr x=>.str x
theorem NO{H:Hp}{a:PV}{k:Xp}{v:V}{fp:List aH}(e:PB a=aA k)(h:Is K H a v fp):v=kV k/\fp=[]:=by
 cases a with
 | int i=>cases e;exact h.int_inv
 | str x=>cases e;exact h.str_inv
 | _=>cases e
theorem ML{H:Hp}:∀{l:List PV}{ks:List Xp}{xs:List V}{fp:List aH},MK l=aA ks->Iss K H l xs fp->xs=ks.map kV/\fp=[]
 | [],ks,xs,fp,e,h=>by cases e;simpa only[dZ,Iss] using h
 | a::r,ks,xs,fp,e,h=>by obtain⟨k,e1,e⟩:=Zd (show(PB a).bind (λk=>(MK r).map (k::·))=aA ks from e);obtain⟨kr,e2,rfl⟩:=map_some e;obtain⟨x,rr,f1,f2,rfl,h1,h2,rfl⟩:=h.inv;obtain⟨rfl,rfl⟩:=NO e1 h1;obtain⟨rfl,rfl⟩:=ML e2 h2;exact⟨rfl,rfl⟩
theorem Jd{H:Hp}{a:PV}{k:List Xp}{v:V}{fp:List aH}(e:PD a=aA k)(h:Is K H a v fp):∃b,v = .ref b/\H b=aA (.tup (k.map kV)):=by
 cases a with
 | tup l=>
  obtain⟨p,xs,rfl,hp,hi⟩:=h.tup_inv;obtain⟨rfl,_⟩:=ML (show MK l=aA k from e) hi;exact⟨p,rfl,hp⟩
 | _=>cases e
theorem A3{H:Hp}(k:Xp):Is K H (kP k) (kV k) []:=by
 cases k with
 | inl i=>exact Is.int i
 | inr x=>exact Is.str x
theorem Gj{H:Hp}:∀(ks:List Xp),Iss K H (ks.map kP) (ks.map kV) []
 | []=>Iss.nil
 | k::r=>Iss.cons (f1:=[]) (A3 k) (Gj r)
section
variable {κ:Type} [DecidableEq κ]
def Vk(ks:List κ)(vs:List PV)(k:κ):Option PV:=((ks.zip vs).find? λz=>decide (z.1=k)).map (·.2)
def UH(ks:List κ)(k:κ):List κ:=if k∈ks then ks else ks++[k]
def UI(ks:List κ)(vs:List PV)(k:κ)(v:PV):List PV:=if k∈ks then(ks.zip vs).map λz=>if z.1=k then v else z.2 else vs++[v]
theorem PF{H:Hp}:∀{m4:List (κ×V)}{l:List PV}{fq:List aH}(k:κ),Iss K H l (m4.map (·.2)) fq->
  (Vk (m4.map (·.1)) l k=none/\Ts m4 k=none)\/∃a x f,Vk (m4.map (·.1)) l k=aA a/\Ts m4 k=aA x/\Is K H a x f/\∀p∈f,p∈fq
 | [],l,fq,k,h=>.inl ⟨by unfold Vk;simp,rfl⟩
 | kv::r,[],fq,k,h=>by have:=h.len;simp at this
 | kv::r,a::l,fq,k,h=>by
  obtain⟨x,rr,f1,f2,e,h1,h2,rfl⟩:=h.inv;cases e;by_cases hk:kv.1=k
  ·refine .inr ⟨a,kv.2,f1,?_,Rc hk,h1,λp hp=>bG _ hp⟩;unfold Vk;rw[aW,dB,dW];simp[hk]
  ·have e1:Vk ((kv::r).map (·.1)) (a::l) k=Vk (r.map (·.1)) l k:=by unfold Vk;rw[aW,dB,dW];simp[hk]
   rw[e1,Rf hk];rcases PF (l:=l) k h2 with z | ⟨b,y,f,z1,z2,z3,z4⟩
   ·exact .inl z
   ·exact .inr ⟨b,y,f,z1,z2,z3,λp hp=>ag _ (z4 p hp)⟩
theorem any_mem{m4:List (κ×V)}{k:κ}:(m4.any λkv=>decide (kv.1=k))=aC↔k∈m4.map (·.1):=by
 rw[jN,ah];constructor
 ·rintro⟨x,hx,e⟩;exact⟨x,hx,of_decide_eq_true e⟩
 ·rintro⟨x,hx,e⟩;exact⟨x,hx,decide_eq_true e⟩
theorem Je{m4:List (κ×V)}{k:κ}{x:V}:(UE m4 k x).map (·.1)=UH (m4.map (·.1)) k:=by
 unfold UE UH;by_cases h:k∈m4.map (·.1)
 ·rw[mZ (any_mem.mpr h),mZ h,cO];apply cu;intro z _;show(if z.1=k then(z.1,x) else z).1=z.1;split<;>rfl
 ·rw[ma (λz=>h (any_mem.mp z)),ma h,bt];rfl
theorem Jf{H:Hp}{m4:List (κ×V)}{l:List PV}{k:κ}{a:PV}{x:V}(h:Iss K H l (m4.map (·.2)) [])(hp:ZZ l=aC)(ha:Is K H a x [])(pa:Yc a=aC):Iss K H (UI (m4.map (·.1)) l k a) ((UE m4 k x).map (·.2)) []:=by
 unfold UE UI;by_cases hk:k∈m4.map (·.1)
 ·rw[mZ (any_mem.mpr hk),mZ hk];clear hk
  induction m4 generalizing l with
  | nil=>
   have:=h.len
   cases l with
   | nil=>exact Iss.nil
   | cons _ _=>simp at this
  | cons kv r ih=>
   cases l with
   | nil=>have:=h.len;simp at this
   | cons b l=>
    obtain⟨y,rr,f1,f2,e,h1,h2,e2⟩:=h.inv;cases e;simp only[ZZ,bE] at hp;have z1:=Is.pure _ _ _ hp.1 h1;have z2:=Iss.pure _ _ _ hp.2 h2;subst z1 z2;have ih:=ih h2 hp.2;rw[aW,dB,aW,aW,aW];by_cases e:kv.1=k
    ·rw[mZ e,mZ e];exact Iss.cons (f1:=[]) ha ih
    ·rw[ma e,ma e];exact Iss.cons (f1:=[]) h1 ih
 ·rw[ma (λz=>hk (any_mem.mp z)),ma hk,bt];exact h.append (Iss.one ha)
end
def XM:PV->PV->Option PV
 | .dK ks vs,k=>(PB k).bind λk=>Vk ks vs k
 | .dT ks vs,k=>(PD k).bind λk=>Vk ks vs k
 | _,_=>none
def Aa:PV->PV->Option Bool
 | .dK ks vs,k=>(PB k).map λk=>(Vk ks vs k).isSome
 | .dT ks vs,k=>(PD k).map λk=>(Vk ks vs k).isSome
 | _,_=>none
theorem NP{H:Hp}{d k:PV}{x y:V}{fd fk:List aH}(hd:Is K H d x fd)(hk:Is K H k y fk){b:Bool}(e:Aa d k=aA b):∃a o,x = .ref a/\Mx H a y o/\o.isSome=b/\((XM d k=none/\o=none)\/∃c v f,XM d k=aA c/\o=aA v/\Is K H c v f/\∀p∈f,p∈fd):=by
 cases d with
 | dK ks vs=>
  obtain⟨kk,e1,rfl⟩:=map_some (show(PB k).map (λk=>(Vk ks vs k).isSome)=aA b from e);obtain⟨p,m4,fq,rfl,hp,rfl,hi,rfl⟩:=hd.dK_inv;obtain⟨rfl,_⟩:=NO e1 hk;refine⟨p,Ts m4 kk,rfl,.inl ⟨m4,kk,hp,rfl,rfl⟩,?_,?_⟩
  ·rcases PF kk hi with⟨z1,z2⟩ | ⟨a,v,f,z1,z2,_⟩<;>rw[z1,z2]<;>rfl
  ·show(XM (.dK _ vs) k=none/\_)\/_;have eg:XM (.dK (m4.map (·.1)) vs) k=Vk (m4.map (·.1)) vs kk:=by show(PB k).bind _=_;rw[e1];rfl
   rw[eg];rcases PF kk hi with z | ⟨a,v,f,z1,z2,z3,z4⟩
   ·exact .inl z
   ·exact .inr ⟨a,v,f,z1,z2,z3,λq hq=>aQ _ (z4 q hq)⟩
 | dT ks vs=>
  obtain⟨kk,e1,rfl⟩:=map_some (show(PD k).map (λk=>(Vk ks vs k).isSome)=aA b from e);obtain⟨p,m4,fq,rfl,hp,rfl,hi,rfl⟩:=hd.dT_inv;obtain⟨b,rfl,hb⟩:=Jd e1 hk;refine⟨p,Ts m4 kk,rfl,.inr ⟨m4,kk,b,hp,rfl,hb,rfl⟩,?_,?_⟩
  ·rcases PF kk hi with⟨z1,z2⟩ | ⟨a,v,f,z1,z2,_⟩<;>rw[z1,z2]<;>rfl
  ·have eg:XM (.dT (m4.map (·.1)) vs) k=Vk (m4.map (·.1)) vs kk:=by show(PD k).bind _=_;rw[e1];rfl
   rw[eg];rcases PF kk hi with z | ⟨a,v,f,z1,z2,z3,z4⟩
   ·exact .inl z
   ·exact .inr ⟨a,v,f,z1,z2,z3,λq hq=>aQ _ (z4 q hq)⟩
 | _=>cases e
theorem EM{d k c:PV}(h:XM d k=aA c):Aa d k=aA aC:=by
 cases d with
 | dK ks vs=>
  obtain⟨kk,e1,e2⟩:=Zd (show(PB k).bind (λk=>Vk ks vs k)=aA c from h);show(PB k).map _=_;rw[e1];show aA ((Vk ks vs kk).isSome)=_;rw[e2];rfl
 | dT ks vs=>
  obtain⟨kk,e1,e2⟩:=Zd (show(PD k).bind (λk=>Vk ks vs k)=aA c from h);show(PD k).map _=_;rw[e1];show aA ((Vk ks vs kk).isSome)=_;rw[e2];rfl
 | _=>cases h
section
variable {X:Cx} {o i e f:aw} {fd fk fx:XE} {pos apos m7:dm}
theorem Gk:∀σ H Q,tF K (Zh XM fd fk) σ H Q->DW (tF K fd) (tF K fk) σ H Q:=λσ H Q ⟨Rm,s,l,hd,env,e,k⟩=>by
 obtain⟨d,kk,e1,e2,e3⟩:=Vb e;refine⟨Rm,s,d,hd,env,e1,λx H1 f1 s1 i1 n1=>⟨Rm,s,kk,λp hp=>Same.mut s1 (hd p hp),env.mono s1,e2,λy H2 f2 s2 i2 n2=>?_⟩⟩;obtain⟨a,ov,rfl,dg,_,alt⟩:=NP (i1.mono s2) i2 (EM e3);rcases alt with⟨z,_⟩ | ⟨c,v,fv,z1,rfl,z3,z4⟩
 ·rw[z] at e3;cases e3
 ·rw[z1] at e3;cases e3;exact⟨a,v,rfl,dg,k v H2 fv (s1.trans s2) z3 λp hp=>n1 p (z4 p hp)⟩
theorem Rx(hu:X.A.units+1<eJ)(ho:VE X o fd)(hi:VE X i fk)(hs:Bc i:=by exact λ_ _=>rfl):VE X (.Subscript o i pos) (Zh XM fd fk):=PE.imp (Em hu ho hi hs) Gk
def Qj(neg:Bool)(fk fd:XE):XE:=λs=>(fk s).bind λk=>(fd s).bind λd=>(Aa d k).map λb=>.bl (if neg then !b else b)
theorem EN:∀σ H Q,tF K (Qj aB fk fd) σ H Q->AO (tF K fk) (tF K fd) σ H Q:=λσ H Q ⟨Rm,s,l,hd,env,e,k⟩=>by obtain⟨kk,e1,e⟩:=Zd e;obtain⟨d,e2,e⟩:=Zd e;obtain⟨b,e3,rfl⟩:=map_some e;refine⟨Rm,s,kk,hd,env,e1,λy H1 f1 s1 i1 n1=>⟨Rm,s,d,λp hp=>Same.mut s1 (hd p hp),env.mono s1,e2,λx H2 f2 s2 i2 n2=>?_⟩⟩;obtain⟨a,ov,rfl,dg,rfl,_⟩:=NP i2 (i1.mono s2) e3;exact⟨a,ov,rfl,dg,k _ H2 [] (s1.trans s2) (Is.bl _) λp hp=>by simp at hp⟩
theorem LY:∀σ H Q,tF K (Qj aC fk fd) σ H Q->KZ (tF K fk) (tF K fd) σ H Q:=λσ H Q ⟨Rm,s,l,hd,env,e,k⟩=>by obtain⟨kk,e1,e⟩:=Zd e;obtain⟨d,e2,e⟩:=Zd e;obtain⟨b,e3,rfl⟩:=map_some e;refine⟨Rm,s,kk,hd,env,e1,λy H1 f1 s1 i1 n1=>⟨Rm,s,d,λp hp=>Same.mut s1 (hd p hp),env.mono s1,e2,λx H2 f2 s2 i2 n2=>?_⟩⟩;obtain⟨a,ov,rfl,dg,rfl,_⟩:=NP i2 (i1.mono s2) e3;exact⟨a,ov,rfl,dg,k _ H2 [] (s1.trans s2) (Is.bl _) λp hp=>by simp at hp⟩
theorem Br(hu:X.A.units+1<eJ)(hi:VE X i fk)(ho:VE X o fd)(hm:cP .In o=aB:=by with_unfolding_all rfl):VT X (.Compare i [.In] [o] pos) (xB (Qj aB fk fd)):=PT.imp (NA (Bd hu hi ho) hm) λσ H Q h=>QS EN σ H Q (K6 σ H Q h)
theorem Ir(hu:X.A.units+1<eJ)(hi:VE X i fk)(ho:VE X o fd)(hm:cP .NotIn o=aB:=by with_unfolding_all rfl):VT X (.Compare i [.NotIn] [o] pos) (xB (Qj aC fk fd)):=PT.imp (NA (Ic hu hi ho) hm) λσ H Q h=>QS LY σ H Q (K6 σ H Q h)
end
def LZ(d k v:PV):Option PV:=match d with
 | .dT ks vs=>(gd (ZZ vs&&Yc v&&decide (ks.length<=10000))).bind λ_=>(PD k).map λk=>.dT (UH ks k) (UI ks vs k v)
 | .dK ks vs=>(gd (ZZ vs&&Yc v&&decide (ks.length<=10000))).bind λ_=>(PB k).map λk=>.dK (UH ks k) (UI ks vs k v)
 | _=>none
def sDPut(i:Nat)(fk fv:XE):XS:=λs=>(fv s).bind λv=>(fk s).bind λk=>((s[i]?).join).bind λd=>(LZ d k v).map λd=>.nx (s.set i (aA d))
theorem Ry{X:Cx}{O:List Nat}{i:Nat}{st:bj}{fk fv:XE}(h:PS X st (L2.sDPut (Th i) (tF X.K fk) (tF X.K fv)))(hi:i∈O:=by decide):VS X O [i] st (sDPut i fk fv):=PS.imp h λD σ H ⟨H0,fps,s,out,r,e,k⟩=>by
 obtain⟨v,e1,e⟩:=Zd e;obtain⟨kk,e2,e⟩:=Zd e;obtain⟨d,em,e⟩:=Zd e;obtain⟨d',ed,rfl⟩:=map_some e;have em:=join_some em
 cases d with
 | dT ks vs=>
  obtain⟨_,eg,ed⟩:=Zd (show(gd (ZZ vs&&Yc v&&decide (ks.length<=10000))).bind (λ_=>(PD kk).map λk=>PV.dT (UH ks k) (UI ks vs k v))=aA d' from ed);have hc:=Sb eg;simp only[bE,decide_eq_true_eq] at hc;obtain⟨⟨pm,pl⟩,hlen⟩:=hc;obtain⟨kt,e3,rfl⟩:=map_some ed;obtain⟨p,m4,fq,hv,hp,rfl,hm,ef⟩:=r.dT_at hi em;refine⟨λ_=>False,s,v,λ_ z=>z.elim,r.env,e1,λy H1 fy s1 i1 _=>⟨.ref p,hv,λ_=>False,s,kk,λ_ z=>z.elim,r.env.mono s1,e2,λz H2 fz s2 i2 _=>?_⟩⟩;have s12:=s1.trans s2;obtain⟨b,rfl,hb⟩:=Jd e3 i2;have z1:=Is.pure _ _ _ pl i1;subst z1;have hm':=(hm.mono s12).pureEq pm;have z2:=Iss.pure _ _ _ pm hm;subst z2;have r2:=r.grow s12;have hpf:p∈fps i:=by rw[ef];exact a9
  have mu:=(r2.own i hi p hpf).2;refine⟨p,_,rfl,.inr ⟨m4,kt,b,s12 _ _ hp,rfl,hb,by rw[<-aN (·.1)];exact lt_size hlen,rfl⟩,?_⟩;refine k _ _ _ (r2.mutate (o:=.dT (UE m4 kt y)) (l':=.dT (UH (m4.map (·.1)) kt) (UI (m4.map (·.1)) vs kt v)) (fp':=[p]) hi hpf hv (Sa em) (Is.dT upd_same Je (Iss.tr (TK.upd' mu) _ _ _ (λq hq=>by simp at hq) (Jf hm' pm (i1.mono s2) pl))) (by simp) (λq hq=>?_) (λj hj q hq z=>r.dis i hi j hj q (by rw[ef];exact hq) z) cU) O4;rw[aP.mp hq];exact⟨(r.own i hi p hpf).1,by rw[upd_same];exact cU⟩
 | dK ks vs=>
  obtain⟨_,eg,ed⟩:=Zd (show(gd (ZZ vs&&Yc v&&decide (ks.length<=10000))).bind (λ_=>(PB kk).map λk=>PV.dK (UH ks k) (UI ks vs k v))=aA d' from ed);have hc:=Sb eg;simp only[bE,decide_eq_true_eq] at hc;obtain⟨⟨pm,pl⟩,hlen⟩:=hc;obtain⟨kt,e3,rfl⟩:=map_some ed;obtain⟨p,m4,fq,hv,hp,rfl,hm,ef⟩:=r.dK_at hi em;refine⟨λ_=>False,s,v,λ_ z=>z.elim,r.env,e1,λy H1 fy s1 i1 _=>⟨.ref p,hv,λ_=>False,s,kk,λ_ z=>z.elim,r.env.mono s1,e2,λz H2 fz s2 i2 _=>?_⟩⟩;have s12:=s1.trans s2;obtain⟨rfl,_⟩:=NO e3 i2;have z1:=Is.pure _ _ _ pl i1;subst z1;have hm':=(hm.mono s12).pureEq pm;have z2:=Iss.pure _ _ _ pm hm;subst z2;have r2:=r.grow s12;have hpf:p∈fps i:=by rw[ef];exact a9
  have mu:=(r2.own i hi p hpf).2;refine⟨p,_,rfl,.inl ⟨m4,kt,s12 _ _ hp,rfl,by rw[<-aN (·.1)];exact lt_size hlen,rfl⟩,?_⟩;refine k _ _ _ (r2.mutate (o:=.dK (UE m4 kt y)) (l':=.dK (UH (m4.map (·.1)) kt) (UI (m4.map (·.1)) vs kt v)) (fp':=[p]) hi hpf hv (Sa em) (Is.dK upd_same Je (Iss.tr (TK.upd' mu) _ _ _ (λq hq=>by simp at hq) (Jf hm' pm (i1.mono s2) pl))) (by simp) (λq hq=>?_) (λj hj q hq z=>r.dis i hi j hj q (by rw[ef];exact hq) z) cU) O4;rw[aP.mp hq];exact⟨(r.own i hi p hpf).1,by rw[upd_same];exact cU⟩
 | _=>cases ed
end VL
namespace VL
open PySem PySem.Spec PyProof.Rows L2
variable {K:aG}
section
variable {X:Cx} {a b c d:aw} {fa fb fc fd:XE} {pos:dm}
theorem MM(hu:X.A.units+64<eJ)(ha:VE X a fa)(hb:VE X b fb):VE X (.Compare a [.Eq] [b] pos) (Zh (YJ aB) fa fb):=LP (Gb hu) (NM aB) ha hb (Tp _)
theorem A4(hu:X.A.units+64<eJ)(ha:VE X a fa)(hb:VE X b fb):VE X (.Compare a [.NotEq] [b] pos) (Zh (YJ aC) fa fb):=LP (Gd hu) (NM aC) ha hb (Tp _)
theorem UJ(hu:X.A.units+64<eJ)(ha:VE X a fa)(hb:VE X b fb):VT X (.Compare a [.Eq] [b] pos) (xB (Zh (YJ aB) fa fb)):=Tu (Gb hu) (NM aB) ha hb (Tp _)
theorem O5(hu:X.A.units+64<eJ)(ha:VE X a fa)(hb:VE X b fb):VT X (.Compare a [.NotEq] [b] pos) (xB (Zh (YJ aC) fa fb)):=Tu (Gd hu) (NM aC) ha hb (Tp _)
theorem Jg(hu:X.A.units+64<eJ)(ha:VE X a fa)(hb:VE X b fb)(hm:cP .In b=aB:=by with_unfolding_all rfl):VT X (.Compare a [.In] [b] pos) (xB (Zh (Rr aB) fa fb)):=Tu (Bq hu) (Ge aB) ha hb hm
theorem Tz(hu:X.A.units+64<eJ)(ha:VE X a fa)(hb:VE X b fb)(hm:cP .NotIn b=aB:=by with_unfolding_all rfl):VT X (.Compare a [.NotIn] [b] pos) (xB (Zh (Rr aC) fa fb)):=Tu (Il hu) (Ge aC) ha hb hm
def MN:PV->Option Bool
 | .bl c=>aA c
 | _=>none
theorem PH{a:PV}{k:Bool}(h:MN a=aA k):a = .bl k:=by
 unfold MN at h;split at h
 ·cases h;rfl
 ·cases h
def Tf(g h:PV->PV->Option PV)(a b c:XE):XE:=λs=>(a s).bind λx=>(b s).bind λy=>((g x y).bind MN).bind λk=>if k=aC then(c s).bind λz=>h y z else aA (.bl aB)
theorem MO{r r':R2}{g h:PV->PV->Option PV}(hr:RB K r g)(hr':RB K r' h):∀σ H Q,tF K (Tf g h fa fb fc) σ H Q->LH r r' (tF K fa) (tF K fb) (tF K fc) σ H Q:=λσ H Q ⟨Rm,s,l,hd,env,e,k⟩=>by
 obtain⟨x',e1,e⟩:=Zd e;obtain⟨y',e2,e⟩:=Zd e;obtain⟨b,e3,e⟩:=Zd e;obtain⟨z',e3,eb⟩:=Zd e3;rw[PH eb] at e3;refine⟨Rm,s,x',hd,env,e1,λx H1 f1 s1 i1 n1=>⟨Rm,s,y',λp hp=>Same.mut s1 (hd p hp),env.mono s1,e2,λy H2 f2 s2 i2 n2=>?_⟩⟩;refine hr H2 x y x' y' _ f1 f2 (i1.mono s2) i2 e3 _ λv H3 fp s3 i3 n3=>⟨b,i3.bl_inv.1,?_⟩;have s123:=s1.trans (s2.trans s3)
 cases b with
 | false=>
  rw[ma a0] at e ⊢;cases e;exact k _ H3 [] s123 (Is.bl _) λp hp=>by simp at hp
 | true=>
  rw[mZ rfl] at e ⊢;obtain⟨w',e4,e⟩:=Zd e;refine⟨Rm,s,w',λp hp=>Same.mut s123 (hd p hp),env.mono s123,e4,λw H4 f4 s4 i4 n4=>?_⟩;refine hr' H4 y w y' w' l f2 f4 (i2.mono (s3.trans s4)) i4 e Q λv H5 fp5 s5 i5 n5=>k v H5 fp5 (s123.trans (s4.trans s5)) i5 λp hp z=>?_;rcases n5 p hp with q | q | q
  ·exact n2 p q z
  ·exact n4 p q z
  ·exact Xz (Same.mut (s123.trans s4) (hd p z)) q
theorem MP{op op':jJ}{r r':R2}{g h:PV->PV->Option PV}(ho:UA X (ba op) r)(ho':UA X (ba op') r')(hr:RB X.K r g)(hr':RB X.K r' h)(ha:VE X a fa)(hb:VE X b fb)(hc:VE X c fc)
  (hm:jK [op,op'] [b,c]=aB:=by with_unfolding_all rfl):VE X (.Compare a [op,op'] [b,c] pos) (Tf g h fa fb fc):=PE.imp (HJ ho ho' ha hb hc hm) (MO hr hr')
theorem TB{op op':jJ}{r r':R2}{g h:PV->PV->Option PV}(ho:UA X (ba op) r)(ho':UA X (ba op') r')(hr:RB X.K r g)(hr':RB X.K r' h)(ha:VE X a fa)(hb:VE X b fb)(hc:VE X c fc)
  (hm:jK [op,op'] [b,c]=aB:=by with_unfolding_all rfl):VT X (.Compare a [op,op'] [b,c] pos) (xB (Tf g h fa fb fc)):=PT.imp (HK ho ho' ha hb hc hm) λσ H Q q=>SM (MO hr hr') σ H Q (Po σ H Q q)
end
section
variable {X:Cx} {a b:aw} {fa fb:XE} {pos:dm}
def gCat:PV->PV->Option PV
 | .lst m,.lst n=>if m.length+n.length<=10000 then aA (.lst (m++n)) else none
 | _,_=>none
def TF:PV->PV->Option PV
 | .lst m,.lst n=>if m.length+n.length<=10000/\ZZ m=aC/\ZZ n=aC then aA (.lst (m++n)) else none
 | _,_=>none
theorem QY(ha:VE X a fa)(hb:VE X b fb):VM X (.BinOp a .Add b pos) (Zh TF fa fb):=PE.imp (HI C9 ha hb) λσ H Q ⟨s,l,env,e,k⟩=>by
 obtain⟨x',y',e1,e2,e⟩:=Vb e;refine⟨λ_=>False,s,x',λ_ z=>z.elim,env,e1,λx H1 f1 s1 i1 _=>⟨λ_=>False,s,y',λ_ z=>z.elim,env.mono s1,e2,λy H2 f2 s2 i2 _=>?_⟩⟩
 cases x' with
 | lst m=>cases y' with
  | lst n=>
   have e:(if m.length+n.length<=10000/\ZZ m=aC/\ZZ n=aC then aA (PV.lst (m++n)) else none)=aA l:=e;split at e
   case isFalse=>cases e
   rename_i hl;cases e;obtain⟨p,xs,fq,rfl,hp,hi,rfl⟩:=i1.lst_inv;obtain⟨p',ys,fq',rfl,hp',hi',rfl⟩:=i2.lst_inv;refine⟨p,p',xs,ys,rfl,rfl,s2 _ _ hp,hp',by rw[hi.len,hi'.len];exact cy (lt_size hl.1),λq hq=>?_⟩;refine k _ _ [q] (s1.trans (s2.trans (Same.new hq _))) (Is.lst upd_same ((((hi.mono s2).pureEq hl.2.1).append (hi'.pureEq hl.2.2)).mono (Same.new hq _))) (by simp) λr hr=>?_;rw[aP.mp hr];exact⟨Same.off (s1.trans s2) hq,by rw[upd_same];exact cU⟩
  | _=>cases e
 | _=>cases e
def SR:PV->PV->Option PV
 | .lst m,.int k=>if ZZ m=aC/\-1000000<=k/\k<=1000000/\m.length*k.toNat<=10000 then aA (.lst (aJ k.toNat m).flatten) else none
 | _,_=>none
theorem Iss.rep{H:Hp}{m:List PV}{xs:List V}(h:Iss K H m xs []):∀k:Nat,Iss K H (aJ k m).flatten (aJ k xs).flatten []
 | 0=>Iss.nil
 | k+1=>by rw[cC,cC,dJ,dJ];exact h.append (Iss.rep h k)
theorem L5(ha:VE X a fa)(hb:VE X b fb):VM X (.BinOp a .Mult b pos) (Zh SR fa fb):=PE.imp (HI Ba ha hb) λσ H Q ⟨s,l,env,e,k⟩=>by
 obtain⟨x',y',e1,e2,e⟩:=Vb e;refine⟨λ_=>False,s,x',λ_ z=>z.elim,env,e1,λx H1 f1 s1 i1 _=>⟨λ_=>False,s,y',λ_ z=>z.elim,env.mono s1,e2,λy H2 f2 s2 i2 _=>?_⟩⟩
 cases x' with
 | lst m=>cases y' with
  | int n=>
   have e:(if ZZ m=aC/\-1000000<=n/\n<=1000000/\m.length*n.toNat<=10000 then aA (PV.lst (aJ n.toNat m).flatten) else none)=aA l:=e;split at e
   case isFalse=>cases e
   rename_i hl;cases e;obtain⟨p,xs,fq,rfl,hp,hi,rfl⟩:=i1.lst_inv;refine⟨p,n,xs,rfl,i2.int_inv.1,s2 _ _ hp,by omega,by omega,by rw[hi.len];exact cy (lt_size hl.2.2.2),λq hq=>?_⟩;refine k _ _ [q] (s1.trans (s2.trans (Same.new hq _))) (Is.lst upd_same ((Iss.rep ((hi.mono s2).pureEq hl.1) n.toNat).mono (Same.new hq _))) (by simp) λr hr=>?_;rw[aP.mp hr];exact⟨Same.off (s1.trans s2) hq,by rw[upd_same];exact cU⟩
  | _=>cases e
 | _=>cases e
end
theorem Iss.fps{H:Hp}:∀{ls:List PV}{vs:List V}{fp:List aH},Iss K H ls vs fp->∃fps:Nat->List aH,(∀(i:Nat) l,ls[i]?=aA l->∃v,vs[i]?=aA v/\Is K H l v (fps i))/\∀i,ls.length<=i->fps i=[]
 | [],vs,fp,h=>⟨λ_=>[],λi l e=>by simp at e,λ_ _=>rfl⟩
 | a::ls,vs,fp,h=>by
  obtain⟨x,r,f1,f2,rfl,h1,h2,rfl⟩:=h.inv;obtain⟨fps,p1,p2⟩:=h2.fps;refine⟨λi=>match i with | 0=>f1 | k+1=>fps k,λi l e=>?_,λi hi=>?_⟩
  ·cases i with
   | zero=>simp at e;subst e;exact⟨x,rfl,h1⟩
   | succ k=>
    obtain⟨v,a,b⟩:=p1 k l (by simpa using e);exact⟨v,by simpa using a,b⟩
  ·cases i with
   | zero=>simp at hi
   | succ k=>exact p2 k (by simpa using hi)
def YT(m:Nat)(ls:List PV):ZS:=ls.map aA++aJ (m-ls.length) none
def Xv:Out->Option PV
 | .rt v=>aA v
 | .nx _=>aA .non
 | _=>none
def WC(m:Nat)(f:XS):List PV->Option PV:=λls=>(f (YT m ls)).bind Xv
theorem QZ{N:List aR}{n:Nat}{O W:List Nat}{f:XS}{vs:List V}{H:Hp}{Q:VK}{E:XK}(hO:∀i∈O,n<=i)(h:X9 K (WC N.length f) n vs H Q E):Gg K O W f { nx:=λ_ H'=>Q .non H',rt:=Q } (L2.start N vs) H:=by
 obtain⟨hl,ls,fp,l,hi,e,q⟩:=h;obtain⟨out,e1,e2⟩:=Zd e;obtain⟨fps,p1,p2⟩:=hi.fps;have hlen:=hi.len
 have hout:∀i:Nat,ls.length<=i->∀l,(YT N.length ls)[i]?≠aA (aA l):=λi hi l z=>by
  unfold YT at z;rw[bh (by simpa using hi),cG] at z;split at z<;>cases z
 have rel:Rel K O H fps (YT N.length ls) (L2.start N vs) H:=by
  refine⟨Same.refl H,?_,λi a z=>?_,λi hne=>?_,λi hi=>?_,λi hi p hp=>?_,λi hi j hj p hp=>?_⟩
  ·unfold YT L2.start;simp[hlen]
  ·by_cases hil:i<ls.length
   ·unfold YT at z;rw[bT (by simpa using hil),aS] at z
    cases q:ls[i]? with
    | none=>rw[q] at z;cases z
    | some b=>
     rw[q] at z;cases z;obtain⟨v,a1,b1⟩:=p1 i a q;refine⟨v,?_,b1⟩;unfold L2.start;rw[bT (by simpa [hlen] using hil),aS,a1];rfl
   ·exact absurd z (hout i (by omega) a)
  ·by_cases hil:i<ls.length
   ·exact absurd (by unfold YT;rw[bT (by simpa using hil),aS,aK hil];rfl) (hne ls[i])
   ·exact p2 i (by omega)
  ·rw[p2 i (by have:=hO i hi;omega)];exact bx
  ·rw[p2 i (by have:=hO i hi;omega)] at hp;simp at hp
  ·rw[p2 i (by have:=hO i hi;omega)] at hp;simp at hp
 refine⟨H,fps,YT N.length ls,out,rel,e1,?_⟩
 cases out with
 | nx s'=>
  cases e2;exact λm8 σ' H' r' _=>q .non H' [] r'.same Is.non bx λp hp=>by simp at hp
 | rt v=>
  cases e2;exact λv fp H' sm i d n=>q v H' fp sm i d n
 | bk s'=>cases e2
 | ct s'=>cases e2
section
variable {P:bC} {w:b6} {mg:aR->Option aE} {base:bV}
theorem Xf{x:aR}{st:bj}{N ps:List aR}{k n:Nat}{O W:List Nat}(m:Nat)(f:XS)(D:Def K mg x st)(S:Z6 N ps (Zp st))
  (hb:∀(kV doc pm:aE)(an:Option aH)(cdv ct:aE)(us:List aE),us.length=ps.length->iP (cV x x (XX st) (YL st) (Zp st) .none kV doc pm an cdv ct) ⟨us,[]⟩=pure (ps.zip us))
  (hn:ps.length=n) (hm:N.length=m) (hO:∀i∈O,n<=i)
  (hbody:∀(fa:aH)(cdv:aE)(A:b5)(outer:List iu)(s:aI)(H:Hp)(E:XK),Room k (A.deeper (gX x (Zp st) s.heap.objs.size fa cdv))->NN (R7 Mz P w K mg base N x (Zp st) fa cdv A outer s H E).nox O W (YL st) f) :
  WD P w K mg base x ps (X9 K (WC m f) n) (k+1):=by
 subst hm;refine D.cal S hb (λvs H Q E h=>by rw[hn];exact h.1) λfa cdv A outer s H vs Q E hr h=>⟨_,hbody fa cdv A outer s H E hr,QZ hO h⟩
end
end VL
namespace VL
open PySem PySem.Spec PyProof.Rows L2
variable {K:aG}
theorem Inv.thaw{X:Cx}{m3:List (aH×ck)}{σ:SK}{H:Hp}{s:aI}{d:aH}{m4:List (List Xp×V)}{o:ck}(I:L2.Inv X m3 σ H s)(hd:H d=aA (.frz o (.dT m4)))(h0:∀o u,X.H₀ d≠aA (.frz o u)) :
  L2.Inv X m3 σ (upd H d (.dT m4)) s:=by
 have ne:∀b u,H b=aA u->(∀o v,u≠.frz o v)->b≠d:=λb u q n z=>by rw[z,hd] at q;exact n _ _ (bU q).symm
 have nn:∀b,H b=none->b≠d:=λb q z=>by rw[z,hd] at q;cases q
 have hok:HOk X.prog X.w (upd H d (.dT m4)) s.heap:=λb u q=>by
  have hown:∀c y,H c=aA (.own y)->upd H d (.dT m4) c=aA (.own y):=λc y z=>by rw[upd_ne (ne c _ z λ_ _ z=>nomatch z)];exact z
  have htup:∀c xs,H c=aA (.tup xs)->upd H d (.dT m4) c=aA (.tup xs):=λc y z=>by rw[upd_ne (ne c _ z λ_ _ z=>nomatch z)];exact z
  by_cases hb:b=d
  ·subst hb;rw[upd_same] at q;cases q;obtain⟨_,x⟩:=(show ObjOk X.prog X.w H s.heap b (.frz o (.dT m4)) from I.hok b _ hd);exact ObjOk.stay x (λ_ _ _ z=>z) (λc z=>hown c _ z) htup
  ·rw[upd_ne hb] at q;exact(I.hok b u q).stay (λ_ _ _ z=>z) (λc z=>hown c _ z) htup
 refine⟨I.ok,I.os,I.bare,⟨I.base.keep,I.base.slot,λb o q n hx=>?_,I.base.there,λb xs q=>?_,λb o u q=>?_,λb ps q=>?_⟩,I.loc,I.cell,?_,λx c e=>?_,λp hp=>?_,hok,I.len⟩
 ·have z:=I.base.free b o q n hx;rw[upd_ne (nn b z)];exact z
 ·have z:=I.base.tups b xs q;rw[upd_ne (ne b _ z λ_ _ z=>nomatch z)];exact z
 ·have z:=I.base.frzs b o u q;have hb:b≠d:=λe=>h0 o u (by rw[<-e];exact q);rw[upd_ne hb];exact z
 ·obtain⟨more,z⟩:=I.base.tbls b ps q;exact⟨more,by rw[upd_ne (ne b _ z λ_ _ z=>nomatch z)];exact z⟩
 ·rw[upd_ne (nn _ I.free)];exact I.free
 ·rw[upd_ne (nn _ (I.freeC x c e))];exact I.freeC x c e
 ·obtain⟨a,b,c⟩:=I.pin p hp;exact⟨a,by rw[upd_ne (nn _ b)];exact b,c⟩
def thaw(d:aH)(m4:List (List Xp×V))(D:Uz):Uz where
 nx:=λσ H=>(∃o,H d=aA (.frz o (.dT m4)))/\D.nx σ (upd H d (.dT m4))
 bk:=λσ H=>(∃o,H d=aA (.frz o (.dT m4)))/\D.bk σ (upd H d (.dT m4))
 ct:=λσ H=>(∃o,H d=aA (.frz o (.dT m4)))/\D.ct σ (upd H d (.dT m4))
 rt:=λv H=>(∃o,H d=aA (.frz o (.dT m4)))/\D.rt v (upd H d (.dT m4))
def D7(i:Nat)(g:TG)(tb:TS):TS:=λD σ H=>∃d m4,σ[i]?=aA (aA (.ref d))/\
 ((H d=aA (.dT m4)/\∀o,Eu g tb (thaw d m4 D) σ (Bh d o m4) (upd H d (.frz o (.dT m4))))\/∃o,H d=aA (.frz o (.dT m4))/\Eu g tb D σ (Bh d o m4) H)
theorem Jh{X:Cx}{st:bj}{i:Nat}{g:TG}{tb:TS}(h:PS X st (F7 (K1 (Th i)) g tb)):PS X st (D7 i g tb):=by
 intro m3 s σ H D I hq;obtain⟨d,m4,hv,alt⟩:=hq;rcases alt with⟨hd,q⟩ | ⟨o,hd,q⟩
 ·have h0:∀o u,X.H₀ d≠aA (.frz o u):=λo u z=>by have:=I.base.frzs d o u z;rw[hd] at this;cases this
  have main:=h m3 s σ H (thaw d m4 D) I ⟨.ref d,hv,d,m4,rfl,.inl ⟨hd,q⟩⟩;refine YD main λf s' hsp=>?_
  cases f with
  | next=>
   obtain⟨σ',H',I',⟨o,ho⟩,q'⟩:=hsp;exact⟨σ',_,Inv.thaw I' ho h0,q'⟩
  | brk=>
   obtain⟨σ',H',I',⟨o,ho⟩,q'⟩:=hsp;exact⟨σ',_,Inv.thaw I' ho h0,q'⟩
  | cont=>
   obtain⟨σ',H',I',⟨o,ho⟩,q'⟩:=hsp;exact⟨σ',_,Inv.thaw I' ho h0,q'⟩
  | ret u=>
   obtain⟨v,σ',H',I',r',⟨o,ho⟩,q'⟩:=hsp;exact⟨v,σ',_,Inv.thaw I' ho h0,r',q'⟩
 ·exact h m3 s σ H D I ⟨.ref d,hv,d,m4,rfl,.inr ⟨o,hd,q⟩⟩
def EO(k:List Xp):PV:=.tup (k.map kP)
theorem MQ{Rm:aH->Prop}{H1:Hp}{d:aH}{o:ck}{m4:List (List Xp×V)}(hd:H1 d=aA (.frz o (.dT m4)))(hn:¬Rm d):A1 K Rm H1 (Bh d o m4) ((m4.map (·.1)).map EO):=by refine⟨λH' ab=>⟨ab d _ hd hn,by simp⟩,λH' i l ab hl=>⟨ab d _ hd hn,by have:=(aL.mp hl).1;simpa using this⟩,λH' i l x H'' ab hl y=>?_⟩;obtain⟨rfl,b,k,v,hk,rfl,hb⟩:=y;rw[aS,aS,hk] at hl;cases hl;exact⟨Same.refl _,[],Is.tup hb (Gj k),λp hp=>by simp at hp⟩
def QD:PV->Option (List PV)
 | .dT ks _=>aA (ks.map EO)
 | _=>none
def SE(i:Nat)(T:Tgt)(fb:XS):XS:=λs=>((s[i]?).join.bind QD).bind λls=>We T fb ls s
theorem Rd.dT_inj{H:Hp}{p:aH}{xs ys:List (List Xp×V)}(a:Rd H p (.dT xs))(b:Rd H p (.dT ys)):xs=ys:=by rcases a with a | ⟨o,a⟩<;>rcases b with b | ⟨o',b⟩<;>rw[a] at b<;>cases b<;>rfl
theorem RdK.swap{H H':Hp}{d:aH}{m4:List (List Xp×V)}(h:Rd H d (.dT m4))(h':Rd H' d (.dT m4))(hs:∀b,b≠d->H' b=H b)(p:aH):RdK H H' p:=by
 by_cases hp:p=d
 ·subst hp;refine⟨λxs z=>?_,λk z=>?_,λk z=>?_⟩
  ·rcases h with h | ⟨o,h⟩<;>rw[h] at z<;>cases z
  ·rcases h with h | ⟨o,h⟩<;>rcases z with z | ⟨o',z⟩<;>rw[h] at z<;>cases z
  ·rw[<-Rd.dT_inj h z];exact h'
 ·exact RdK.of λo z=>by rw[hs p hp];exact z
theorem TK2.swap{H H':Hp}{d:aH}{m4:List (List Xp×V)}(h:Rd H d (.dT m4))(hs:∀b,b≠d->H' b=H b):TK2 H H':=by
 have ne:∀b u,H b=aA u->(∀k,u≠.dT k)->(∀o k,u≠.frz o (.dT k))->b≠d:=λb u q n n' z=>by
  rw[z] at q;rcases h with h | ⟨o,h⟩<;>rw[h] at q<;>cases q
  ·exact n _ rfl
  ·exact n' _ _ rfl
 exact⟨λb xs z=>by rw[hs b (ne b _ z (λ_ z=>nomatch z) λ_ _ z=>nomatch z)];exact z,λb o xs z=>by rw[hs b (ne b _ z (λ_ z=>nomatch z) λo k z=>by cases z)];exact z,λb o xs z=>by rw[hs b (ne b _ z (λ_ z=>nomatch z) λo k z=>by cases z)];exact z⟩
section
variable {O W:List Nat} {T:Tgt} {fb:XS} {i:Nat}
theorem O6{O':List Nat}{H0 H:Hp}{fps:Nat->List aH}{s:ZS}{σ:SK}{D:Uz}{out:Out}{ks:List (List Xp)}{vs:List PV}(r:Rel K O H0 fps s σ H)(hO':∀j∈O',j∈O/\j≠i)(e:s[i]?=aA (aA (.dT ks vs)))
  (ef:We T fb (ks.map EO) s=aA out) (hT:∀j∈T.slots,j∉O')
  (k:∀(F:Hp)(th:Hp->Hp),(∀b,H b≠none->¬Ow O' fps b->F b≠none)->Same H0 (th F)->(∀H',Same F H'->Same (th F) (th H')/\TK2 H' (th H')/\(∀p,RdK H' (th H') p)/\(∀p,F p=none->th H' p=H' p)/\(∀p,p∈fps i->¬Ow O' fps p->H p=th H' p))->(∀p,F p=none->H0 p=none)->
   ∀out',out=out'->match out' with
    | .nx s'=>∀m8 σ' H',Rel K O' F m8 s' σ' H'->(∀j,j∉T.slots++W->σ'[j]?=σ[j]?/\Kep (m8 j) (fps j))->D.nx σ' (th H')
    | .rt l=>∀v fp H',Same F H'->Is K H' l v fp->fp.Nodup->(∀p∈fp,F p=none/\UR (H' p))->D.rt v (th H')
    | _=>True):D7 i (gT K T) (Gg K O' W fb) D σ H:=by
 obtain⟨v,hv,iv⟩:=r.is i _ e;obtain⟨d,m4,fq,rfl,hd,rfl,hi,efp⟩:=iv.dT_inv;have dO:¬Ow O' fps d:=λ⟨j,hj,hp⟩=>r.dis j (hO' j hj).1 i (cJ (hO' j hj).2) d hp (by rw[efp];exact a9);have owm:∀p,Ow O' fps p->H0 p=none/\UR (H p):=λp ⟨j,hj,hp⟩=>r.own j (hO' j hj).1 p hp
 -- the frame and the relation at the loop's start,in a heap that differs from H at d alone
 have start:∀H2:Hp,Rd H2 d (.dT m4)->(∀b,b≠d->H2 b=H b)->Rel K O' (Wd H2 (Ow O' fps)) fps s σ H2:=λH2 h2 hs=>by
  refine⟨O2,r.len,λj l q=>?_,r.emp,λj hj=>r.nd j (hO' j hj).1,λj hj p hp=>⟨by unfold Wd;rw[mZ ⟨j,hj,hp⟩],?_⟩,λj hj=>r.dis j (hO' j hj).1⟩
  ·obtain⟨w,a,b⟩:=r.is j l q;exact⟨w,a,Is.tr (TK2.swap hd hs) _ _ _ (λp _=>RdK.swap hd h2 hs p) b⟩
  ·have pd:p≠d:=λz=>dO ⟨j,hj,z▸hp⟩;rw[hs p pd];exact(r.own j (hO' j hj).1 p hp).2
 have outk:∀(F:Hp)(th:Hp->Hp)(D':Uz),(∀σ' H',Same F H'->D.nx σ' (th H')->D'.nx σ' H')->(∀v H',Same F H'->D.rt v (th H')->D'.rt v H')->(∀b,H b≠none->¬Ow O' fps b->F b≠none)->Same H0 (th F)->(∀H',Same F H'->Same (th F) (th H')/\TK2 H' (th H')/\(∀p,RdK H' (th H') p)/\(∀p,F p=none->th H' p=H' p)/\(∀p,p∈fps i->¬Ow O' fps p->H p=th H' p))->(∀p,F p=none->H0 p=none)->(∀s',out≠.bk s')->(∀s',out≠.ct s')->OutOk K O' (T.slots++W) F fps σ D' out:=λF th D' h1 h2 h3 h4 h5 h6 hb hc=>by
  have kk:=k F th h3 h4 h5 h6 out rfl
  cases out with
  | nx s'=>exact λm8 σ' H' r' q'=>h1 σ' H' r'.same (kk m8 σ' H' r' q')
  | rt l=>exact λv fp H' sm i d n=>h2 v H' sm (kk v fp H' sm i d n)
  | bk s'=>exact absurd rfl (hb s')
  | ct s'=>exact absurd rfl (hc s')
 have nobc:(∀s',out≠.bk s')/\(∀s',out≠.ct s'):=by
  have:∀(ls:List PV)(s:ZS)(o:Out),We T fb ls s=aA o->(∀s',o≠.bk s')/\(∀s',o≠.ct s'):=by
   intro ls
   induction ls with
   | nil=>intro s o h;cases h;exact⟨λ_ z=>(nomatch z),λ_ z=>(nomatch z)⟩
   | cons l rr ih=>
    intro s o h;unfold We at h;obtain⟨s1,_,h⟩:=Zd h;obtain⟨o1,_,h⟩:=Zd h
    cases o1 with
    | nx s2=>exact ih s2 o h
    | ct s2=>exact ih s2 o h
    | bk s2=>cases h;exact⟨λ_ z=>(nomatch z),λ_ z=>(nomatch z)⟩
    | rt v=>cases h;exact⟨λ_ z=>(nomatch z),λ_ z=>(nomatch z)⟩
  exact this _ _ _ ef
 rcases hd with hd | ⟨o,hd⟩
 ·refine⟨d,m4,hv,.inl ⟨hd,λo=>?_⟩⟩;have h2:upd H d (.frz o (.dT m4)) d=aA (.frz o (.dT m4)):=upd_same;have hs:∀b,b≠d->upd H d (.frz o (.dT m4)) b=H b:=λb hb=>upd_ne hb;have Fd:Wd (upd H d (.frz o (.dT m4))) (Ow O' fps) d=aA (.frz o (.dT m4)):=by unfold Wd;rw[ma dO];exact h2
  refine Pz (K:=K) (start _ (.inr ⟨o,h2⟩) hs) (MQ h2 dO) ef hT (outk _ (λHx=>upd Hx d (.dT m4)) (thaw d m4 D) (λσ' H' sm q=>⟨⟨o,sm d _ Fd⟩,q⟩) (λv H' sm q=>⟨⟨o,sm d _ Fd⟩,q⟩) (λb hb nb=>?_) (λb u h=>?_) (λH' sm=>⟨?_,?_,λp=>?_,λp hp=>?_,λp hp np=>?_⟩) (λp hp=>?_) nobc.1 nobc.2)
  ·unfold Wd;rw[ma nb];by_cases e:b=d
   ·subst e;rw[h2];simp
   ·rw[hs b e];exact hb
  ·by_cases e:b=d
   ·subst e;have:=r.same b u h;rw[hd] at this;cases this;exact upd_same
   ·rw[upd_ne e];unfold Wd;rw[ma (λz=>by rw[(owm b z).1] at h;cases h),hs b e];exact r.same b u h
  ·intro b u h;by_cases e:b=d
   ·subst e;rw[upd_same] at h ⊢;exact h
   ·rw[upd_ne e] at h ⊢;exact sm b u h
  ·exact TK2.swap (d:=d) (m4:=m4) (.inr ⟨o,sm d _ Fd⟩) λb hb=>upd_ne hb
  ·exact RdK.swap (d:=d) (m4:=m4) (.inr ⟨o,sm d _ Fd⟩) (.inl upd_same) (λb hb=>upd_ne hb) p
  ·exact upd_ne λe=>by rw[e,Fd] at hp;cases hp
  ·by_cases e:p=d
   ·subst e;rw[hd];exact upd_same.symm
   ·show H p=upd H' d (.dT m4) p;rw[upd_ne e];have hpn:=r.dom i p hp
    cases q:H p with
    | none=>exact absurd q hpn
    | some u=>exact(sm p u (by unfold Wd;rw[ma np,hs p e];exact q)).symm
  ·cases q:H0 p with
   | none=>rfl
   | some u=>
    exfalso;have hpd:p≠d:=λe=>by rw[e,Fd] at hp;cases hp
    unfold Wd at hp;rw[ma (λz=>by rw[(owm p z).1] at q;cases q),hs p hpd,r.same p u q] at hp;cases hp
 ·refine⟨d,m4,hv,.inr ⟨o,hd,?_⟩⟩;have Fd:Wd H (Ow O' fps) d=aA (.frz o (.dT m4)):=by unfold Wd;rw[ma dO];exact hd
  refine Pz (K:=K) (start H (.inr ⟨o,hd⟩) λ_ _=>rfl) (MQ hd dO) ef hT (outk _ (λHx=>Hx) D (λσ' H' sm q=>q) (λv H' sm q=>q) (λb hb nb=>by unfold Wd;rw[ma nb];exact hb) (λb u h=>?_) (λH' sm=>⟨sm,Same.tk2 (Same.refl _),λp=>RdK.of λ_ z=>z,λp _=>rfl,λp hp np=>?_⟩) (λp hp=>?_) nobc.1 nobc.2)
  ·unfold Wd;rw[ma (λz=>by rw[(owm b z).1] at h;cases h)];exact r.same b u h
  ·have hpn:=r.dom i p hp
   cases q:H p with
   | none=>exact absurd q hpn
   | some u=>exact(sm p u (by unfold Wd;rw[ma np];exact q)).symm
  ·cases q:H0 p with
   | none=>rfl
   | some u=>
    exfalso;unfold Wd at hp;rw[ma (λz=>by rw[(owm p z).1] at q;cases q),r.same p u q] at hp;cases hp
end
section
variable {X:Cx} {O O' W:List Nat} {T:Tgt} {fb:XS} {i:Nat} {st:bj}
theorem NQ(h:PS X st (F7 (K1 (Th i)) (gT X.K T) (Gg X.K O W fb)))(hi:i∉O:=by decide)(hT:∀j∈T.slots,j∉O:=by decide):VS X O (T.slots++W) st (SE i T fb):=PS.imp (Jh h) λD σ H ⟨H0,fps,s,out,r,e,k⟩=>by
 obtain⟨ls,e1,e⟩:=Zd e;obtain⟨d,e2,e3⟩:=Zd e1;have e2:=join_some e2
 cases d with
 | dT ks vs=>
  cases e3;refine O6 (O':=O) r (λj hj=>⟨hj,λz=>hi (z▸hj)⟩) e2 e hT λF th _ h4 h5 h6 out' eo=>?_;subst eo
  cases out with
  | nx s'=>
   intro m8 σ' H' r' q';obtain⟨t1,t2,t3,t4,_⟩:=h5 H' r'.same;refine k m8 σ' (th H') ⟨h4.trans t1,r'.len,λj l q=>?_,r'.emp,r'.nd,λj hj p hp=>⟨h6 p (r'.own j hj p hp).1,by rw[t4 p (r'.own j hj p hp).1];exact(r'.own j hj p hp).2⟩,r'.dis⟩ q';obtain⟨v,a,b⟩:=r'.is j l q;exact⟨v,a,Is.tr t2 _ _ _ (λp _=>t3 p) b⟩
  | rt l=>
   intro v fp H' sm is nd fr;obtain⟨t1,t2,t3,t4,_⟩:=h5 H' sm;exact k v fp (th H') (h4.trans t1) (Is.tr t2 _ _ _ (λp _=>t3 p) is) nd λp hp=>⟨h6 p (fr p hp).1,by rw[t4 p (fr p hp).1];exact(fr p hp).2⟩
  | bk s'=>trivial
  | ct s'=>trivial
 | _=>cases e3
def WN(O:List Nat):Nat->ZS->ZS
 | _,[]=>[]
 | k,o::r=>(if k∈O then o else match o with | some l=>if Yc l=aC then aA l else none | none=>none)::WN O (k+1) r
theorem SS{O:List Nat}:∀{s:ZS}{k j:Nat}{l:PV},(WN O k s)[j]?=aA (aA l)->s[j]?=aA (aA l)/\(k+j∈O\/Yc l=aC)
 | [],k,j,l,h=>by simp[WN] at h
 | o::r,k,0,l,h=>by
  unfold WN at h;simp only[gU,kq] at h;by_cases hk:k∈O
  ·rw[mZ hk] at h;exact⟨by simp[h],.inl hk⟩
  ·rw[ma hk] at h
   cases o with
   | none=>cases h
   | some a=>
    simp only at h;split at h
    ·cases h;exact⟨rfl,.inr (by assumption)⟩
    ·cases h
 | o::r,k,j+1,l,h=>by unfold WN at h;rw[jO] at h;obtain⟨a,b⟩:=SS h;exact⟨by simpa using a,by rw[show k+(j+1)=k+1+j by omega];exact b⟩
theorem PJ{O:List Nat}:∀{s:ZS}{k:Nat},(WN O k s).length=s.length
 | [],_=>rfl
 | o::r,k=>by unfold WN;rw[bK,bK,PJ]
def SU(O:List Nat):Out->Out
 | .nx s=>.nx (WN O 0 s)
 | o=>o
def Vl(O:List Nat)(i:Nat)(T:Tgt)(fb:XS):XS:=λs=>((s[i]?).join.bind QD).bind λls=>(We T fb ls s).map (SU O)
open Classical in
theorem MR(h:PS X st (F7 (K1 (Th i)) (gT X.K T) (Gg X.K O' W fb)))(hi:i∈O:=by decide)(hO:∀j,j∈O'↔(j∈O/\j≠i))(hT:∀j∈T.slots,j∉O:=by decide)(hW:i∉T.slots++W:=by decide):VS X O (T.slots++W) st (Vl O i T fb):=PS.imp (Jh h) λD σ H ⟨H0,fps,s,out,r,e,k⟩=>by
 obtain⟨ls,e1,e⟩:=Zd e;obtain⟨d,e2,e3⟩:=Zd e1;obtain⟨out0,e5,rfl⟩:=map_some e;have e2:=join_some e2
 cases d with
 | dT ks vs=>
  cases e3;refine O6 (O':=O') r (λj hj=>(hO j).mp hj) e2 e5 (λj hj z=>hT j hj ((hO j).mp z).1) λF th h3 h4 h5 h6 out' eo=>?_;subst eo
  cases out0 with
  | nx s'=>
   intro m8 σ' H' r' q';obtain⟨t1,t2,t3,t4,t5⟩:=h5 H' r'.same;have ki:=q' i hW;have fi:∀p∈fps i,¬Ow O' fps p:=λp hp ⟨j,hj,z⟩=>r.dis i hi j ((hO j).mp hj).2 p hp z;have Fi:∀p∈fps i,F p≠none:=λp hp=>h3 p (r.dom i p hp) (fi p hp)
   have sub:∀p,p∈m8 i->p∈fps i:=λp hp=>by
    rcases ki.2 with z | z
    ·rw[<-z];exact hp
    ·rw[z] at hp;simp at hp
   have ow':∀j∈O',∀p∈m8 j,F p=none:=λj hj p hp=>(r'.own j hj p hp).1;have inO:∀j∈O,j≠i->j∈O':=λj hj n=>(hO j).mpr ⟨hj,n⟩
   have get:∀j p,p∈(if(WN O 0 s')[j]?=s'[j]? then m8 j else [])->p∈m8 j/\(WN O 0 s')[j]?=s'[j]?:=λj p hp=>by
    split at hp
    ·exact⟨hp,by assumption⟩
    ·simp at hp
   refine k (λj=>if(WN O 0 s')[j]?=s'[j]? then m8 j else []) σ' (th H') ⟨h4.trans t1,by rw[PJ];exact r'.len,λj l q=>?_,λj hne=>?_,λj hj=>?_,λj hj p hp=>?_,λj hj m hm p hp z=>?_⟩ λj hj=>⟨(q' j hj).1,?_⟩
   ·obtain⟨q1,_⟩:=SS q;obtain⟨v,a,b⟩:=r'.is j l q1;rw[mZ (q.trans q1.symm)];exact⟨v,a,Is.tr t2 _ _ _ (λp _=>t3 p) b⟩
   ·show(if(WN O 0 s')[j]?=s'[j]? then m8 j else [])=[];split
    ·rename_i h;exact r'.emp j λl z=>hne l (by rw[h];exact z)
    ·rfl
   ·show(if(WN O 0 s')[j]?=s'[j]? then m8 j else []).Nodup;split
    ·by_cases e:j=i
     ·subst e;rcases ki.2 with z | z
      ·rw[z];exact r.nd j hi
      ·rw[z];exact bx
     ·exact r'.nd j (inO j hj e)
    ·exact bx
   ·obtain⟨hp,_⟩:=get j p hp;by_cases e:j=i
    ·subst e;have hp:=sub p hp;exact⟨(r.own j hi p hp).1,by rw[<-t5 p hp (fi p hp)];exact(r.own j hi p hp).2⟩
    ·have o:=r'.own j (inO j hj e) p hp;exact⟨h6 p o.1,by rw[t4 p o.1];exact o.2⟩
   ·obtain⟨hp,_⟩:=get j p hp;obtain⟨zp,zc⟩:=get m p z;by_cases e:j=i
    ·subst e;have hpi:=sub p hp;by_cases hmO:m∈O'
     ·exact Fi p hpi (ow' m hmO p zp)
     ·obtain⟨l,v,ql,_,b⟩:=r'.at m zp;rw[ql] at zc;obtain⟨_,alt⟩:=SS zc;rcases alt with alt | alt
      ·rw[Nat.zero_add] at alt;exact hmO (inO m alt hm)
      ·rw[Is.pure _ _ _ alt b] at zp;simp at zp
    ·exact r'.dis j (inO j hj e) m hm p hp zp
   ·show Kep (if(WN O 0 s')[j]?=s'[j]? then m8 j else []) (fps j);split
    ·exact(q' j hj).2
    ·exact .inr rfl
  | rt l=>
   intro v fp H' sm is nd fr;obtain⟨t1,t2,t3,t4,_⟩:=h5 H' sm;exact k v fp (th H') (h4.trans t1) (Is.tr t2 _ _ _ (λp _=>t3 p) is) nd λp hp=>⟨h6 p (fr p hp).1,by rw[t4 p (fr p hp).1];exact(fr p hp).2⟩
  | bk s'=>trivial
  | ct s'=>trivial
 | _=>cases e3
end
end VL
namespace VL
open PySem PySem.Spec PyProof.Rows L2
variable {K:aG}
section
variable {X:Cx} {O:List Nat} {tg mX iter:aw} {mW:List aw} {scope:fJ} {pos:dm} {fi:XL} {T:Tgt} {ft:XT} {fe:XE}
theorem Rz(own fr:List aR)(ix:List Nat){i:Nat}{y:aR}{py spos:dm}(hN:X.N.Nodup)(hy:X.N[i]?=aA y)(hloc:X.env.scope.names.lookup y=aA .local)(hcalm:X.calm=aC)(hi:VI X tg iter fi)(S:Tt X.N X.env.scope scope own fr ix=aC)
  (hg:∀cl C s H ex,PG (Zz X (own++fr) scope cl C s H ex) tg (gT X.K T)) (ht:∀cl C s H ex,B9 (Zz X (own++fr) scope cl C s H ex) mW ft) (he:∀cl C s H ex,VM (Zz X (own++fr) scope cl C s H ex) mX fe)
  (hT:∀i∈T.slots,i<own.length:=by decide)
  (hsw:dX (.ListComp mX [⟨tg,iter,mW,0⟩] scope pos) (aA (.Name y py)) spos.line X.env=pure aC:=by rfl)
  (hs:∀x,bw iter X.env x=pure x:=by intro _;rfl):VS X O [i] (.Assign [.Name y py] (.ListComp mX [⟨tg,iter,mW,0⟩] scope pos) spos) (Zl i (Yg own.length ix fi T ft fe)):=
 PS.imp (HS own fr ix hN hy hloc hcalm hi S hg (λcl C s H ex=>(show K0 (Zz X (own++fr) scope cl C s H ex) mW (Mi X.K ft) from ht cl C s H ex)) (λcl C s H ex=>(show PE (Zz X (own++fr) scope cl C s H ex) mX (tM X.K fe) from he cl C s H ex)) hsw hs) (Jc (Ja hT))
end
def NR(i:Nat)(fk:XE):XS:=λs=>(Za i s).bind λa=>((fk s).bind HB).bind λk=>if k=0 then aA (.rt .non) else if k=1 then aA (.rt a) else none
theorem Iu{X:Cx}{O:List Nat}{e:aw}{i:Nat}{fk:XE}{pos:dm}(he:PE X e (CV (Eh X.K) (AH (UC (tC .non) (UC (Th i) NB))) (tF X.K fk)))(hi:i∈O:=by decide):VS X O [] (.Return (aA e) pos) (NR i fk):=PS.imp (Pd he) λD σ H ⟨H0,fps,s,out,r,e,k⟩=>by
 obtain⟨a,e0,e⟩:=Zd e;obtain⟨n,e1,e⟩:=Zd e;obtain⟨l,e1,e2⟩:=Zd e1;rw[Rw e2] at e1;obtain⟨v,hv,iv⟩:=r.is i a (Qd e0);refine⟨v,hv,(by show 2<=sizeLine;decide),λp hp=>?_⟩;have sn:Same H (upd H p (.lst [V.non,v])):=Same.new hp _;refine⟨λ_=>False,s,_,λ_ z=>z.elim,r.env.mono sn,e1,λy H2 fy s2 i2 _=>?_⟩;have hp2:H2 p=aA (.lst [V.non,v]):=s2 _ _ upd_same;by_cases h0:n=0
 ·rw[mZ h0] at e;cases e;exact⟨p,[V.non,v],n,V.non,rfl,i2.int_inv.1,SqL.of hp2,by rw[h0];rfl,k .non [] H2 (r.same.trans (sn.trans s2)) Is.non bx λp hp=>by simp at hp⟩
 ·rw[ma h0] at e;split at e
  ·rename_i h1;cases e;have s12:=sn.trans s2;exact⟨p,[V.non,v],n,v,rfl,i2.int_inv.1,SqL.of hp2,by rw[h1];rfl,k v (fps i) H2 (r.same.trans s12) (iv.mono s12) (r.nd i hi) λq hq=>⟨(r.own i hi q hq).1,Same.mut s12 (r.own i hi q hq).2⟩⟩
  ·cases e
section
variable {P:bC} {w:b6} {mg:aR->Option aE} {base:bV}
theorem Bs{x:aR}{st:bj}{N ps:List aR}{k n:Nat}{O W:List Nat}{fa:aH}{fd:dy}(m:Nat)(f:XS)(F:Fun K x x st fa fd)(S:Z6 N ps (Zp st))
  (hn:ps.length=n) (hm:N.length=m) (hO:∀i∈O,n<=i)
  (hbody:∀(fa:aH)(cdv:aE)(A:b5)(outer:List iu)(s:aI)(H:Hp)(E:XK),Room k (A.deeper (gX x (Zp st) s.heap.objs.size fa cdv))->NN (R7 Mz P w K mg base N x (Zp st) fa cdv A outer s H E).nox O W (YL st) f) :
  Tq P w K mg base Mz (k+1) fa fd ps (X9 K (WC m f) n):=by
 subst hm;refine F.ok S (λvs H Q E h=>by rw[hn];exact h.1) λcdv A outer s H vs Q E hr h=>⟨_,hbody fa cdv A outer s H E hr,?_⟩;exact QZ hO h
theorem Gm{st:bj}{x:aR}{D:List PV->Option PV}{k:Nat}{fa:aH}(Df:Def K mg "law" st)(hfa:mg "law" = aA (.ref fa))
  (hb:∀(kV doc pm:aE)(an:Option aH)(cdv ct u:aE),iP (cV "law" "law" (XX st) (YL st) (Zp st) .none kV doc pm an cdv ct) ⟨[u],[]⟩=pure [(x,u)])
  (H:∀(base:bV)(f:aH)(fd:dy),K.In base->base.Ns ao mg->Fun K "law" "law" st f fd->Tq P w K mg base Mz k f fd [x] (X9 K D 1)) :
  ∃fd:dy,(∀(s:aI)(u:aE),kI s fd ⟨[u],[]⟩ [(x,u)])/\∀base:bV,K.In base->base.Ns ao mg->Tq P w K mg base Mz k fa fd [x] (X9 K D 1):=by
 obtain⟨f,fd,hm,F⟩:=Df.ex;have e:=hfa.symm.trans hm;cases e;refine⟨fd,?_,λbase h1 h2=>H base fa fd h1 h2 F⟩;obtain⟨oc,od,kV,doc,pm,an,cdv,ct,osl,rfl,lk,hcd⟩:=F.ex;exact λs u=>.of_eq (hb kV doc pm an cdv ct u)
end
theorem Bt{H:Hp}{a:aH}{ns:List Int}{D:List PV->Option PV}{E:XK}(hD:D [.cst (iL ns)]=aA (.bl aC))(hO:En H)(hS:SqL K H a (ns.map V.int)):X9 K D 1 [.ref a] H (λv _=>v = .bl aC) E:=by
 have cs:CsK K H a (ns.map V.int):=by
  rcases hS with h | h
  ·rcases h with h | ⟨o,h⟩
   ·rcases hO a with z | ⟨o,xs,z⟩
    ·rw[h] at z;cases z
    ·rw[h] at z;cases z
   ·exact .inl ⟨o,h⟩
  ·exact .inr h
 exact⟨rfl,[.cst (iL ns)],[],.bl aC,Iss.one (Is.cst cs (Iss.ofInts ns)),hD,λv H' fq _ i _ _=>i.bl_inv.1⟩
theorem law_walk{l:lX}{q:bC}{loose:List aR}{XP:(aR->Option aE)->bV->Prop}{YP:b6->bV->Prop}{d:DefRec}{KK:Params->aG}{x:aR}{D:List PV->Option PV}(k:Nat)(hn:l.most=aA 63)(hdf:d.params.defaults=[])
  (hr:Room k j6) (hD:∀ns:List Int,ns.length<=63->D [.cst (iL ns)]=aA (.bl aC))
  (hY:∀(w:b6)(h:bV),YP w h->(KK w.params).In h)
  (F:∀(w:b6)(mg:aR->Option aE)(fa:aH)(h:bV),(KK w.params).In h->h.Ns ao mg->mg d.name=aA (.ref fa)->
   ∃fd:dy,(∀(s:aI)(u:aE),kI s fd ⟨[u],[]⟩ [(x,u)])/\∀base:bV,(KK w.params).In base->base.Ns ao mg->Tq l.prog w (KK w.params) mg base Mz k fa fd [x] (X9 (KK w.params) D 1)) :
  mD q loose XP YP l.row.toRowW d [] (λf vs=>lh f vs):=
 L2.walk_of (n:=63) (k:=k) (x:=x) (CX:=λ_=>Mz) (sp:=λw=>X9 (KK w.params) D 1) hn (by decide) hdf hr hY F (λw H a ns hl hO hS=>Bt (hD ns hl) hO hS) λ_ _ _ _ _ z=>z
end VL
namespace VL
open PySem L2
@[simp] theorem YQ(i:Nat)(s:ZS):Za i s=(s[i]?).join:=rfl
@[simp] theorem SV(l:PV)(s:ZS):eC l s=aA l:=rfl
@[simp] theorem ZH(g:PV->PV->Option PV)(a b:XE)(s:ZS):Zh g a b s=(a s).bind λx=>(b s).bind λy=>g x y:=rfl
@[simp] theorem eUn_def(g:PV->Option PV)(a:XE)(s:ZS):Pq g a s=(a s).bind g:=rfl
@[simp] theorem Wa(f:XE)(s:ZS):eP f s=(f s).bind λl=>if Yc l=aC then aA l else none:=rfl
@[simp] theorem Ji(s:ZS):UX [] s=aA []:=rfl
@[simp] theorem ZM(f:XE)(fs:List XE)(s:ZS):UX (f::fs) s=(f s).bind λx=>(UX fs s).map (x::·):=rfl
@[simp] theorem ZC(D:List PV->Option PV)(fs:List XE)(s:ZS):Ze D fs s=(UX fs s).bind D:=rfl
@[simp] theorem TH(fs:List XE)(s:ZS):Yf fs s=(UX fs s).map .tup:=rfl
@[simp] theorem eLst_def(fs:List XE)(s:ZS):YO fs s=(UX fs s).map .lst:=rfl
@[simp] theorem eSl_def(g:PV->Option Int->Option Int->Option PV)(a:XE)(lo hi:XO)(s:ZS):Xm g a lo hi s=(a s).bind λx=>(lo s).bind λl=>(hi s).bind λu=>g x l u:=rfl
@[simp] theorem xoN_def(s:ZS):XZ s=aA none:=rfl
@[simp] theorem gI_ii(g:Int->Int->Int)(i j:Int):gI g (.int i) (.int j)=aA (.int (g i j)):=rfl
@[simp] theorem A5(g:Int->Int->Bool)(i j:Int):gB g (.int i) (.int j)=aA (.bl (g i j)):=rfl
@[simp] theorem Bu(C:Int->Int->Prop)[∀i j,Decidable (C i j)](g:Int->Int->Int)(i j:Int):DY C g (.int i) (.int j)=if C i j then aA (.int (g i j)) else none:=rfl
@[simp] theorem gIx_ti(l:List PV)(i:Int):ZK (.tup l) (.int i)=Vv l i:=rfl
@[simp] theorem gIx_li(l:List PV)(i:Int):ZK (.lst l) (.int i)=Vv l i:=rfl
@[simp] theorem gIx_ci(l:List PV)(i:Int):ZK (.cst l) (.int i)=Vv l i:=rfl
@[simp] theorem Yq(f:XE)(s:ZS):xB f s=(f s).bind MN:=by
 unfold xB
 cases f s with
 | none=>rfl
 | some a=>cases a<;>rfl
@[simp] theorem UZ(b:Bool):MN (.bl b)=aA b:=rfl
@[simp] theorem UK(a b:XT)(s:ZS):Vi a b s=(a s).bind λc=>if c=aC then b s else aA aB:=rfl
@[simp] theorem Xa(a b:XT)(s:ZS):Ue a b s=(a s).bind λc=>if c=aC then aA aC else b s:=rfl
@[simp] theorem Ve(a:XT)(s:ZS):YY a s=(a s).map not:=rfl
@[simp] theorem MS(a b:XE)(s:ZS):Ik a b s=(xB a s).bind λc=>if c=aC then b s else aA (.bl aB):=rfl
@[simp] theorem ER(a b:XE)(s:ZS):eOr a b s=(xB a s).bind λc=>if c=aC then aA (.bl aC) else b s:=rfl
@[simp] theorem eNot_def(a:XE)(s:ZS):Zbs a s=(xB a s).map λc=>.bl !c:=rfl
@[simp] theorem Jj(c:XT)(a b:XE)(s:ZS):D2 c a b s=(c s).bind λk=>if k=aC then a s else b s:=rfl
@[simp] theorem eIsN_def(neg:Bool)(a:XE)(s:ZS):Vc neg a s=(a s).bind (Bm neg):=rfl
@[simp] theorem Iv(s:ZS):Zs s=aA (.nx s):=rfl
@[simp] theorem ZI(f g:XS)(s:ZS):Zk f g s=(f s).bind λo=>match o with | .nx s'=>g s' | r=>aA r:=rfl
@[simp] theorem Zu(c:XT)(f g:XS)(s:ZS):YF c f g s=(c s).bind λk=>if k=aC then f s else g s:=rfl
@[simp] theorem Wf(f:XE)(s:ZS):Yd f s=(f s).map .rt:=rfl
@[simp] theorem Zv(i:Nat)(f:XE)(s:ZS):Zl i f s=(f s).map λl=>.nx (s.set i (aA l)):=rfl
@[simp] theorem retO_rt(v:PV):Xv (.rt v)=aA v:=rfl
@[simp] theorem Iw(i:Int):Yc (.int i)=aC:=rfl
@[simp] theorem pureV_bl(i:Bool):Yc (.bl i)=aC:=rfl
@[simp] theorem pureV_str(i:aR):Yc (.str i)=aC:=rfl
@[simp] theorem pureV_non:Yc .non=aC:=rfl
@[simp] theorem O7(l:List PV):Yc (.tup l)=ZZ l:=by rw[Yc]
@[simp] theorem pureL_nil:ZZ []=aC:=rfl
@[simp] theorem pureL_cons(a:PV)(l:List PV):ZZ (a::l)=(Yc a&&ZZ l):=rfl
theorem O8{α:Type}{l:List α}{f:α->PV}(h:∀a∈l,Yc (f a)=aC):ZZ (l.map f)=aC:=by rw[VG,iI,bB];exact h
@[simp] theorem pureL_iL(l:List Int):ZZ (l.map PV.int)=aC:=Xw l
abbrev pP(l:List Int):PV:=.tup (iL l)
abbrev wP(W:List (List Int)):PV:=.tup (W.map pP)
@[simp] theorem Gn(W:List (List Int)):ZZ (W.map pP)=aC:=O8 λa _=>by simp
theorem Gp{l:List Int}{k:Nat}(h:k<l.length):(iL l)[k]?=aA (.int (Xn l k)):=by rw[aS,aK h];simp[Xn,aU,aK h]
theorem NS{l:List Int}{k:Nat}(h:k<l.length):Vv (iL l) (k:Int)=aA (.int (Xn l k)):=Xy (Gp h)
theorem ES{W:List (List Int)}{k:Nat}(h:k<W.length):Vv (W.map pP) (k:Int)=aA (pP (Yk W k)):=by refine Xy ?_;rw[aS,MC h];rfl
@[simp] theorem Gq(l:List Bool):OC [.lst (l.map PV.bl)]=aA (.bl (l.all id)):=by simp[OC,MF,SD l]
@[simp] theorem gLen_t(l:List PV):ZR [.tup l]=aA (.int l.length):=rfl
@[simp] theorem gLen_l(l:List PV):ZR [.lst l]=aA (.int l.length):=rfl
@[simp] theorem gLen_c(l:List PV):ZR [.cst l]=aA (.int l.length):=rfl
@[simp] theorem gTuple_l(l:List PV):Y6 [.lst l]=aA (.tup l):=rfl
@[simp] theorem gTuple_t(l:List PV):Y6 [.tup l]=aA (.tup l):=rfl
@[simp] theorem gListP_t(l:List PV):H9 [.tup l]=if ZZ l=aC then aA (.lst l) else none:=rfl
@[simp] theorem gListP_l(l:List PV):H9 [.lst l]=if ZZ l=aC then aA (.lst l) else none:=rfl
@[simp] theorem gMin2_ii(i j:Int):Te [.int i,.int j]=aA (.int (if j<i then j else i)):=rfl
@[simp] theorem gMax2_ii(i j:Int):OZ [.int i,.int j]=aA (.int (if j>i then j else i)):=rfl
@[simp] theorem gInt1_b(c:Bool):MG [.bl c]=aA (.int (if c then 1 else 0)):=rfl
@[simp] theorem gInt1_i(c:Int):MG [.int c]=aA (.int c):=rfl
@[simp] theorem gInst_ii(i:Int):K8 [.int i,.ty "int"]=aA (.bl aC):=rfl
@[simp] theorem gInst_ib(i:Int):K8 [.int i,.ty "bool"]=aA (.bl aB):=rfl
@[simp] theorem gInst_tt(l:List PV):K8 [.tup l,.ty "tuple"]=aA (.bl aC):=rfl
@[simp] theorem gInst_ll(l:List PV):K8 [.lst l,.ty "list"]=aA (.bl aC):=rfl
theorem Jk(n:Nat)(i j:Int):Wc (n+1) (.int i) (.int j)=aC:=rfl
theorem TJ{α β:Type}{f:α->PV}{g:β->PV}{p:PV->PV->Bool}(h:∀a b,p (f a) (g b)=aC):∀(l:List α)(m:List β),((l.map f).zip (m.map g)).all (λz=>p z.1 z.2)=aC
 | [],_=>by simp
 | _::_,[]=>by simp
 | a::l,b::m=>by rw[aW,aW,dB,gJ,TJ h l m,h a b];rfl
theorem Jl(n:Nat)(l m:List Int):Wc (n+2) (pP l) (pP m)=aC:=TJ (λa b=>Jk n a b) l m
theorem ET(n:Nat)(l m:List (List Int)):Wc (n+3) (wP l) (wP m)=aC:=TJ (λa b=>Jl n a b) l m
@[simp] theorem gEq_ii(neg:Bool)(i j:Int):YJ neg (.int i) (.int j)=aA (.bl (if neg then !decide (i=j) else decide (i=j))):=by
 unfold YJ;rw[mZ (Jk 7 i j)];congr 2;cases neg<;>simp
theorem O9{α:Type}{T:Tgt}{ft:XT}{fe:XE}{s0:ZS}{q g:α->PV}:∀{ls:List α},(∀a∈ls,∃s1,WW T (q a) s0=aA s1/\ft s1=aA aC/\fe s1=aA (g a))->WK T ft fe s0 (ls.map q)=aA (ls.map g)
 | [],_=>rfl
 | a::r,h=>by obtain⟨s1,h1,h2,h3⟩:=h a a9;have ih:=O9 (ls:=r) λb hb=>h b (aQ _ hb);rw[aW,aW];unfold WK;rw[h1];simp only[aD,h2,if_true,h3,ih,av]
theorem RA{α:Type}{T:Tgt}{ft:XT}{fe:XE}{s0:ZS}{q g:α->PV}{c:α->Bool}:∀{ls:List α},(∀a∈ls,∃s1,WW T (q a) s0=aA s1/\ft s1=aA (c a)/\(c a=aC->fe s1=aA (g a)))->WK T ft fe s0 (ls.map q)=aA ((ls.filter c).map g)
 | [],_=>rfl
 | a::r,h=>by
  obtain⟨s1,h1,h2,h3⟩:=h a a9;have ih:=RA (ls:=r) λb hb=>h b (aQ _ hb);rw[aW];unfold WK;rw[h1];simp only[aD,h2]
  cases hc:c a with
  | true=>simp[h3 hc,ih,hc]
  | false=>simp[ih,hc]
theorem Wx{α:Type}{n:Nat}{ix:List Nat}{fi:XL}{T:Tgt}{ft:XT}{fe:XE}{s:ZS}(ls:List α)(q g:α->PV)(hfi:fi s=aA (ls.map q))(hl:ls.length<=10000)
  (h:∀a∈ls,∃s1,WW T (q a) (Z7 n ix s)=aA s1/\ft s1=aA aC/\fe s1=aA (g a)):Yg n ix fi T ft fe s=aA (.lst (ls.map g)):=by
 unfold Yg;rw[hfi];simp only[aD,aN,mZ hl,O9 h,av]
theorem NT{α:Type}{n:Nat}{ix:List Nat}{fi:XL}{T:Tgt}{ft:XT}{fe:XE}{s:ZS}(ls:List α)(q g:α->PV)(c:α->Bool)(hfi:fi s=aA (ls.map q))(hl:ls.length<=10000)
  (h:∀a∈ls,∃s1,WW T (q a) (Z7 n ix s)=aA s1/\ft s1=aA (c a)/\(c a=aC->fe s1=aA (g a))):Yg n ix fi T ft fe s=aA (.lst ((ls.filter c).map g)):=by
 unfold Yg;rw[hfi];simp only[aD,aN,mZ hl,RA h,av]
theorem Yz{T:Tgt}{fb:XS}:∀{ls:List PV}{s:ZS}(Jv:Nat->ZS->Prop),Jv 0 s->(∀(i:Nat) l st,ls[i]?=aA l->Jv i st->∃s1 s2,WW T l st=aA s1/\fb s1=aA (.nx s2)/\Jv (i+1) s2)->
  ∃s',We T fb ls s=aA (.nx s')/\Jv ls.length s'
 | [],s,Jv,h0,_=>⟨s,rfl,h0⟩
 | l::r,s,Jv,h0,h=>by obtain⟨s1,s2,a,b,c⟩:=h 0 l s rfl h0;obtain⟨s',d,e⟩:=Yz (ls:=r) (s:=s2) (λi=>Jv (i+1)) c λi l' st hl hi=>h (i+1) l' st (by simpa using hl) hi;refine⟨s',?_,e⟩;unfold We;rw[a];simp only[aD,b];exact d
theorem VV{n i:Nat}{l:PV}(h:(Xs n)[i]?=aA l):i<n/\l = .int (i:Int):=by have hi:=(aL.mp h).1;unfold Xs at hi h;rw[aN,bb] at hi;rw[aS,dS hi] at h;exact⟨hi,(bU h).symm⟩
theorem PK{lo:Int}{n i:Nat}{l:PV}(h:(Ux lo n)[i]?=aA l):i<n/\l = .int (lo+(i:Int)):=by have hi:=(aL.mp h).1;unfold Ux at hi h;rw[aN,bb] at hi;rw[aS,dS hi] at h;exact⟨hi,(bU h).symm⟩
@[simp] theorem RD(n:Nat):(Xs n).length=n:=by unfold Xs;simp
@[simp] theorem PL(lo:Int)(n:Nat):(Ux lo n).length=n:=by unfold Ux;simp
@[simp] theorem bindT_one(i:Nat)(l:PV)(s:ZS):WW (.one i) l s=aA (s.set i (aA l)):=rfl
theorem Xq(m:List PV):X5 m=(bN m.length).map λ(i:Nat)=>.tup [.int (i:Int),m.getD i .non]:=by
 apply List.ext_getElem?;intro i;rw[aS];by_cases h:i<m.length
 ·have:(X5 m)[i]?=aA (.tup [.int (i:Int),m[i]]):=by unfold X5;rw[aS,kC,aK h];simp
  rw[this,dS h];simp[aU,aK h]
 ·rw[fV (by rw[O1];omega),fV (by simpa using h)];rfl
theorem EU(l:List Int)(i:Nat)(h:i<l.length):(iL l).getD i .non = .int (Xn l i):=by rw[aU,Gp h];rfl
@[simp] theorem EV(f:XE)(s:ZS):YG [f] s=(f s).bind λa=>(HB a).bind λj=>if -1000000<=j/\j<=1000000 then aA (Xs j.toNat) else none:=by
 unfold YG
 cases h:f s with
 | none=>simp[h]
 | some a=>cases a<;>simp[h,HB]
@[simp] theorem EW(f g:XE)(s:ZS):WU [f,g] s=(f s).bind λa=>(g s).bind λb=>(HB a).bind λi=>(HB b).bind λj=>if -1000000<=i/\i<=1000000/\-1000000<=j/\j<=1000000 then aA (Ux i (j-i).toNat) else none:=by
 unfold WU
 cases h:f s with
 | none=>simp[h]
 | some a=>cases h2:g s with
  | none=>simp[h,h2]
  | some b=>cases a<;>cases b<;>simp[h,h2,HB]
@[simp] theorem Q0(i:Int):HB (.int i)=aA i:=rfl
@[simp] theorem Jm(i:List PV):A2 (.lst i)=aA i:=rfl
@[simp] theorem Qk(b:Bool)(f:XE)(s:ZS):WV b [f] s=(f s).bind λl=>(seqB b l).map X5:=by
 unfold WV;cases h:f s<;>simp[h]
@[simp] theorem seqB_f(l:List PV):seqB aB (.tup l)=aA l:=rfl
@[simp] theorem seqB_t(l:List PV):seqB aC (.lst l)=aA l:=rfl
@[simp] theorem seqB_c(l:List PV):seqB aC (.cst l)=aA l:=rfl
@[simp] theorem xLst_def(f:XE)(s:ZS):VU f s=(f s).bind D6:=rfl
@[simp] theorem asS_l(l:List PV):D6 (.lst l)=aA l:=rfl
@[simp] theorem asS_c(l:List PV):D6 (.cst l)=aA l:=rfl
@[simp] theorem Xg(O:List Nat)(fi:XL)(T:Tgt)(fb:XS)(s:ZS):Wt O fi T fb s=(fi (Ya O s)).bind λls=>We T fb ls s:=rfl
@[simp] theorem xTrue_def(s:ZS):Yi s=aA aC:=rfl
theorem Xh{f:XE}{s:ZS}{n:Nat}(h:f s=aA (.int (n:Int)))(hn:n<=10000):YG [f] s=aA (Xs n):=by rw[EV,h];simp only[aD,Q0];rw[mZ ⟨by omega,by omega⟩,cK]
theorem Ql{f g:XE}{s:ZS}{i j:Int}(h:f s=aA (.int i))(h':g s=aA (.int j))(hi : -10000<=i/\i<=10000)(hj : -10000<=j/\j<=10000):WU [f,g] s=aA (Ux i (j-i).toNat):=by rw[EW,h,h'];simp only[aD,Q0];rw[mZ ⟨by omega,by omega,by omega,by omega⟩]
theorem Bv{i j:Int}(h0 : -10000<=i)(h:i<=10000):CMul i j:=by
 refine .inl ?_;have e:(2^64:Int)=18446744073709551616:=by decide
 rw[e];omega
theorem Sf{c:Bool}(h:c=aC):gd c=aA ():=by unfold gd;rw[mZ h]
theorem L6{i:Nat}{f:XE}{s:ZS}{m n:List PV}(h:f s=aA (.lst n))(hm:Gi s i=aA m)(hl:m.length+n.length<=10000):Sd i f s=aA (.nx (s.set i (aA (.lst (m++n))))):=by unfold Sd;rw[h];simp only[aD,Jm,hm,Sf (decide_eq_true hl)]
theorem SW{i:Nat}{f:XE}{s:ZS}{m:List PV}{l:PV}(h:f s=aA l)(hm:Gi s i=aA m)(hl:m.length<=10000):XB i f s=aA (.nx (s.set i (aA (.lst (m++[l]))))):=by unfold XB;rw[h];simp only[aD,hm,Sf (decide_eq_true hl)]
theorem L7{i:Nat}{fk f:XE}{s:ZS}{m:List PV}{l:PV}{k:Int}(hk:fk s=aA (.int k))(h:f s=aA l)(hm:Gi s i=aA m)(hp:ZZ m=aC)(hq:Yc l=aC)(h0:0<=k)(h1:k<=1000000)(hl:m.length<=10000) :
  Se i fk f s=aA (.nx (s.set i (aA (.lst (m.take k.toNat++l::m.drop k.toNat))))):=by
 unfold Se;rw[hk,h];have c:(ZZ m&&Yc l&&decide (0<=k/\k<=1000000/\m.length<=10000))=aC:=by rw[hp,hq,decide_eq_true ⟨h0,h1,hl⟩];rfl
 simp only[aD,Q0,hm,Sf c]
theorem WY{i:Nat}{fa fb f:XE}{s:ZS}{m n:List PV}{l:PV}{a b:Int}{j c:Nat}(h:f s=aA l)(ha:fa s=aA (.int a))(hb:fb s=aA (.int b))(hm:Gi s i=aA m)(hj:KR m.length a=aA j)(hn:m[j]?=aA (.lst n))(hp:ZZ n=aC)(hq:Yc l=aC)(hc:KR n.length b=aA c) :
  Ym i fa fb f s=aA (.nx (s.set i (aA (.lst (m.set j (.lst (n.set c l))))))):=by
 unfold Ym;rw[h,ha,hb];have cc:(ZZ n&&Yc l)=aC:=by rw[hp,hq];rfl
 simp only[aD,Q0,Jm,hm,hj,hn,Sf cc,hc,av]
theorem Wm{n k:Nat}(h:k<n):KR n (k:Int)=aA k:=by unfold KR;rw[mZ (by omega),mZ (by omega)];rfl
theorem Qm{i j:Int}(h0:0<j)(h:j<=10000):R4 i j:=⟨h0,by omega⟩
end VL
namespace PW
open PySem L2 VL
def PM:XS:=(Yd (eP (Zh ZK (Zh TF (Xm Sv (Za 0) (Y4 (Za 1)) (Y4 (Zh Yp (Za 1) (eC (.int 1))))) (YO [eC (.int 0)])) (eC (.int 0)))))
def Zw:List PV->Option PV:=WC 2 PM
def Uk:XS:=(Zk (Zl 3 (YO []))
  (Zk (Wt [3,5] (YG [Za 2]) (.one 4) (Zk (Se 3 (Zh YS (Za 1) (Zh Yp (Za 4) (eC (.int 1)))) (Za 4))
  (Zl 1 (eP (Zh X8 (Za 1) (Zh Yp (Za 4) (eC (.int 1))))))))
  (Zk (Zl 5 (eC (.dT [] [])))
  (Zk (SE 0 (.many [6,7]) (Zk (Zl 8 (eP (Yf [Ze Te [Zh ZK (Za 3) (Za 6),Zh ZK (Za 3) (Za 7)],Ze OZ [Zh ZK (Za 3) (Za 6),Zh ZK (Za 3) (Za 7)]])))
  (sDPut 5 (Za 8) (Zh XM (Za 0) (Yf [Za 6,Za 7])))))
  (Yd (Za 5))))))
def Vf:List PV->Option PV:=WC 9 Uk
def WO:XS:=(Zk (Zl 4 (eC (.dT [] [])))
  (Zk (Zl 5 (YO [eP (eC (.int 0))]))
  (Zk (Wt [4,5] (YG [Za 1]) (.one 6) (Wt [4,5] (WU [Zh Yp (Za 6) (eC (.int 1)),Za 1]) (.one 7) (Zk (Zl 8 (eP (Ze Te [Zh Pn (Zh YS (Za 0) (eC (.int 2))) (Zh Yp (eC (.int 1)) (Zh YS (Zh X8 (Za 0) (eC (.int 2))) (Za 3))),Za 2])))
  (Zk (Zl 0 (eP (Zh ZK (YO [Zh X8 (Za 0) (eC (.int 2)),Zh X8 (Zh X8 (Za 0) (eC (.int 2))) (Za 3)]) (Zh YS (Za 0) (eC (.int 2))))))
  (YF (xB (Zh T7 (Za 8) (eC (.int 0)))) (Zk (sDPut 4 (Yf [Za 6,Za 7]) (Za 8))
  (Zl 2 (eP (Zh Su (Za 2) (Za 8))))) Zs)))))
  (Zk (Wt [4,5] (YG [Za 1]) (.one 9) (Vl [4,5] 4 (.many [6,7]) (Zk (YF (Vi (xB (Zh (Rr aB) (Za 6) (Za 5))) (xB (Zh (Rr aC) (Za 7) (Za 5)))) (XB 5 (eP (Za 7))) Zs)
  (YF (Vi (xB (Zh (Rr aB) (Za 7) (Za 5))) (xB (Zh (Rr aC) (Za 6) (Za 5)))) (XB 5 (eP (Za 6))) Zs))))
  (NR 4 (Ze MG [Zh (YJ aB) (Ze ZR [Za 5]) (Za 1)]))))))
def Y0:List PV->Option PV:=WC 10 WO
def Sg:XS:=(Zk (Zl 3 (Ze Zw [Za 0,Za 1]))
  (Zk (YF (Vi (xB (Zh (YJ aB) (Zh YS (Za 3) (eC (.int 2))) (eC (.int 1)))) (xB (Vc aC (Ze Y0 [Zh X8 (Za 3) (eC (.int 2)),Za 2,eC (.int 30),eC (.int 9)])))) (Yd (Ze Y0 [Zh X8 (Za 3) (eC (.int 2)),Za 2,eC (.int 30),eC (.int 9)])) Zs)
  (Zk (Zl 4 (eC (.dT [] [])))
  (Zk (Zl 5 (eP (eC (.int 30))))
  (Zk (Wt [4] (WU [eC (.int 1),Za 2]) (.one 6) (Zk (Zl 7 (Ze Zw [Za 0,Zh Yp (Za 1) (Za 6)]))
  (Zk (Zl 8 (eP (Ze Te [Zh ZK (YO [eC (.int 1),eC (.int 1),eC (.int 1),eC (.int 2),eC (.int 3),eC (.int 9)]) (Zh YS (Zh X8 (Za 7) (Za 6)) (eC (.int 6))),Zh Su (Za 5) (Zh Su (Zh Su (Za 2) (eC (.int 1))) (Za 6))])))
  (Zk (sDPut 4 (Yf [Zh YS (Za 7) (Za 6),Za 6]) (Za 8))
  (Zl 5 (eP (Zh Su (Za 5) (Za 8))))))))
  (Zk (Zl 9 (eP (Zh Yp (Za 1) (eC (.int 7)))))
  (Zk (Wt [4] (YG [Za 2]) (.one 10) (Wt [4] (WU [Zh Yp (Za 10) (eC (.int 1)),Za 2]) (.one 11) (Zk (Zl 8 (eP (Zh ZK (YO [eC (.int 0),eC (.int 0),eC (.int 0),eC (.int 1),eC (.int 1),eC (.int 2),eC (.int 4),eC (.int 9)]) (Zh YS (Ze Zw [Za 0,Za 9]) (eC (.int 8))))))
  (Zk (Zl 9 (eP (Zh Yp (Za 9) (eC (.int 1)))))
  (YF (Vi (xB (Qj aC (Yf [Za 10,Za 11]) (Za 4))) (xB (Tf Wb Sz (eC (.int 0)) (Za 8) (Za 5)))) (Zk (sDPut 4 (Yf [Za 10,Za 11]) (Za 8))
  (Zl 5 (eP (Zh Su (Za 5) (Za 8))))) Zs)))))
  (Yd (Ze Vf [Za 4,Zh X8 (Ze Zw [Za 0,Za 1]) (eC (.int 7)),Za 2])))))))))
def WZ:List PV->Option PV:=WC 12 Sg
def U0:XS:=(Zk (Zl 2 (Yg 1 [1] (YG [Za 1]) (.one 0) Yi (Zh SR (YO [eC (.int 0)]) (Za 1))))
  (Zk (SE 0 (.many [3,4]) (Zk (Ym 2 (Za 3) (Za 4) (Zh XM (Za 0) (Yf [Za 3,Za 4])))
  (Ym 2 (Za 4) (Za 3) (Zh XM (Za 0) (Yf [Za 3,Za 4])))))
  (Yd (eP (Ze Y6 [Yg 1 [] (VU (Za 2)) (.one 0) Yi (Ze Y6 [Za 0])])))))
def Y1:List PV->Option PV:=WC 5 U0
end PW
namespace VL
open PySem PySem.Spec PyProof.Rows L2
def TM(l:List Int):List Int:=l.mergeSort λa b=>decide (a<=b)
theorem SX(l:List Int):(TM l).Perm l:=List.mergeSort_perm l _
theorem NU(l:List Int):(TM l).Pairwise (·<=·):=by have:=List.pairwise_mergeSort (le:=λa b:Int=>decide (a<=b)) (λa b c h1 h2=>by simp only[decide_eq_true_eq] at *;omega) (λa b=>by simp only[Bool.or_eq_true,decide_eq_true_eq];omega) l;exact this.imp λh=>of_decide_eq_true h
theorem PN{l m:List Int}(hp:m.Perm l)(hs:m.Pairwise (·<=·)):m=TM l:=
 List.Perm.eq_of_pairwise (le:=(·<=·)) (λa b _ _ h1 h2=>Int.le_antisymm h1 h2) hs (NU l) (hp.trans (SX l).symm)
theorem RE:∀{us:List aE}{ns:List Int},kJ us ns->Vals (ns.map V.int) us
 | _,_,.nil=>.nil
 | _,_,.cons n t h=>.cons ⟨t,rfl⟩ (RE h)
def NV(K:aG):List V->Hp->VK->Prop:=λxs H Q=>∃p ns,xs=[.ref p]/\SqL K H p (ns.map V.int)/\ns.length<64/\∀l,H l=none->Q (.ref l) (upd H l (.lst ((TM ns).map V.int)))
theorem RF{X:Cx}:W8 X (.builtin "sorted") (NV X.K):=by
 intro m3 s σ H xs us Q I r h;obtain⟨p,ns,rfl,hq,hl,q⟩:=h;obtain⟨u,rfl,rx⟩:=VP r;cases rx;obtain⟨mY,r',pl,hz⟩:=I.list hq;have hlen:=r'.length;rw[aN] at hlen hz;refine sorted_ints pl.isList (LM r') (by omega) λout ns' a1 a2 a3=>?_;obtain⟨e,he⟩:=sortedAll_at s.heap mY out;have hns:=PN a2 a3;subst hns;refine⟨.ref (s.heap.objs.size+1),_,I.laid (t':=s.toks) (λb o=>sortedAll_old) (kB _) (show ObjOk X.prog X.w _ _ _ (.lst ((TM ns).map V.int)) from⟨?_,out.toList,e,RE a1,?_⟩),rfl,q _ (I.hok.fresh (kB _))⟩
 ·rw[aN,(SX ns).length_eq];exact hz
 ·rw[Array.toArray_toList];exact he
def Ul:List PV->Option PV
 | [.lst l]=>(Ws l).bind λns=>if ns.length<64 then aA (.lst (iL (TM ns))) else none
 | [.cst l]=>(Ws l).bind λns=>if ns.length<64 then aA (.lst (iL (TM ns))) else none
 | _=>none
theorem PQ{K:aG}:RCM K (NV K) Ul:=λH vs ls l fp h e Q k=>by
 have fin:∀(p:aH)(ns:List Int),SqL K H p (ns.map V.int)->ns.length<64->l = .lst (iL (TM ns))->NV K [.ref p] H Q:=by rintro p ns hp hl rfl;refine⟨p,ns,rfl,hp,hl,λq hq=>k _ _ [q] (Same.new hq _) (Is.lst upd_same (Iss.ofInts _)) (by simp) λr hr=>?_⟩;rw[aP.mp hr];exact⟨hq,by rw[upd_same];exact cU⟩
 unfold Ul at e;split at e
 ·obtain⟨ns,e1,e2⟩:=Zd e;split at e2
  ·cases e2;obtain⟨v,rfl,i⟩:=h.one_inv;have em:=Ui e1;subst em;obtain⟨p,xs,fq,rfl,hp,hi,_⟩:=i.lst_inv;obtain⟨rfl,rfl⟩:=hi.iL;exact fin p ns (.inl (.inl hp)) (by assumption) rfl
  ·cases e2
 ·obtain⟨ns,e1,e2⟩:=Zd e;split at e2
  ·cases e2;obtain⟨v,rfl,i⟩:=h.one_inv;have em:=Ui e1;subst em;obtain⟨p,xs,rfl,hp,hi⟩:=i.cst_inv;obtain⟨rfl,rfl⟩:=hi.iL;exact fin p ns hp.sq (by assumption) rfl
  ·cases e2
 ·cases e
def ZO:XS:=λ_=>none
theorem YB{X:Cx}{O W:List Nat}{st:bj}:VS X O W st ZO:=by intro m3 s σ H D I h;unfold Gg at h;simp only[ZO] at h;obtain⟨_,_,_,_,_,q,_⟩:=h;cases q
end VL
namespace VL
open PySem PySem.W PyProof.Rows
section
variable {r:Nat->Int} {n:Nat}
def XW(p:Array Nat)(i:Nat):Nat:=p.getD i 0
end
end VL
namespace VL
open PySem PySem.Spec PyProof.Rows L2
variable {K:aG}
def Jn(r r' r'':R2)(ta tb tc td:TE):TE:=λσ H Q=>ta σ H λx H1=>tb σ H1 λy H2=>r x y H2 λz H3=>∃k,z = .bl k/\
 (if k=aC then tc σ H3 λw' H4=>r' y w' H4 λz' H5=>∃k',z' = .bl k'/\(if k'=aC then td σ H5 λu' H6=>r'' w' u' H6 Q else Q (.bl aB) H5) else Q (.bl aB) H3)
section
variable {X:Cx} {a b c d:aw} {ta tb tc td:TE} {fa fb fc fd:XE} {pos:dm}
theorem Iy{op op' op'':jJ}{r r' r'':R2}(ho:UA X (ba op) r)(ho':UA X (ba op') r')(ho'':UA X (ba op'') r'')(ha:PE X a ta)(hb:PE X b tb)(hc:PE X c tc)(hd:PE X d td)
  (hm:jK [op,op',op''] [b,c,d]=aB:=by with_unfolding_all rfl):PT X (.Compare a [op,op',op''] [b,c,d] pos) (ON (Jn r r' r'' ta tb tc td)):=by
 intro m3 s σ H Q I h
 refine isTrue_chain (YD (ha m3 s σ H _ I h) λv s1 ⟨x,H1,I1,r1,q1⟩=>test_link (YD (hb m3 s1 σ H1 _ I1 q1) λu s2 ⟨y,H2,I2,r2,q2⟩=>
  YD (ho m3 s2 σ H2 x y v u _ I2 r1 r2 q2) λd s3 ⟨z,H3,I3,r3,k,e,q3⟩=>?_)) hm
 subst e;cases r3;refine bg ?_
 cases k with
 | false=>
  obtain⟨k',e',q'⟩:=q3;cases e';exact ite_ff ⟨H3,I3,q'⟩
 | true=>
  refine ite_tt (test_link (YD (hc m3 s3 σ H3 _ I3 q3) λw' s4 ⟨z',H4,I4,r4,q4⟩=>YD (ho' m3 s4 σ H4 y z' u w' _ I4 r2 r4 q4) λd' s5 ⟨z2,H5,I5,r5,k',e',q5⟩=>?_));subst e';cases r5;refine bg ?_
  cases k' with
  | false=>
   obtain⟨k2,e2,q'⟩:=q5;cases e2;exact ite_ff ⟨H5,I5,q'⟩
  | true=>
   refine ite_tt (test_last (YD (hd m3 s5 σ H5 _ I5 q5) λw2 s6 ⟨z3,H6,I6,r6,q6⟩=>YD (ho'' m3 s6 σ H6 z' z3 w' w2 _ I6 r4 r6 q6) λd2 s7 ⟨z4,H7,I7,r7,k2,e2,q7⟩=>?_));subst e2;cases r7;exact bg ⟨H7,I7,q7⟩
def OD(g h i:PV->PV->Option PV)(a b c d:XE):XE:=λs=>(a s).bind λx=>(b s).bind λy=>((g x y).bind MN).bind λk=>if k=aC then(c s).bind λz=>((h y z).bind MN).bind λk'=>if k'=aC then(d s).bind λu=>i z u else aA (.bl aB) else aA (.bl aB)
theorem Iz{r r' r'':R2}{g h i:PV->PV->Option PV}(hr:RB K r g)(hr':RB K r' h)(hr'':RB K r'' i):∀σ H Q,tF K (OD g h i fa fb fc fd) σ H Q->Jn r r' r'' (tF K fa) (tF K fb) (tF K fc) (tF K fd) σ H Q:=λσ H Q ⟨Rm,s,l,hd,env,e,k⟩=>by
 obtain⟨x',e1,e⟩:=Zd e;obtain⟨y',e2,e⟩:=Zd e;obtain⟨b,e3,e⟩:=Zd e;obtain⟨z',e3,eb⟩:=Zd e3;rw[PH eb] at e3;refine⟨Rm,s,x',hd,env,e1,λx H1 f1 s1 i1 n1=>⟨Rm,s,y',λp hp=>Same.mut s1 (hd p hp),env.mono s1,e2,λy H2 f2 s2 i2 n2=>?_⟩⟩;refine hr H2 x y x' y' _ f1 f2 (i1.mono s2) i2 e3 _ λv H3 fp s3 i3 n3=>⟨b,i3.bl_inv.1,?_⟩;have s123:=s1.trans (s2.trans s3)
 cases b with
 | false=>
  rw[ma a0] at e ⊢;cases e;exact k _ H3 [] s123 (Is.bl _) λp hp=>by simp at hp
 | true=>
  rw[mZ rfl] at e ⊢;obtain⟨w',e4,e⟩:=Zd e;obtain⟨b',e5,e⟩:=Zd e;obtain⟨z2,e5,eb'⟩:=Zd e5;rw[PH eb'] at e5;refine⟨Rm,s,w',λp hp=>Same.mut s123 (hd p hp),env.mono s123,e4,λw H4 f4 s4 i4 n4=>?_⟩;refine hr' H4 y w y' w' _ f2 f4 (i2.mono (s3.trans s4)) i4 e5 _ λv5 H5 fp5 s5 i5 n5=>⟨b',i5.bl_inv.1,?_⟩;have s12345:=s123.trans (s4.trans s5)
  cases b' with
  | false=>
   rw[ma a0] at e ⊢;cases e;exact k _ H5 [] s12345 (Is.bl _) λp hp=>by simp at hp
  | true=>
   rw[mZ rfl] at e ⊢;obtain⟨u',e6,e⟩:=Zd e;refine⟨Rm,s,u',λp hp=>Same.mut s12345 (hd p hp),env.mono s12345,e6,λu H6 f6 s6 i6 n6=>?_⟩;refine hr'' H6 w u w' u' l f4 f6 (i4.mono (s5.trans s6)) i6 e Q λv H7 fp7 s7 i7 n7=>k v H7 fp7 (s12345.trans (s6.trans s7)) i7 λp hp z=>?_;rcases n7 p hp with q | q | q
   ·exact n4 p q z
   ·exact n6 p q z
   ·exact Xz (Same.mut (s12345.trans s6) (hd p z)) q
theorem IA{op op' op'':jJ}{r r' r'':R2}{g h i:PV->PV->Option PV}(ho:UA X (ba op) r)(ho':UA X (ba op') r')(ho'':UA X (ba op'') r'')(hr:RB X.K r g)(hr':RB X.K r' h)(hr'':RB X.K r'' i)(ha:VE X a fa)(hb:VE X b fb)(hc:VE X c fc)(hd:VE X d fd)
  (hm:jK [op,op',op''] [b,c,d]=aB:=by with_unfolding_all rfl):VT X (.Compare a [op,op',op''] [b,c,d] pos) (xB (OD g h i fa fb fc fd)):=PT.imp (Iy ho ho' ho'' ha hb hc hd hm) λσ H Q q=>SM (Iz hr hr' hr'') σ H Q (Po σ H Q q)
end
def FY(mg:aR->Option aE)(x:aR)(k:Int):Prop:=∃t,mg x=aA (jG k t)
theorem Qn{X:Cx}{x:aR}{k:Int}{pos:dm}(hg:Gl X x)(hm:FY X.mg x k)(hd:(x==("__debug__" : aR))=aB:=by decide):VE X (.Name x pos) (eC (.int k)):=by obtain⟨t,e⟩:=hm;exact Ij (KN hg e (v:=.int k) ⟨t,rfl⟩ hd) λ_=>Is.int k
end VL
namespace VL
open PySem PySem.Spec PyProof.Rows L2
variable {K:aG}
def D8(i j:Int):Prop:=i.natAbs.log2<67108863/\j.natAbs.log2<67108863
def D9(i j:Int):Prop:=j≠0/\j.natAbs.log2<9000
instance (i j:Int):Decidable (D8 i j):=by unfold D8;infer_instance
instance (i j:Int):Decidable (D9 i j):=by unfold D9;infer_instance
end VL
namespace VL
open PySem PySem.Spec PyProof.Rows L2
def L8(i:Nat)(f0:XE):XS:=λs=>(f0 s).bind λl0=>match s[i]? with
 | some (aA l)=>if Yc l0=aC then aA (.rt (.tup [l0,l])) else none
 | _=>none
theorem Gr{X:Cx}{O:List Nat}{e:aw}{i:Nat}{f0:XE}{pos:dm}(he:PE X e (AG (UC (tF X.K f0) (UC (Th i) NB))))(hi:i∈O:=by decide):VS X O [] (.Return (aA e) pos) (L8 i f0):=PS.imp (Pd he) λD σ H ⟨H0,fps,s,out,r,e,k⟩=>by
 obtain⟨l0,e0,e⟩:=Zd e;split at e
 case h_2=>cases e
 rename_i l em;split at e
 case isFalse=>cases e
 rename_i pu;cases e;obtain⟨v,hv,iv⟩:=r.is i _ em;refine⟨λ_=>False,s,l0,λ_ z=>z.elim,r.env,e0,λv0 H1 f1 s1 i1 _=>?_⟩;have:=Is.pure _ _ _ pu i1;subst this;refine⟨v,hv,(by show 2<=sizeLine;decide),λq hq=>?_⟩;have sn:Same H1 (upd H1 q (.tup [v0,v])):=Same.new hq _;have r3:=r.grow s1;refine k _ (fps i) _ (r3.same.trans sn) (Is.tup upd_same ?_) (r.nd i hi) λz hz=>?_
 ·have h1:=Iss.cons (i1.mono sn) (Iss.one ((iv.mono s1).mono sn));simpa using h1
 ·have:=r3.own i hi z hz;exact⟨this.1,Same.mut sn this.2⟩
end VL
namespace L2
open PySem PySem.Spec PyProof.Rows
abbrev WJ:=aH->ck->List (List Xp×V)->It
end L2
namespace VL
open PySem PySem.Spec PyProof.Rows L2
variable {K:aG}
def EX(mg:aR->Option aE)(x:aR)(k:aR):Prop:=∃t,mg x=aA (jH k t)
theorem EY{X:Cx}{x:aR}{k:aR}{pos:dm}(hg:Gl X x)(hm:EX X.mg x k)(hd:(x==("__debug__" : aR))=aB:=by decide):VE X (.Name x pos) (eC (.str k)):=by obtain⟨t,e⟩:=hm;exact Ij (KN hg e (v:=.str k) ⟨t,rfl⟩ hd) λ_=>Is.str k
section
variable {X:Cx} {o e:aw} {fo fe:XE} {apos m7:dm} {name:aR} {id:String} {r:V->List V->Hp->VK->Prop} {g:PV->PV->Option PV}
theorem QE(slot:Slot "str" name id)(hty:typeOf (.builtin id)=pure (.type "method_descriptor"))(hm:C5 X id r)(hr:RB X.K (λx y H Q=>r x [y] H Q) g)
  (hT:∀a b l,g a b=aA l->∃z,a = .str z) (ho:VE X o fo) (he:VE X e fe)
  (hbase:fP o name X.env (eval o X.env)=eval o X.env:=by rfl)
  (hfew:((cL m7 (aO [e] X.env)).all (λx=>!x.1)&&(jy m7 (gm [] X.env)).all (λx=>x.1.isSome)
   &&decide (([e]:List aw).length+([]:List iH).length+(if([]:List iH).isEmpty then 0 else 1)<30))=aC:=by rfl)
  (hline:(apos.endLine==m7.line)=aC:=by rfl) (hs:aO [e] X.env=(aB,eval e X.env)::aO [] X.env:=by rfl) (hplain:(cL m7 (aO [] X.env)).any (·.1)=aB:=by rfl) :
  VE X (.Call (.Attribute o name apos) [e] [] m7) (Zh g fo fe):=
 PE.imp (Tr F.plainAttrs_str slot hty hm ho (Zc he Zi hs) hbase hfew hline hs hplain) λσ H Q ⟨Rm,s,l,hd,env,e,k⟩=>by
  obtain⟨x',y',e1,e2,e⟩:=Vb e;obtain⟨z,rfl⟩:=hT _ _ _ e;refine⟨Rm,s,.str z,hd,env,e1,λv H1 fp s1 i1 n1=>?_⟩;obtain⟨rfl,rfl⟩:=i1.str_inv;refine⟨rfl,Rm,s,[y'],λq hq=>Same.mut s1 (hd q hq),env.mono s1,by show(fe s).bind _=_;rw[e2];rfl,λvs H2 fq s2 i2 n2=>?_⟩;obtain⟨w,rfl,iw⟩:=i2.one_inv;refine hr H2 _ w (.str z) y' l [] fq (Is.str z) iw e Q λv3 H3 fp3 s3 i3 n3=>k v3 H3 fp3 (s1.trans (s2.trans s3)) i3 λp hp zz=>?_;rcases n3 p hp with h | h | h
  ·simp at h
  ·exact n2 p h zz
  ·exact Xz (Same.mut (s1.trans s2) (hd p zz)) h
end
def Cc:V->List V->Hp->VK->Prop:=λx vs H Q=>∃a b,x = .str a/\vs=[.str b]/\Q (.bl (iJ a b)) H
theorem Q1{X:Cx}:C5 X "str.endswith" Cc:=by intro m3 s σ H x vs v us Q I rx rv h;obtain⟨a,b,rfl,rfl,q⟩:=h;obtain⟨t,rfl⟩:=rx;obtain⟨u,rfl,ru⟩:=VP rv;obtain⟨t',rfl⟩:=ru;exact SC.endswith ⟨.bl _,H,I,rfl,q⟩
def Vr:PV->PV->Option PV
 | .str a,.str b=>aA (.bl (iJ a b))
 | _,_=>none
theorem Q3:RB K (λx y H Q=>Cc x [y] H Q) Vr:=λH x y a b l fa fb ha hb e Q k=>by
 unfold Vr at e;split at e
 ·cases e;exact⟨_,_,ha.str_inv.1,by rw[hb.str_inv.1],k _ H [] (Same.refl H) (Is.bl _) λp hp=>by simp at hp⟩
 ·cases e
theorem Sh:∀a b l,Vr a b=aA l->∃z,a = .str z:=λa b l h=>by
 unfold Vr at h;split at h
 ·exact⟨_,rfl⟩
 ·cases h
def L9:List PV->Option (List aR)
 | []=>aA []
 | .str x::r=>(L9 r).map (x::·)
 | _=>none
theorem Ka:∀xs:List aR,L9 (xs.map PV.str)=aA xs
 | []=>rfl
 | x::r=>by simp only[aW,L9,Ka r];rfl
theorem Iss.ofStrs{H:Hp}:∀(l:List aR),Iss K H (l.map PV.str) (l.map V.str) []
 | []=>Iss.nil
 | i::l=>Iss.cons (f1:=[]) (Is.str i) (Iss.ofStrs l)
theorem RG:∀l:List (aR×mR),Vals ((l.map (·.1)).map V.str) (strValues l)
 | []=>.nil
 | p::l=>.cons ⟨p.2,rfl⟩ (RG l)
def Bw:V->List V->Hp->VK->Prop:=λx vs H Q=>∃a b,x = .str a/\vs=[.str b]/\(b.length==0)=aB/\a.length+2<=sizeLine/\∀p,H p=none->Q (.ref p) (upd H p (.lst ((iM a b).map V.str)))
theorem IB(x y:aR):(iM x y).length<=x.length+2:=by
 unfold iM;split
 ·simp
 ·split
  ·simp
  ·rw[kO];have:=jq x y 0 x.length (x.length+1);omega
theorem Gs{X:Cx}:C5 X "str.split" Bw:=by
 intro m3 s σ H x vs v us Q I rx rv h;obtain⟨x,y,rfl,rfl,hy,hsz,q⟩:=h;obtain⟨t,rfl⟩:=rx;obtain⟨u,rfl,ru⟩:=VP rv;obtain⟨u,rfl⟩:=ru;have hn:(jD x (cF x y 0 x.length (x.length+1)) y.length).length<=sizeLine:=by have e1:=jq x y 0 x.length (x.length+1);rw[kO];omega
 have fin:∀(l:List (aR×mR))(k:Nat),l.map (·.1)=iM x y->EP X m3 σ Q (.ref s.heap.objs.size) { s with heap:=s.heap.push { cls:=.type "list",data:=.seq (strValues l).toArray },toks:=k }:=λl k e=>by
  have hv:=RG l;rw[e] at hv;have hz:((iM x y).map V.str).length<=sizeLine:=by rw[aN];have:=IB x y;omega
  exact⟨.ref s.heap.objs.size,_,I.lnew hv hz,rfl,q _ I.fresh⟩
 cases h1:(decide (x.length<y.length) || decide (kQ x<kQ y))
 ·cases hf:(cF x y 0 x.length (x.length+1)).isEmpty
  ·refine fH F.slot_str_split (iQ _ _ _) F.entry_str_split (F.args_str_split_2 _ _) (meets_str_split_sep x y t u h1 hy hf (by omega) hn) ?_;show wants _ _ _ { s with toks:=_,heap:=s.heap.push { cls:=.type "list",data:=.seq (strsFrom s.toks (jD x (cF x y 0 x.length (x.length+1)) y.length)).toArray } };rw[strsFrom_eq];exact fin (numbered s.toks _) _ ((numbered_texts _ _).trans ((ma (ne_true_of_eq_false h1)).trans (ma (ne_true_of_eq_false hf))).symm)
  ·exact fH F.slot_str_split (iQ _ _ _) F.entry_str_split (F.args_str_split_2 _ _) (meets_str_split_not_found x y t u h1 hy hf)
    (fin [(x,t)] s.toks ((ma (ne_true_of_eq_false h1)).trans (mZ hf)).symm)
 ·exact fH F.slot_str_split (iQ _ _ _) F.entry_str_split (F.args_str_split_2 _ _) (meets_str_split_cannot_occur x y t u h1)
   (fin [(x,t)] s.toks (mZ h1).symm)
def Xb:PV->PV->Option PV
 | .str a,.str b=>if(b.length==0)=aB/\a.length+2<=sizeLine then aA (.lst ((iM a b).map .str)) else none
 | _,_=>none
section
variable {X:Cx} {o e:aw} {fo fe:XE} {apos m7:dm}
theorem VZ(ho:VE X o fo)(he:VE X e fe)
  (hbase:fP o "split" X.env (eval o X.env)=eval o X.env:=by rfl)
  (hfew:((cL m7 (aO [e] X.env)).all (λx=>!x.1)&&(jy m7 (gm [] X.env)).all (λx=>x.1.isSome)
   &&decide (([e]:List aw).length+([]:List iH).length+(if([]:List iH).isEmpty then 0 else 1)<30))=aC:=by rfl)
  (hline:(apos.endLine==m7.line)=aC:=by rfl) (hs:aO [e] X.env=(aB,eval e X.env)::aO [] X.env:=by rfl) (hplain:(cL m7 (aO [] X.env)).any (·.1)=aB:=by rfl) :
  VM X (.Call (.Attribute o "split" apos) [e] [] m7) (Zh Xb fo fe):=
 PE.imp (Tr F.plainAttrs_str F.slot_str_split F.type_str_split Gs ho (Zc he Zi hs) hbase hfew hline hs hplain) λσ H Q ⟨s,l,env,e,k⟩=>by
  obtain⟨x',y',e1,e2,e⟩:=Vb e;refine⟨λ_=>False,s,x',λ_ z=>z.elim,env,e1,λv H1 fp s1 i1 n1=>?_⟩;unfold Xb at e;split at e
  ·rename_i a b;split at e
   ·rename_i hc;cases e;obtain⟨rfl,rfl⟩:=i1.str_inv;refine⟨rfl,λ_=>False,s,[.str b],λ_ z=>z.elim,env.mono s1,by show(fe s).bind _=_;rw[e2];rfl,λvs H2 fq s2 i2 n2=>?_⟩;obtain⟨w,rfl,iw⟩:=i2.one_inv;obtain⟨rfl,_⟩:=iw.str_inv;refine⟨a,b,rfl,rfl,hc.1,hc.2,λp hp=>k _ _ [p] (s1.trans (s2.trans (Same.new hp _))) (Is.lst upd_same (Iss.ofStrs _)) (by simp) λq hq=>?_⟩;rw[aP.mp hq];exact⟨Same.off (s1.trans s2) hp,by rw[upd_same];exact cU⟩
   ·cases e
  ·cases e
end
def Zbw:V->Option Int->Option Int->Hp->VK->Prop:=λx lo hi H Q=>∃a,x = .str a/\a.length<=sizeLine/\Q (.str (dH a lo hi)) H
theorem Bx{X:Cx}:SlR X Zbw:=by
 intro m3 s σ H x v vl vu lo hi sl Q I rx hs pl pu h;obtain⟨a,rfl,hz,q⟩:=h;obtain⟨t,rfl⟩:=rx;obtain⟨os,hos,hcs,hds⟩:=hs;have go:∀(l u:Option (Int×mR)),s.heap.IsSlice sl l u none->aZ (model X.prog X.w) X.A (kK (.str a t) (.ref sl)) (λv s'=>EP X m3 σ (λv' H'=>v' = .str (dH a (l.map (·.1)) (u.map (·.1)))/\H'=H) v s') X.xe s:=λl u hsl=>by refine wpAny_getItem_str_slice (l:=l) (u:=u) (st:=none) hsl rfl ?_;exact post_val_or_str ⟨bu (Txt.slice_le a _ _) hz,λt' k=>⟨.str _,H,I.tok _,⟨_,rfl⟩,rfl,rfl⟩⟩
 refine⟨"str",_,F.slot_str_getitem.lookup,iQ _ _ _,?_⟩
 cases pl with
 | none=>cases pu with
  | none=>exact YD (go none none ⟨os,hos,hcs,hds⟩) λv s' ⟨v',H',I',r',e1,e2⟩=>by subst e1 e2;exact⟨_,_,I',r',q⟩
  | int j u=>exact YD (go none (aA (j,u)) ⟨os,hos,hcs,hds⟩) λv s' ⟨v',H',I',r',e1,e2⟩=>by subst e1 e2;exact⟨_,_,I',r',q⟩
 | int i u=>cases pu with
  | none=>exact YD (go (aA (i,u)) none ⟨os,hos,hcs,hds⟩) λv s' ⟨v',H',I',r',e1,e2⟩=>by subst e1 e2;exact⟨_,_,I',r',q⟩
  | int j u'=>exact YD (go (aA (i,u)) (aA (j,u')) ⟨os,hos,hcs,hds⟩) λv s' ⟨v',H',I',r',e1,e2⟩=>by subst e1 e2;exact⟨_,_,I',r',q⟩
def ZU(x:PV)(lo hi:Option Int):Option PV:=match x with | .str a=>if a.length<=sizeLine then aA (.str (dH a lo hi)) else none | _=>none
section
variable {X:Cx} {e:aw} {lo hi:Option aw} {p2 pos:dm} {fa:XE} {fl fh:XO}
theorem ZY(ha:VE X e fa)(hl:VO X lo fl)(hh:VO X hi fh):VE X (.Subscript e (.Slice lo hi none p2) pos) (Xm ZU fa fl fh):=PE.imp (Mr Bx ha hl hh) λσ H Q ⟨Rm,s,l,hd,env,e,k⟩=>by
 obtain⟨x,e1,e⟩:=Zd e;obtain⟨a,e2,e⟩:=Zd e;obtain⟨b,e3,e⟩:=Zd e;refine⟨Rm,s,x,hd,env,e1,λv H1 fp s1 i1 n1=>⟨Rm,s,a,λp hp=>Same.mut s1 (hd p hp),env.mono s1,e2,λH2 s2=>⟨Rm,s,b,λp hp=>Same.mut (s1.trans s2) (hd p hp),env.mono (s1.trans s2),e3,λH3 s3=>?_⟩⟩⟩;unfold ZU at e;split at e
 ·split at e
  ·cases e;exact⟨_,i1.str_inv.1,by assumption,k _ H3 [] (s1.trans (s2.trans s3)) (Is.str _) λp hp=>by simp at hp⟩
  ·cases e
 ·cases e
end
def Na:List PV->Option PV
 | [.str x]=>if x.length<=640 then(iT x).map .int else none
 | _=>none
theorem Nb{X:Cx}:W8 X (.type "int") (λxs H Q=>∃x n,xs=[.str x]/\iT x=aA n/\x.length<=640/\Q (.int n) H):=by intro m3 s σ H xs us Q I r h;obtain⟨x,n,rfl,hn,hl,q⟩:=h;obtain⟨u,rfl,t,rfl⟩:=VP r;exact PySem.W.KIN.call_text hn hl ⟨.int n,H,I.tok _,⟨_,rfl⟩,q⟩
theorem Jo:RC K (λxs H Q=>∃x n,xs=[.str x]/\iT x=aA n/\x.length<=640/\Q (.int n) H) Na:=λH vs ls l fp h e Q k=>by
 unfold Na at e;split at e
 ·split at e
  ·obtain⟨n,e1,rfl⟩:=map_some e;obtain⟨v,rfl,a⟩:=h.one_inv;exact⟨_,n,by rw[a.str_inv.1],e1,by assumption,k _ H [] (Same.refl H) (Is.int _) λp hp=>by simp at hp⟩
  ·cases e
 ·cases e
def X6:List PV->Option PV
 | [.int i]=>if i.natAbs.log2<1920 then aA (.str (toString i)) else none
 | _=>none
theorem Q4:RC K (λxs H Q=>∃i,xs=[.int i]/\i.natAbs.log2<1920/\Q (.str (toString i)) H) X6:=λH vs ls l fp h e Q k=>by
 unfold X6 at e;split at e
 ·split at e
  ·cases e;obtain⟨v,rfl,a⟩:=h.one_inv;exact⟨_,by rw[a.int_inv.1],by assumption,k _ H [] (Same.refl H) (Is.str _) λp hp=>by simp at hp⟩
  ·cases e
 ·cases e
def Kb(neg:Bool):PV->PV->Option PV
 | .str i,.str j=>aA (.bl (neg != !(cF j i 0 j.length 1).isEmpty))
 | _,_=>none
theorem By:RB K (λx y H Q=>∃i j,x = .str i/\y = .str j/\Q (.bl (!(cF j i 0 j.length 1).isEmpty)) H) (Kb aB):=λH x y a b l fa fb ha hb e Q k=>by
 unfold Kb at e;split at e
 ·cases e
  exact⟨_,_,ha.str_inv.1,hb.str_inv.1,by
   have:=k (.bl (aB != !(cF _ _ 0 _ 1).isEmpty)) H [] (Same.refl H) (Is.bl _) λp hp=>by simp at hp
   simpa using this⟩
 ·cases e
section
variable {X:Cx} {a b:aw} {fa fb:XE} {pos:dm}
theorem Bz(ha:VE X a fa)(hb:VE X b fb)(hm:cP .In b=aB:=by rfl):VE X (.Compare a [.In] [b] pos) (Zh (Kb aB) fa fb):=LP J1 By ha hb hm
end
def Nc(x:aR):List PV:=x.cps.toList.map λc=>.str ⟨#[c]⟩
def Its(x:aR):It:=⟨λi _=>i<x.cps.size,λi H v H'=>H'=H/\∃c,x.cps[i]?=aA c/\v = .str ⟨#[c]⟩,λi _=>x.cps.size<=i⟩
theorem MT{P:bC}{w:b6}{K:aG}{tg:aw}(it:aH)(x:aR)(t:mR)(ty:String)
  (hn:["enumerate","zip","dict_itemiterator","dict_reverseitemiterator","odict_iterator","itertools.zip_longest","itertools.pairwise"].contains ty=aB)
  (W:∀A:b5,A.handled=none->Walks P w A it [it] [it] x.cps.size (SignAt x) (λi h=>h.IsStrIter it ty x t i))
  (he:∀(A:b5)(i:Nat)(s:aI)(Q:Option aE->aI->Prop)(E:aE->aI->Prop),A.handled=none->s.heap.IsStrIter it ty x t i->x.cps[i]?=none->(∀h',lT it s.heap h'->Q none { s with heap:=h' })->aZ (model P w) A (k4 (.ref it)) Q E s)
  (hsf:∀(A:b5)(i:Nat)(s:aI)(Q:aE->aI->Prop)(E:aE->aI->Prop),s.heap.IsStrIter it ty x t i->Q (.ref it) s->aZ (model P w) A (lG (.ref it)) Q E s) :
  Mo P w K tg (Its x) [it] it (λi h=>h.IsStrIter it ty x t i) where
 mem:=by simp
 obj:=λi h st b hb=>by
  have e:b=it:=by simpa using hb
  subst e;obtain⟨o,e,c,d⟩:=st;exact⟨o,e,λv z=>by rw[d] at z;cases z⟩
 keep:=λi h h' st k=>by obtain⟨o,e,r⟩:=st;exact⟨o,k it (by simp) o e,r⟩
 item:=by intro X hP hw hK hc i m3 s σ H E I hf st hg;subst hP hw hK;obtain⟨f0,f1,f2,f3,f4,f5⟩:=hf it (by simp);refine(W X.A (I.ok.hd hc)).item i s _ _ hg st λv h' tk hv st' kk=>?_;obtain⟨c,u,hcx,rfl⟩:=hv;have I1:Inv X m3 σ H { s with heap:=h',toks:=tk }:=I.turned (λb o hb e=>kk b o (by simpa using hb) e) f0 f1 f3 f4 f5;obtain⟨o,e,cl,d⟩:=id st';exact⟨_,rfl,KO (s:={ s with heap:=h',toks:=tk }) e cl d hn ⟨.str ⟨#[c]⟩,H,I1,⟨u,rfl⟩,⟨rfl,c,hcx,rfl⟩,st',λb hb=>(hf b hb).1⟩⟩
 done:=by intro X hP hw hK hc i m3 s σ H E I hf st hg;subst hP hw hK;obtain⟨f0,f1,f2,f3,f4,f5⟩:=hf it (by simp);exact he X.A i s _ _ (I.ok.hd hc) st (by have:x.cps.size<=i:=hg;simp;omega) λh' eb=>⟨rfl,I.turned (t':=s.toks) (λb o hb e=>eb b o hb e) f0 f1 f3 f4 f5⟩
 self:=λA i s Q E st h=>hsf A i s Q E st h
def Zbx(tl:TE):TI:=λσ H R=>tl σ H λv H1=>∃x,v = .str x/\R (Its x) H1
theorem BA{X:Cx}{tg l:aw}{tl:TE}(hl:PE X l tl):PI X tg l (Zbx tl):=by
 intro m3 s σ H R I h;refine YD (hl m3 s σ H _ I h) λv s1 ⟨x,H1,I1,r1,q1⟩=>?_;obtain⟨z,rfl,q⟩:=q1;obtain⟨t,rfl⟩:=r1
 have fpo:∀b∈[s1.heap.objs.size],Ti X m3 H1 b:=λb hb=>by
  have e:b=s1.heap.objs.size:=by simpa using hb
  subst e;exact I1.fpOk (ar _) (I1.hok.fresh (ar _))
 cases ha:z.cps.all (· < 128)
 ·exact wpAny_pyIter_wide ha ⟨s1.heap.objs.size,[s1.heap.objs.size],_,_,H1,rfl,I1.kept (t':=s1.toks) λb o e=>aM _ e,MT _ z t "str_iterator" (by decide) (λA' hA=>Walks.strWide hA _ z t) (λA i s Q E hA st hx k=>wpAny_pyNext_wide_end hA st hx k) (λA i s Q E st k=>wpAny_pyIter_striter_wide st k),⟨_,bD _ rfl,rfl,rfl⟩,fpo,q⟩
 ·exact wpAny_pyIter_ascii ha ⟨s1.heap.objs.size,[s1.heap.objs.size],_,_,H1,rfl,I1.kept (t':=s1.toks) λb o e=>aM _ e,MT _ z t "str_ascii_iterator" (by decide) (λA' hA=>Walks.strAscii hA _ z t) (λA i s Q E hA st hx k=>wpAny_pyNext_ascii_end hA st hx k) (λA i s Q E st k=>wpAny_pyIter_striter_ascii st k),⟨_,bD _ rfl,rfl,rfl⟩,fpo,q⟩
def PR(f:XE):XL:=λs=>match f s with | some (.str x)=>aA (Nc x) | _=>none
theorem IC{f:XE}{s:ZS}{m:List PV}(h:PR f s=aA m):∃x,f s=aA (.str x)/\m=Nc x:=by
 unfold PR at h;split at h
 ·cases h;exact⟨_,by assumption,rfl⟩
 ·cases h
theorem Gu{X:Cx}{tg e:aw}{f:XE}(h:VE X e f):VI X tg e (PR f):=PI.imp (BA h) λσ H R ⟨Rm,s,ls,hd,env,e,k⟩=>by
 obtain⟨x,e1,rfl⟩:=IC e;refine⟨Rm,s,.str x,hd,env,e1,λv H1 fp s1 i1 n1=>⟨x,i1.str_inv.1,k _ H1 s1 ⟨λH' ab=>?_,λH' i l ab hl=>?_,λH' i l v H'' ab hl y=>?_⟩⟩⟩
 ·show x.cps.size<=(Nc x).length;simp[Nc]
 ·have:=(aL.mp hl).1;show i<x.cps.size;simpa [Nc] using this
 ·obtain⟨rfl,c,hc,rfl⟩:=y;unfold Nc at hl;rw[aS] at hl;have e2:x.cps.toList[i]?=aA c:=by simpa using hc
  rw[e2] at hl;cases hl;exact⟨Same.refl _,[],Is.str _,λp hp=>by simp at hp⟩
end VL
namespace VL
open PySem PySem.Spec PyProof.Rows L2
variable {K:aG}
def gStarts:PV->PV->Option PV
 | .str a,.str b=>aA (.bl (Txt.startswith a b))
 | _,_=>none
def A6:R2:=λx y H Q=>∃i j,x = .str i/\y = .str j/\Q (.bl (!decide (j.cps.toList<i.cps.toList))) H
theorem Gv{X:Cx}:UA X (ba .LtE) A6:=by intro m3 s σ H x y v u Q I rx ry h;obtain⟨i,j,rfl,rfl,q⟩:=h;obtain⟨t,rfl⟩:=rx;obtain⟨t',rfl⟩:=ry;exact P.le_str ⟨.bl _,H,I,rfl,q⟩
def Qo:PV->PV->Option PV
 | .str i,.str j=>aA (.bl (!decide (j.cps.toList<i.cps.toList)))
 | _,_=>none
theorem Gw:RB K A6 Qo:=λH x y a b l fa fb ha hb e Q k=>by
 unfold Qo at e;split at e
 ·cases e;exact⟨_,_,ha.str_inv.1,hb.str_inv.1,k _ H [] (Same.refl H) (Is.bl _) λp hp=>by simp at hp⟩
 ·cases e
instance (x:aR) (n:Int):Decidable (MulOk x n):=by unfold MulOk;infer_instance
end VL
namespace VL
open PySem PySem.Spec PyProof.Rows L2
variable {K:aG}
def Cd:V->List V->Hp->VK->Prop:=λx vs H Q=>∃a b,x = .str a/\vs=[.str b]/\Q (.int (cj a b)) H
theorem Q5{X:Cx}:C5 X "str.find" Cd:=by intro m3 s σ H x vs v us Q I rx rv h;obtain⟨a,b,rfl,rfl,q⟩:=h;obtain⟨t,rfl⟩:=rx;obtain⟨u,rfl,ru⟩:=VP rv;obtain⟨t',rfl⟩:=ru;exact SC.find ⟨.int _,H,I.tok _,⟨_,rfl⟩,q⟩
def V0:PV->PV->Option PV
 | .str a,.str b=>aA (.int (cj a b))
 | _,_=>none
theorem Q7:RB K (λx y H Q=>Cd x [y] H Q) V0:=λH x y a b l fa fb ha hb e Q k=>by
 unfold V0 at e;split at e
 ·cases e;exact⟨_,_,ha.str_inv.1,by rw[hb.str_inv.1],k _ H [] (Same.refl H) (Is.int _) λp hp=>by simp at hp⟩
 ·cases e
theorem Si:∀a b l,V0 a b=aA l->∃x,a = .str x:=λa b l e=>by
 unfold V0 at e;split at e
 ·exact⟨_,rfl⟩
 ·cases e
end VL
namespace VX
open PySem PySem.Spec PyProof.Rows L2
structure Eff(fs ch:List aH)(h h':bV):Prop where
 keep:∀b o,h.get? b=aA o->b∉ch->b∉fs->h'.get? b=aA o
 slot:∀b o,h.get? b=aA o->b∉ch->b∈fs->∃sl,h'.get? b=aA { o with slots:=sl }
 there:∀b o,h.get? b=aA o->∃o',h'.get? b=aA o'
theorem Eff.refl{fs ch:List aH}{h:bV}:Eff fs ch h h:=⟨λ_ _ e _ _=>e,λ_ o e _ _=>⟨o.slots,e⟩,λ_ o e=>⟨o,e⟩⟩
theorem Eff.trans{fs ch:List aH}{h h1 h2:bV}(x:Eff fs ch h h1)(y:Eff fs ch h1 h2):Eff fs ch h h2:=
 ⟨λb o e hc hf=>y.keep b o (x.keep b o e hc hf) hc hf,λb o e hc hf=>by
  obtain⟨sl,e1⟩:=x.slot b o e hc hf;obtain⟨sl2,e2⟩:=y.slot b _ e1 hc hf
  exact⟨sl2,e2⟩,λb o e=>by
  obtain⟨o1,e1⟩:=x.there b o e;exact y.there b o1 e1⟩
theorem Eff.mono{fs ch ch':List aH}{h h':bV}(x:Eff fs ch h h')(hs:∀b∈ch,b∈ch'):Eff fs ch' h h':=
 ⟨λb o e hc hf=>x.keep b o e (λz=>hc (hs b z)) hf,λb o e hc hf=>x.slot b o e (λz=>hc (hs b z)) hf,x.there⟩
theorem Eff.field{fs:List aH}{h:bV}{a:aH}{o:ck}{vs:Array aE}{f:Array aE->Array aE}(ha:h.get? a=aA o)(hd:o.data = .fields vs):Eff fs [a] h (h.update a (bq f)):=
  ⟨λb u e hc _=>by rw[bQ _ _ (λz=>hc (by rw[z];exact .head _))];exact e,
   λb u e hc _=>⟨u.slots,by rw[bQ _ _ (λz=>hc (by rw[z];exact .head _))];exact e⟩,
   λb u e=>by
    by_cases q:a=b
    · subst q;exact⟨_,bo _ ha (cw (bY hd f))⟩
    · exact⟨u,by rw[bQ _ _ q];exact e⟩⟩
theorem Eff.funs{fs:List aH}{ch:List aH}{h h' base:bV}{l:List iu}(x:Eff fs ch h h')(hl:h.FunFrames base l)(hc:∀b∈ch,∀o,h.get? b=aA o->∃vs,o.data = .fields vs):h'.FunFrames base l:=
 hl.of_keeps λb o e hn=>by
  have hb:b∉ch:=λz=>by obtain⟨vs,q⟩:=hc b z o e;exact hn vs q
  by_cases hf:b∈fs
  ·obtain⟨sl,q⟩:=x.slot b o e hb hf;exact⟨_,q,rfl⟩
  ·exact⟨o,x.keep b o e hb hf,rfl⟩
section
variable {M:lQ} {A:b5} {E:aE->aI->Prop} {s:aI}
theorem SY{base:bV}{env:iu}{outer:List iu}{L e:aH}{oe:ck}{vs:Array aE}{head:aE}{hadNext:Bool}{Q:Unit->aI->Prop}
  (hfr:A.frames=aA (env::outer)) (hl:s.heap.FunFrames base (env::outer)) (hf:env.frame=aA L)
  (he:s.heap.get? e=aA oe) (hd:oe.data = .fields vs) (hsz:1<vs.size)
  (h:∀h' T,s.heap.objs.size<=T->h'.get? e=aA (oe.mapFields (·.setIfInBounds 1 (.ref T)))->(∃oT ts,h'.get? T=aA oT/\oT.data = .fields ts/\ts[3]?=aA (eE L))->Eff ((env::outer).filterMap (·.frame)) [e] s.heap h'->Q () { s with heap:=h' }) :
  aZ M A (do let a <-frameOf env;let pl <-entryPlaceOf L hadNext;let b <-kR head a .none (eE L) .none pl;setField (.ref e) 1 b) Q E s:=by
 have hene:e∉(env::outer).filterMap (·.frame):=λhm=>by obtain⟨_,o,ho,hnf⟩:=hl.mem hm;rw[he] at ho;injection ho with ho;subst ho;exact hnf vs hd
 refine aF (wpAny_frameOf_fun hfr hl hf λh₁ hs₁=>?_);refine aF (wpAny_entryPlaceOf λpl hpl=>?_);unfold kR newFields;refine aF (dN ?_ (hpl.sizeOk5 _ _ _ _ _));have he₁:h₁.get? e=aA oe:=(hs₁.2.1 e hene).trans he;have he₂:=aM (h:=h₁) { cls:=.type "traceback",dict:=none,data:=.fields ([head,.ref L,.none,eE L,.none]++(if pl.isEmpty then aJ 6 bJ else pl)).toArray } he₁;have hsize:h₁.objs.size=s.heap.objs.size:=hs₁.1;have p1:=bo (bq (·.setIfInBounds 1 (bF h₁.objs.size))) he₂ (cw (bY hd _))
 have p2:=(bQ (h₁.push { cls:=.type "traceback",dict:=none,data:=.fields ([head,.ref L,.none,eE L,.none]++(if pl.isEmpty then aJ 6 bJ else pl)).toArray })
  (bq (·.setIfInBounds 1 (bF h₁.objs.size))) (bO (aT he₁))).trans (bD h₁ rfl)
 have p3:Eff ((env::outer).filterMap (·.frame)) [e] s.heap ((h₁.push { cls:=.type "traceback",dict:=none,data:=.fields ([head,.ref L,.none,eE L,.none]++(if pl.isEmpty then aJ 6 bJ else pl)).toArray }).update e (bq (·.setIfInBounds 1 (bF h₁.objs.size)))):=
  Eff.trans (h1:=h₁) ⟨λb o q _ hb=>(hs₁.2.1 b hb).trans q,λb o q _ _=>hs₁.2.2 b o q,λb o q=>by obtain⟨sl,z⟩:=hs₁.2.2 b o q;exact⟨_,z⟩⟩ (Eff.trans (h1:=h₁.push _) ⟨λb o q _ _=>aM _ q,λb o q _ _=>⟨o.slots,aM _ q⟩,λb o q=>⟨o,aM _ q⟩⟩ (Eff.field he₂ hd))
 refine dQ he₂ hd hsz (h _ h₁.objs.size (by omega) p1 ⟨_,_,p2,rfl,?_⟩ p3);simp
def Gx(h:bV)(e:aH)(cls:aE)(dd:Option aH):Prop:=∃oe vs,h.get? e=aA oe/\oe.cls=cls/\oe.dict=dd/\oe.data = .fields vs/\vs[1]?=aA .none
def QO(h:bV)(e:aH)(cls:aE)(dd:Option aH)(T:aH)(fl:aE):Prop:=
 ∃oe vs oT ts,h.get? e=aA oe/\oe.cls=cls/\oe.dict=dd/\oe.data = .fields vs/\vs[1]?=aA (.ref T)/\T≠e/\h.get? T=aA oT/\oT.data = .fields ts/\ts[3]?=aA fl
theorem V1(o:ck)(f:Array aE->Array aE):(o.mapFields f).dict=o.dict:=by
 unfold bq;split<;>rfl
variable {base:bV} {env:iu} {outer:List iu} {L e T:aH} {cls fl:aE} {dd:Option aH} {Q:Unit->aI->Prop}
theorem Ce(hfr:A.frames=aA (env::outer))(hl:s.heap.FunFrames base (env::outer))(hf:env.frame=aA L)(x:Gx s.heap e cls dd)
  (h:∀h' T,s.heap.objs.size<=T->QO h' e cls dd T (eE L)->Eff ((env::outer).filterMap (·.frame)) [e] s.heap h'->Q () { s with heap:=h' }):aZ M A (fS (.ref e) env) Q E s:=by
 obtain⟨oe,vs,he,hc,hdd,hd,h1⟩:=x;unfold fS;simp only[hf];refine aF (cg he hd h1 ?_);rw[ma (by decide)];have hsz:=(bZ.mp h1).1;refine SY hfr hl hf he hd hsz λh' T hT p1 ⟨oT,ts,p2,p3,p4⟩ p5=>h h' T hT ⟨_,_,oT,ts,p1,(fY _ _).trans hc,(V1 _ _).trans hdd,bY hd _,by simp[hsz],?_,p2,p3,p4⟩ p5;exact gV (af (aT he) hT)
theorem Gy(hfr:A.frames=aA (env::outer))(hl:s.heap.FunFrames base (env::outer))(hf:env.frame=aA L)(x:QO s.heap e cls dd T .none)
  (h:∀h' T',s.heap.objs.size<=T'->QO h' e cls dd T' (eE L)->Eff ((env::outer).filterMap (·.frame)) [e,T] s.heap h'->Q () { s with heap:=h' }):aZ M A (fS (.ref e) env) Q E s:=by
 obtain⟨oe,vs,oT,ts,he,hc,hdd,hd,h1,hTe,hT,hdT,h3⟩:=x;unfold fS;simp only[hf];refine aF (cg he hd h1 ?_);rw[mZ (show(bF T != bJ)=aC from by simp)];refine aF (cg hT hdT h3 ?_);rw[ma (show ¬((bJ==eE L)=aC) from by simp[eE])];refine aF (dQ hT hdT (bZ.mp h3).1 ?_);have hsz:=(bZ.mp h1).1;have ef:Eff ((env::outer).filterMap (·.frame)) [T] s.heap (s.heap.update T (bq (·.setIfInBounds 3 bJ))):=Eff.field hT hdT;have hl':=ef.funs hl (λb hb o q=>by rw[aP.mp hb,hT] at q;cases q;exact⟨_,hdT⟩);have he':=(bQ s.heap (bq (·.setIfInBounds 3 bJ)) hTe).trans he;have hz:(s.heap.update T (bq (·.setIfInBounds 3 bJ))).objs.size=s.heap.objs.size:=by simp
 refine SY (s:={ s with heap:=s.heap.update T (bq (·.setIfInBounds 3 bJ)) }) hfr hl' hf he' hd hsz λh' T' hT' p1 ⟨oT',ts',p2,p3,p4⟩ p5=>h h' T' (by rw[<-hz];exact hT') ⟨_,_,oT',ts',p1,(fY _ _).trans hc,(V1 _ _).trans hdd,bY hd _,by simp[hsz],?_,p2,p3,p4⟩ ?_
 ·have hT':(s.heap.update T (bq (·.setIfInBounds 3 bJ))).objs.size<=T':=hT';rw[hz] at hT';exact gV (af (aT he) hT')
 ·exact(ef.mono λb hb=>by simp at hb;simp[hb]).trans (p5.mono λb hb=>by simp at hb;simp[hb])
theorem Qp(x:QO s.heap e cls dd T fl){fs:List aH}(h:∀h',QO h' e cls dd T .none->Eff fs [T] s.heap h'->h'.objs.size=s.heap.objs.size->Q () { s with heap:=h' }):aZ M A (jP (.ref e) none) Q E s:=by obtain⟨oe,vs,oT,ts,he,hc,hdd,hd,h1,hTe,hT,hdT,h3⟩:=x;have hsz:=(bZ.mp h3).1;unfold jP;refine aF (cg he hd h1 ?_);rw[mZ (show(bF T != bJ)=aC from by simp)];refine dQ hT hdT hsz (h _ ⟨oe,vs,_,_,(bQ _ _ hTe).trans he,hc,hdd,hd,h1,hTe,bo _ hT (cw (bY hdT _)),bY hdT _,by simp[hsz]⟩ (Eff.field hT hdT) (by simp))
theorem Gz(hfr:A.frames=aA (env::outer))(hl:s.heap.FunFrames base (env::outer))(hf:env.frame=aA L)(x:Gx s.heap e cls dd)
  (h:∀h' T,s.heap.objs.size<=T->QO h' e cls dd T .none->Eff ((env::outer).filterMap (·.frame)) [e] s.heap h'->Q () { s with heap:=h' }):aZ M A (leaving env (.ref e)) Q E s:=by
 unfold leaving;refine aF (Ce hfr hl hf x λh1 T hT x1 e1=>?_);refine Qp x1 (fs:=(env::outer).filterMap (·.frame)) λh2 x2 e2 _=>h h2 T hT x2 ?_;have nT:∀b o,s.heap.get? b=aA o->b≠T:=λb o q z=>by subst z;exact cI _ (af (aT q) hT)
 exact⟨λb o q hc hf=>e2.keep b o (e1.keep b o q hc hf) (by simpa using nT b o q) hf,λb o q hc hf=>by
  obtain⟨sl,q1⟩:=e1.slot b o q hc hf;obtain⟨sl2,q2⟩:=e2.slot b _ q1 (by simpa using nT b o q) hf
  exact⟨sl2,q2⟩,λb o q=>by
  obtain⟨o1,q1⟩:=e1.there b o q;exact e2.there b o1 q1⟩
theorem GA(hfr:A.frames=aA (env::outer))(hl:s.heap.FunFrames base (env::outer))(hf:env.frame=aA L)(x:QO s.heap e cls dd T .none)
  (h:∀h' T',s.heap.objs.size<=T'->QO h' e cls dd T' .none->Eff ((env::outer).filterMap (·.frame)) [e,T] s.heap h'->Q () { s with heap:=h' }):aZ M A (leaving env (.ref e)) Q E s:=by
 unfold leaving;refine aF (Gy hfr hl hf x λh1 T' hT x1 e1=>?_);refine Qp x1 (fs:=(env::outer).filterMap (·.frame)) λh2 x2 e2 _=>h h2 T' hT x2 ?_;have nT:∀b o,s.heap.get? b=aA o->b≠T':=λb o q z=>by subst z;exact cI _ (af (aT q) hT)
 exact⟨λb o q hc hf=>e2.keep b o (e1.keep b o q hc hf) (by simpa using nT b o q) hf,λb o q hc hf=>by
  obtain⟨sl,q1⟩:=e1.slot b o q hc hf;obtain⟨sl2,q2⟩:=e2.slot b _ q1 (by simpa using nT b o q) hf
  exact⟨sl2,q2⟩,λb o q=>by
  obtain⟨o1,q1⟩:=e1.there b o q;exact e2.there b o1 q1⟩
end
section
variable {P:bC} {w:b6} {fs ch:List aH} {H:Hp} {h h':bV}
theorem Jp(x:HOk P w H h)(e:Eff fs ch h h')(hc:∀b∈ch,H b=none)(hf:∀b∈fs,H b=none):HOk P w H h':=λa o ha=>
 (x a o ha).stay (λb u hb q=>by
  have hb':∃o',H b=aA o':=by
   rcases hb with z | z
   ·exact⟨o,by rw[z];exact ha⟩
   ·exact⟨_,z⟩
  obtain⟨o',hb'⟩:=hb';exact e.keep b u q (λz=>by rw[hc b z] at hb';cases hb') (λz=>by rw[hf b z] at hb';cases hb')) (λ_ q=>q) λ_ _ q=>q
end
def Fl(H':Hp)(h0 h:bV)(e:aH)(cls:aE)(dd:Option aH):Prop:=∃T,QO h e cls dd T .none/\H' e=none/\H' T=none/\h0.get? e=none/\h0.get? T=none
def EZ(P:bC)(w:b6):HL:=λouter H s E v s'=>
 ∃e cls dd H',v = .ref e/\s'.os=s.os/\iG s'.gens/\Un (Nz outer) [] H H' s.heap s'.heap/\HOk P w H' s'.heap/\Fl H' s.heap s'.heap e cls dd/\E cls dd H'
section
variable {X:Cx} {m3:List (aH×ck)} {σ:L2.St} {H:Hp} {s:aI} {e:aH} {cls:aE} {dd:Option aH} {E:XK}
structure RH(X:Cx)(E:XK):Prop where
 stk:X.stack=X.env::X.outer
 fr:X.env.frame=aA X.env.locals
 ex:X.ex=[]
 xe:X.xe=λv s'=>aZ (model X.prog X.w) X.A (leaving X.env v) (λ_ s''=>EZ X.prog X.w X.outer X.H₀ X.s₀ E v s'') (λv' s''=>EZ X.prog X.w X.outer X.H₀ X.s₀ E v' s'') s'
theorem Sj(D:RH X E)(I:Inv X m3 σ H s){ch:List aH}{h':bV}{T:aH}(hT:X.s₀.heap.get? T=none)(he:X.s₀.heap.get? e=none)(hH:H e=none)(hHT:H T=none)(hc:∀b∈ch,H b=none/\X.s₀.heap.get? b=none)(x:QO h' e cls dd T .none)
  (ef:Eff ((X.env::X.outer).filterMap (·.frame)) ch s.heap h') (q:E cls dd H):EZ X.prog X.w X.outer X.H₀ X.s₀ E (.ref e) { s with heap:=h' }:=by
 have hf:∀b∈(X.env::X.outer).filterMap (·.frame),H b=none:=λb hb=>by have:=I.stkFree b;rw[D.stk] at this;exact this hb
 refine⟨e,cls,dd,H,rfl,I.os,I.bare,?_,Jp I.hok ef (λb hb=>(hc b hb).1) hf,⟨T,x,hH,hHT,he,hT⟩,q⟩;have ub:=I.base;have lt:∀b o,X.s₀.heap.get? b=aA o->b∉ch:=λb o z hb=>by rw[(hc b hb).2] at z;cases z
 have nL:∀b o,X.s₀.heap.get? b=aA o->b≠X.env.locals:=λb o z hb=>by subst hb;exact cI _ (af (aT z) I.ok.above)
 have mem:∀b o,X.s₀.heap.get? b=aA o->(b∈(X.env::X.outer).filterMap (·.frame)↔b∈Nz X.outer):=λb o z=>by rw[jE D.fr,aV];exact⟨λh=>h.elim (λq=>absurd q (nL b o z)) λq=>q,.inr⟩
 have nex:∀b:aH,b∉X.ex:=λb z=>by rw[D.ex] at z;simp at z
 refine⟨λb o z n hb _=>?_,λb o z n hb _=>?_,λb o z n _=>ub.free b o z n (nex b),λb o z _=>?_,ub.tups,ub.frzs,ub.tbls⟩
 ·exact ef.keep b o (ub.keep b o z n hb (nex b)) (lt b o z) (λq=>hb ((mem b o z).mp q))
 ·obtain⟨sl,z1⟩:=ub.slot b o z n hb (nex b);obtain⟨sl2,z2⟩:=ef.slot b _ z1 (lt b o z) ((mem b o z).mpr hb);exact⟨sl2,z2⟩
 ·obtain⟨o1,z1⟩:=ub.there b o z (nex b);exact ef.there b o1 z1
theorem GB(D:RH X E)(I:Inv X m3 σ H s)(x:Gx s.heap e cls dd)(he:X.s₀.heap.get? e=none)(hH:H e=none)(q:E cls dd H):X.xe (.ref e) s:=by rw[D.xe];have hst:=I.stack;rw[D.stk] at hst;have hfr:=I.ok.frames;rw[D.stk] at hfr;refine Gz hfr hst D.fr x λh' T hT x' ef=>?_;exact Sj D I (cZ (bu I.sz hT)) he hH (I.hok.fresh hT) (λb hb=>by rw[aP.mp hb];exact⟨hH,he⟩) x' ef q
theorem Jq{E':XK}(D:RH X E)(hE:∀cls dd H',E' cls dd H'->E cls dd H'):NC (EZ X.prog X.w) X E':=λm3 σ H s v s' I hx=>by
 obtain⟨e,cls,dd,H',rfl,hos,hg,u,hok,⟨T,x,hH,hHT,he,hT⟩,q⟩:=hx;have I':Inv X m3 σ H' s':=I.call' hos u hok hg λb hb=>nomatch hb;rw[D.xe];have hst:=I'.stack;rw[D.stk] at hst;have hfr:=I'.ok.frames;rw[D.stk] at hfr;refine GA hfr hst D.fr x λh' T' hT' x' ef=>?_
 have old:∀b:aH,s.heap.get? b=none->X.s₀.heap.get? b=none:=λb z=>by
  cases r:X.s₀.heap.get? b with
  | none=>rfl
  | some o=>
   obtain⟨o',r'⟩:=I.base.there b o r (by rw[D.ex];simp);rw[z] at r';cases r'
 exact Sj D I' (cZ (bu I'.sz hT')) (old e he) hH (I'.hok.fresh hT') (λb hb=>by
  rcases aV.mp hb with z | z
  ·rw[z];exact⟨hH,old e he⟩
  ·rw[aP.mp z];exact⟨hHT,old T hT⟩) x' ef (hE _ _ _ q)
theorem XC{P:bC}{w:b6}{K:aG}{mg:aR->Option aE}{base:bV}{N:List aR}{qual:aR}{scope:fJ}{f:aH}{cd:aE}{A:b5}{outer:List iu}{s:aI}{H:Hp}{E:XK} :
  RH (R7 (EZ P w) P w K mg base N qual scope f cd A outer s H E) E:=⟨rfl,rfl,rfl,rfl⟩
end
theorem BB{K:aG}{h:bV}{C:aH}{bmB:List aE}{newId:String}(X:K.In h)(q:gK K C bmB newId=aC) :
  ∃bm N nm qn bs hdct sn sub ab col dd k0 k1 k2 k3 k5 mN,h.get? C=aA (cR nm qn C N bs bm hdct sn sub ab col dd k0 k1 k2 k3 k5 newId)/\h.Ns N mN/\mN "__init__" = none/\j9 h bmB bm:=by
 unfold gK at q;split at q
 ·rename_i dd cd sl ho;split at q
  ·rename_i C' bm k0 k1 k2 k3 n k5 hm hs;simp only[bE,beq_iff_eq,ku] at q;obtain⟨⟨⟨⟨⟨rfl,rfl⟩,hdel⟩,ht⟩,hok⟩,hni⟩:=q;obtain⟨nm,bs,mro,ns,qn,hd,sn,sub,ab,col,del⟩:=cd
   dsimp only at hm hdel hok hni
   subst hm hdel;have hsl:sl = #[k0,k1,k2,k3,aA (.builtin n),k5]:=by obtain⟨l⟩:=sl;simp only at hs;rw[hs]
   subst hsl;exact⟨bm,ns,nm,qn,bs,hd,sn,sub,ab,col,dd,k0,k1,k2,k3,k5,_,X _ _ ho,.of_isNs (PySem.W.isNs_of_in X hok),PySem.W.nsMap_none_of_in X hok hni,PySem.W.tail_of_in X ht⟩
  ·cases q
 ·cases q
theorem ID{P:bC}{w:b6}{H:Hp}{h:bV}{a:aH}{o:HO}(x:ObjOk P w H h a o):∃ob,h.get? a=aA ob:=by
 cases o with
 | lst xs=>obtain⟨_,_,_,_,e⟩:=x;exact⟨_,e⟩
 | tup xs=>obtain⟨_,_,_,p⟩:=x;obtain⟨ob,e,_⟩:=p;exact⟨_,e⟩
 | dK m4=>obtain⟨_,_,_,_,o,_,_,e,_⟩:=x;exact⟨_,e⟩
 | dT m4=>obtain⟨_,_,_,_,o,_,_,e,_⟩:=x;exact⟨_,e⟩
 | set S n=>obtain⟨o,_,_,_,e,_⟩:=x;exact⟨_,e⟩
 | ins C dx fs=>obtain⟨_,_,_,e,_⟩:=x;exact⟨_,e⟩
 | own y=>exact x
 | xd fs=>obtain⟨_,⟨_,_,_,e,_⟩,_⟩:=x;exact⟨_,e⟩
 | rng lo hi=>obtain⟨_,_,_,e⟩:=x;exact⟨_,e⟩
 | frz ob u=>exact⟨_,x.1⟩
 | tbl ps=>exact⟨_,x⟩
 | met f y=>exact⟨_,x⟩
 | ext φ=>exact x.2.1
section
variable {X:Cx} {E:XK} {C:aH} {bmB:List aE} {B newId initId:String} {x:aR} {np m7 pos:dm} {a:aw} {ta:TE}
theorem GC(F:eY B newId initId bmB)(hq:gK X.K C bmB newId=aC)(hg:Gl X x)(hm:X.mg x=aA (.ref C))(hcalm:X.calm=aC)(DX:RH X E)(ha:PE X a ta)
  (hdb:(x==("__debug__" : aR))=aB:=by decide) (he:aO [a] X.env=(aB,eval a X.env)::aO [] X.env:=by rfl):PS X (.Raise (aA (.Call (.Name x np) [a] [] m7)) none pos) (λ_ σ H=>ta σ H λv H1=>[v].length=1/\E (.ref C) none H1):=by
 intro m3 s σ H D I h;have X0:X.K.In X.base:=I.ok.mod.kin;obtain⟨bm,N,nm,qn,bs,hdct,sn,sub,ab,col,dd,k0,k1,k2,k3,k5,mN,hC,hN,hni,TL⟩:=BB X0 hq;refine wpAny_Raise_call_subT (nm:=nm) (q:=qn) (N:=N) (bs:=bs) (hdct:=hdct) (sn:=sn) (sub:=sub) (ab:=ab) (col:=col) (dd:=dd) (k0:=k0) (k1:=k1) (k2:=k2) (k3:=k3) (k5:=k5) F (mN:=mN) (TL.hasType F.hasBase) (I.ok.hd hcalm) (by rw[he];rfl) hni (Wl I hg hm ⟨rfl,?_⟩ hdb);have pa:PA X [a] (UC ta NB):=Yh ha XI (hs:=he)
 have key:aZ (model X.prog X.w) X.A (spliced (cL m7 (aO [a] X.env))) (λus s₂=>us.length<=sizeLine/\s₂.heap.get? C=aA (cR nm qn C N bs bm hdct sn sub ab col dd k0 k1 k2 k3 k5 newId)/\s₂.heap.Ns N mN/\j9 s₂.heap bmB bm/\
    ∀h' e,bV.MadeExcOf s₂.heap h' e (.ref C) us->X.xe (.ref e) { s₂ with heap:=h' }) X.xe s:=by
  refine YD (pa m7 m3 s σ H (λvs H1=>vs.length=1/\E (.ref C) none H1) I h) λus s₂ ⟨vs,H1,I1,r,hl,q⟩=>?_;have lu:us.length=1:=by rw[<-r.length];exact hl
  refine⟨by rw[lu];decide,I1.bk _ _ hC,hN.keeps I1.bk,TL.keeps I1.bk,λh' e hm=>?_⟩;have I2:Inv X m3 σ H1 { s₂ with heap:=h' }:=I1.kept (t':=s₂.toks) hm.keeps;obtain⟨t,ht,_,_⟩:=hm.there;refine GB DX I2 ⟨_,_,ht,rfl,rfl,rfl,rfl⟩ ?_ ?_ q
  ·cases z:X.s₀.heap.get? e with
   | none=>rfl
   | some o=>
    obtain⟨o',z'⟩:=I1.base.there e o z (by rw[DX.ex];simp);rw[hm.new] at z';cases z'
  ·cases z:H1 e with
   | none=>rfl
   | some o=>
    obtain⟨o',z'⟩:=ID (I1.hok e o z);rw[hm.new] at z';cases z'
 rw[he] at key ⊢;exact gA (ay key (λus s₂ h2=>⟨rfl,h2⟩) λ_ _ z=>z)
end
end VX
namespace PySem
open Sem (wp)
section
variable {prog:bC} {w:b6} {A:b5} {E:aE->aI->Prop} {h:bV} {g:Array kh} {d:Drawn} {t:Nat} {os:OsState}
variable {nm q:aR} {C N:aH} {bs bm bmB:List aE} {hdct:Bool} {sn:List aR} {sub:List aE} {ab:Bool} {col:Option Bool} {dd:Option aH} {k0 k1 k2 k3 k5:Option aE} {B newId initId:String}
theorem V9(F:eY B newId initId bmB)(T:j9 h bmB bm){mN:aR->Option aE}{m6:List aE}{fI:aH}{oI:ck}{Q:Fin->aI->Prop}
  (hC:h.get? C=aA (cR nm q C N bs bm hdct sn sub ab col dd k0 k1 k2 k3 k5 newId)) (hn:h.Ns N mN) (hi:mN "__init__" = aA (.ref fI))
  (hfI:h.get? fI=aA oI) (hfc:oI.cls = .type "function")
  (hq:∀h',(∀b o,h.get? b=aA o->h'.get? b=aA o)->h'.get? (h.objs.size+1)=aA { cls:=.ref C,data:=.fields #[.ref h.objs.size,.none,.none,.none,.bool aB,.none] }->
   aZ (model prog w) A (call (.ref fI) (.ref (h.objs.size+1)::m6)) (λr s'=>r = .none/\Q (.done (.ret (.ref (h.objs.size+1)))) s') E ⟨h',g,d,t,os⟩) (hrest:m6.length<=sizeLine:=by size_fits) :
  aZ (model prog w) A (Builtin.«type.__call__» ⟨.ref C::m6,[]⟩) Q E ⟨h,g,d,t,os⟩:=by
 repeat (first | with_reducible refine bc hC ?_ | with_reducible refine wpAny_madeBy_exc hC ?_ | wp_step)
 refine codeAny_call_builtin_code (kc _ F.quiet) (wpAny_check_new_subT F T hC ?_);refine codeAny_exc_new_subT F T hC ?_ hrest;show aZ _ _ _ _ _ _
 have hC₁:=aM { cls:=.ref C,data:=.fields #[.ref h.objs.size,.none,.none,.none,.bool aB,.none] }
  (aM { cls:=.type "tuple",data:=.seq m6.toArray } hC)
 have hfI₁:=aM { cls:=.ref C,data:=.fields #[.ref h.objs.size,.none,.none,.none,.bool aB,.none] }
  (aM { cls:=.type "tuple",data:=.seq m6.toArray } hfI)
 have hn₁:((h.push { cls:=.type "tuple",data:=.seq m6.toArray }).push { cls:=.ref C,data:=.fields #[.ref h.objs.size,.none,.none,.none,.bool aB,.none] }).Ns N mN:=
  let⟨o,es,ep,e,r⟩:=hn;⟨o,es,ep,aM _ (aM _ e),r⟩
 have hget:((h.push { cls:=.type "tuple",data:=.seq m6.toArray }).push
   { cls:=.ref C,data:=.fields #[.ref h.objs.size,.none,.none,.none,.bool aB,.none] }).get? (h.objs.size+1)=aA
   { cls:=.ref C,data:=.fields #[.ref h.objs.size,.none,.none,.none,.bool aB,.none] }:=by heap_get
 have hcC:(bF C::bm).contains (.ref C)=aC:=by simp
 have T₁:=T.keeps (h':=(h.push { cls:=.type "tuple",data:=.seq m6.toArray }).push { cls:=.ref C,data:=.fields #[.ref h.objs.size,.none,.none,.none,.bool aB,.none] })
  λb o e=>aM _ (aM _ e)
 unfold ja
 repeat (first | with_reducible refine bc hget ?_ | (with_reducible refine cS hC₁ ?_;rw[hcC]) | wp_step)
 show aZ _ _ (la (.ref C) _) _ _ _;refine wpAny_typeLookup_tail hC₁ hn₁ T₁ F.mroIs F.init.lookup ?_;rw[hi];refine dY (aF ?_);unfold bindSpecial;refine aF (wpAny_typeOf (T:="function") ⟨_,hfI₁,hfc⟩ ?_);rw[mZ (by decide)];refine aa (aF (ay (hq _ (λb o hb=>aM _ (aM _ hb)) hget) (λr s' hr=>?_) λ_ _ x=>x));obtain⟨rfl,hQ⟩:=hr
 wp_walk
 exact hQ
theorem TN(F:eY B newId initId bmB)(T:j9 h bmB bm){mN:aR->Option aE}{m6:List aE}{fI:aH}{oI:ck}{Q:aE->aI->Prop}
  (hC:h.get? C=aA (cR nm q C N bs bm hdct sn sub ab col dd k0 k1 k2 k3 k5 newId)) (hn:h.Ns N mN) (hi:mN "__init__" = aA (.ref fI))
  (hfI:h.get? fI=aA oI) (hfc:oI.cls = .type "function")
  (hq:∀h',(∀b o,h.get? b=aA o->h'.get? b=aA o)->h'.get? (h.objs.size+1)=aA { cls:=.ref C,data:=.fields #[.ref h.objs.size,.none,.none,.none,.bool aB,.none] }->
   aZ (model prog w) (A.under (.builtin "type.__call__" ⟨.ref C::m6,[]⟩)) (call (.ref fI) (.ref (h.objs.size+1)::m6)) (λr s'=>r = .none/\Q (.ref (h.objs.size+1)) s') E ⟨h',g,d,t,os⟩) (hrest:m6.length<=sizeLine:=by size_fits) :
  aZ (model prog w) A (call (.ref C) m6) Q E ⟨h,g,d,t,os⟩:=by
 have f1:=tc_lookup;have f2:=tc_bind (.ref C);have hT:(⟨h,g,d,t,os⟩:aI).TypeIs (.ref C) "type":=⟨_,hC,rfl⟩;refine f9 (codeAny_of_tree ?_);show aZ _ _ (callAny (.ref C) _) _ _ _
 repeat (any_goals (first | assumption | with_reducible refine bc hC ?_ | wp_step))
 refine⟨rfl,?_⟩;refine codeAny_call_builtin_at (kc _ (by decide +kernel)) entry_typeCall (wpAny_check_type_call_sub hC (V9 (hrest:=hrest) F T hC hn hi hfI hfc λh' k1' k2'=>?_));exact hq h' k1' k2'
end
section
variable {M:lQ} {A:b5} {E:aE->aI->Prop} {env:iu}
variable {nm q:aR} {C N:aH} {bs bm bmB:List aE} {hdct:Bool} {sn:List aR} {sub:List aE} {ab:Bool} {col:Option Bool} {dd:Option aH} {k0 k1 k2 k3 k5:Option aE} {B newId initId:String}
theorem Ua{s:aI}{x:Sem aE}{Q:Flow->aI->Prop}(hbase:bm.contains (.type "BaseException")=aC)(hh:A.handled=none)
  (h:aZ M A x (λv s₁=>∃e t dx,v = .ref e/\s₁.heap.get? C=aA (cR nm q C N bs bm hdct sn sub ab col dd k0 k1 k2 k3 k5 newId)/\
   s₁.heap.get? e=aA { cls:=.ref C,dict:=dx,data:=.fields #[.ref t,.none,.none,.none,.bool aB,.none] }/\E (.ref e) s₁) E s) :
  aZ M A (raiseStmt env (aA x) none) Q E s:=by
 have hcB:(bF C::bm).contains (.type "BaseException")=aC:=by rw[eO,hbase,g7]
 unfold raiseStmt;refine aF (ay h (λv s₁ h₁=>?_) λ_ _ x=>x);obtain⟨e,t,dx,rfl,hC,he,hE⟩:=h₁;obtain⟨hp,g,d,tk,os⟩:=s₁
 repeat (first | with_reducible refine bc he ?_ | with_reducible refine bc hC ?_ | (with_reducible refine cS hC ?_;rw[hcB]) | wp_step)
 exact wpAny_raiseNew_none hh hE
end
section
variable {prog:bC} {w:b6} {A:b5} {E:aE->aI->Prop} {s:aI} {env:iu}
variable {nm q:aR} {C N:aH} {bs bm bmB:List aE} {hdct:Bool} {sn:List aR} {sub:List aE} {ab:Bool} {col:Option Bool} {dd:Option aH} {k0 k1 k2 k3 k5:Option aE} {B newId initId:String}
theorem U1(F:eY B newId initId bmB){mN:aR->Option aE}{x:aR}{np m7 pos:dm}{args:List aw}{Q:Flow->aI->Prop}{fI:aH}{oI:ck}
  (hbase:bm.contains (.type "BaseException")=aC) (hh:A.handled=none) (hplain:(cL m7 (aO args env)).any (·.1)=aB) (hi:mN "__init__" = aA (.ref fI)) (hfc:oI.cls = .type "function")
  (h:aZ (model prog w) A (eval (.Name x np) env) (λf s₁=>f = .ref C/\aZ (model prog w) A (evalArgs (.ref C) aC (cL m7 (aO args env)) [])
   (λa s₂=>a.kw=[]/\a.pos.length<=sizeLine/\s₂.heap.get? C=aA (cR nm q C N bs bm hdct sn sub ab col dd k0 k1 k2 k3 k5 newId)/\s₂.heap.Ns N mN/\j9 s₂.heap bmB bm/\s₂.heap.get? fI=aA oI/\
    ∀h',(∀b o,s₂.heap.get? b=aA o->h'.get? b=aA o)->h'.get? (s₂.heap.objs.size+1)=aA { cls:=.ref C,data:=.fields #[.ref s₂.heap.objs.size,.none,.none,.none,.bool aB,.none] }->
     aZ (model prog w) (A.under (.builtin "type.__call__" ⟨.ref C::a.pos,[]⟩)) (call (.ref fI) (.ref (s₂.heap.objs.size+1)::a.pos)) (λr s₃=>r = .none/\∃t dx,s₃.heap.get? C=aA (cR nm q C N bs bm hdct sn sub ab col dd k0 k1 k2 k3 k5 newId)/\
      s₃.heap.get? (s₂.heap.objs.size+1)=aA { cls:=.ref C,dict:=dx,data:=.fields #[.ref t,.none,.none,.none,.bool aB,.none] }/\E (.ref (s₂.heap.objs.size+1)) s₃) E { s₂ with heap:=h' }) E s₁) E s) :
  aZ (model prog w) A (exec (.Raise (aA (.Call (.Name x np) args [] m7)) none pos) env) Q E s:=by
 rw[arm_exec_Raise];refine aF (fO (Ua (C:=C) (nm:=nm) (q:=q) (N:=N) (bs:=bs) (bm:=bm) (hdct:=hdct) (sn:=sn) (sub:=sub) (ab:=ab) (col:=col) (dd:=dd) (k0:=k0) (k1:=k1) (k2:=k2) (k3:=k3) (k5:=k5) (newId:=newId) hbase hh ?_));refine aF (ay (wpAny_Call_ofName (ay h (λf s₁ h₁=>?_) λ_ _ x=>x)) (λv s₃ h₃=>aF (fO (aa h₃))) λ_ _ x=>x);obtain⟨rfl,h₁⟩:=h₁;unfold callWith;refine aF (dY (ay h₁ (λa s₂ h₂=>aF (fO ?_)) λ_ _ x=>x));obtain⟨apos,akw⟩:=a;obtain⟨hkw,hlen,hC,hn,T,hfI,h₂⟩:=h₂;obtain rfl:akw=[]:=hkw;obtain⟨hp,g,d,tk,os⟩:=s₂;simp only[hplain];refine aF (wpAny_keeperOf_exc hC ?_);refine aF (TN (hrest:=hlen) F T hC hn hi hfI hfc λh' k1' k2'=>ay (h₂ h' k1' k2') (λr s' hr=>⟨hr.1,aF (dY (wpAny_point (aa ?_)))⟩) λ_ _ x=>x);obtain⟨_,t,dx,a1,a2,a3⟩:=hr;exact⟨_,t,dx,rfl,a1,a2,a3⟩
end
end PySem
namespace VX
open PySem PySem.W PySem.Spec PyProof.Rows Builtin Builtin.ObjectAttr
def Kc:List aE:=[.type "ValueError",.type "Exception",.type "BaseException",.type "object"]
def Kd:List aE->Bool
 | .ref _::r=>Kd r
 | l=>l==Kc
def veOver(K:Frag)(C:aH):Bool:=(clsIn K C).any λcd=>Kd cd.mro
theorem E1{l:List aE}(h:Kd l=aC):(∀self,refuseLoop self "__setattr__" l=pure ())/\l.contains (.type "object")=aC/\l.isEmpty=aB:=by
 induction l with
 | nil=>exact absurd h (by decide)
 | cons x r ih=>
  by_cases q:∃c,x = .ref c
  ·obtain⟨c,rfl⟩:=q;have:=ih h;exact⟨λself=>by rw[refuseLoop_ref];exact this.1 self,by rw[eO,this.2.1,g7],rfl⟩
  ·have e:x::r=Kc:=by
    have h':(x::r==Kc)=aC:=by cases x<;>first | exact h | exact absurd ⟨_,rfl⟩ q
    exact eq_of_beq h'
   rw[e];exact⟨λself=>PySem.F.store_ValueError.passes self,by decide,rfl⟩
section
variable {prog:bC} {w:b6} {A:b5} {R:mK->aI->Prop} {E:aE->aI->Prop} {s:aI} {K:Frag} {x C:aH} {ox:ck} {name:aR} {tk:mR} {v:aE}
theorem IE{od:Option ck}(X:K.In s.heap)(I:InstAt s.heap x ox C od)(hp:veOver K C=aC)(ht:takerIn K C name=aA none)
  (h:∀b,aZ (model prog w) A.in1 (storeInOwnDict (.ref x) (.ref C) (.str name tk) name v b)
   (λfin s'=>match fin with | .done f=>R (.ok f) s' | .again c'=>c'.quiet=aC/\gF (model prog w) A c' R s') (λe s'=>R (.error e) s') s) :
  gF (model prog w) A (.call (.builtin "object.__setattr__") ⟨[.ref x,.str name tk,v],[]⟩) R s:=by
 have SF:=PySem.F.store_object;obtain⟨cd,hc,ho⟩:=any_some hp;obtain⟨o1,o2,o3⟩:=E1 ho;have sub:Looks (model prog w) s.heap (ja (.ref x) (.type "object")) aC:=I.type.andThen (looks_mroIn X (by unfold mroIn;rw[hc,aD,ma (by rw[o3];decide),o2]));refine eZ SF.slot.plain SF.entry (@check_slot (model prog w) _ _ s "object.__setattr__" "object" "__setattr__" (.ref x) [.str name tk,v] [] _ SF.kind SF.split sub (SF.args (.ref x) (.str name tk) v) ?_);obtain⟨attr,ha,hr⟩:=Option.bind_eq_some_iff.mp ht;have hm:Looks (model prog w) s.heap (mroOf (.ref C)) cd.mro:=(looks_clsIn X hc).andThen .now
 have L3:Looks (model prog w) s.heap (storeTaker? attr) none:=by
  cases attr with
  | none=>exact .now
  | some a=>
   obtain⟨b,hb,hz⟩:=eG.mp hr;refine(looks_takesIn X hb).andThen ?_
   cases b with
   | false=>exact .now
   | true=>cases hz
 rw[osa_eq,refuse_eq];refine aF (aF (I.type.here (aF (hm.here ?_))));rw[o1];refine aa (aF (I.type.here (aF ((looks_findIn X ha).here (aF (L3.here ?_))))));exact h _
theorem IF{Q:Unit->aI->Prop}(X:K.In s.heap)(hx:s.heap.get? x=aA ox)(hcl:ox.cls = .ref C)(hno:notCls ox=aC)(hd:ox.dict=none)(hs:findIn K (.ref C) "__setattr__" = aA (aA (.builtin "object.__setattr__")))
  (hp:veOver K C=aC) (ht:takerIn K C name=aA none) (hh:(clsIn K C).any (·.hasDict)=aC)
  (hq:∀h' tk' dx,(∀b o,b≠x->s.heap.get? b=aA o->h'.get? b=aA o)->h'.get? x=aA { ox with dict:=aA dx }->s.heap.objs.size<=dx->dx≠x->h'.Ns1 dx (λy=>if y=name then aA v else none)->Q () { s with heap:=h',toks:=tk' }) :
  aZ (model prog w) A (setAttr (.ref x) name v) Q E s:=by
 have I:InstAt s.heap x ox C none:=⟨hx,hcl,hno,by rw[hd];trivial⟩;refine set_plain X I hs ?_;have X':K.In (({ s with toks:=s.toks+1 }:aI)).heap:=X;refine IE (s:={ s with toks:=s.toks+1 }) (od:=none) X' I hp ht λb=>?_;obtain⟨cd,hc,hdd⟩:=any_some hh;obtain⟨hp',g,d,t,os⟩:=s;obtain⟨oc,odi,oda,osl⟩:=ox
 dsimp only at hcl hd hx
 subst hcl hd;have nc:∀c,oda≠.cls c:=λc z=>by subst z;simp[notCls] at hno
 have hxs:x≠hp'.objs.size:=bO (aT hx);have hx₁:(hp'.push { cls:=.type "dict",data:=.dict #[] }).get? x=aA ⟨.ref C,none,oda,osl⟩:=aM _ hx;refine aF (aa (aF (aF (kD hx (aF ((looks_clsIn X hc) _ _ _ _ (λ_ _ e=>e) ?_))))));rw[hdd]
 dsimp only
 rw[ma (by decide),ma (by simp[typeHasDict])];split
 ·rename_i hcd;exact absurd rfl (nc _)
 refine aF (wpAny_alloc' ?_);refine aF (wpAny_update' hx₁ ?_);refine aa ?_
 have hgd:((hp'.push { cls:=.type "dict",data:=.dict #[] }).update x λo=>{ cls:=o.cls,dict:=aA hp'.objs.size,data:=o.data,slots:=o.slots }).get? hp'.objs.size
   = aA { cls:=.type "dict",data:=.dict #[] }:=
  (kS _ _ _ _ hxs.symm).trans (kx rfl rfl)
 have hnd:((hp'.push { cls:=.type "dict",data:=.dict #[] }).update x λo=>{ cls:=o.cls,dict:=aA hp'.objs.size,data:=o.data,slots:=o.slots }).Ns hp'.objs.size (λ_=>none):=
  ⟨_,#[],_,hgd,rfl,λe he=>absurd he (by simp),λ_=>rfl⟩
 show aZ _ _ (storeInDict hp'.objs.size (.str name t) name v) _ _ _;unfold storeInDict newKeyGuard;refine aF (aa (aF (wpAny_nsSet1 (bV.Ns1.of_empty hnd) λh' hn' hs'=>?_)));obtain⟨oD,esD,epD,hoD,hdD,hcD⟩:=hn'.count (Within.cons name v Within.nil);refine aF (wpAny_lookBehind hoD (by rw[hdD];exact pastItsLine_dict (bu hcD (by rw[bK,fK,jx];omega))) ?_);refine aa ?_;have hx':h'.get? x=aA { cls:=.ref C,dict:=aA hp'.objs.size,data:=oda,slots:=osl }:=?_
 ·exact hq h' _ hp'.objs.size (λb ob hbx hb=>(hs'.2 b (bO (aT hb))).trans ((kS _ _ _ _ hbx).trans (aM _ hb))) hx' (ar _) hxs.symm hn'
 ·refine(hs'.2 x hxs).trans (bo _ hx₁ ?_);have hfr:=(bV.get?_some_iff.mp hx).2;cases oda<;>first | rfl | exact hfr
end
section
variable {prog:bC} {w:b6} {A:b5} {E:aE->aI->Prop} {h:bV} {g:Array kh} {d:Drawn} {t:Nat} {os:OsState}
variable {nm q:aR} {C N:aH} {bs bm bmB:List aE} {hdct:Bool} {sn:List aR} {sub:List aE} {ab:Bool} {col:Option Bool} {dd:Option aH} {k0 k1 k2 k3 k5:Option aE} {B newId initId:String}
abbrev Jr(C:aH)(t:aH):ck:={ cls:=.ref C,data:=.fields #[.ref t,.none,.none,.none,.bool aB,.none] }
theorem IG{e t0:aH}{v:aE}{Q:aE->aI->Prop}(F:eY B newId initId bmB)(T:j9 h bmB bm)(hC:h.get? C=aA (cR nm q C N bs bm hdct sn sub ab col dd k0 k1 k2 k3 k5 newId))
  (he:h.get? e=aA (Jr C t0)) (hq:∀h',(∀b o,b≠e->h.get? b=aA o->h'.get? b=aA o)->h'.get? e=aA (Jr C h.objs.size)->h'.get? h.objs.size=aA { cls:=.type "tuple",data:=.seq #[v] }->Q .none ⟨h',g,d,t,os⟩) :
  aZ (model prog w) A (call (.builtin initId) [.ref e,v]) Q E ⟨h,g,d,t,os⟩:=by
 refine f9 (eZ F.init.plain F.initEntry (wpAny_check_init_subT F T hC he rfl ?_))
 wp_walk
 have hne:e≠h.objs.size:=bO (aT he);refine hq _ (λb o hb q=>?_) ?_ ?_
 ·rw[bQ _ _ hb.symm];exact aM _ q
 ·rw[bo _ (aM _ he) rfl];rfl
 ·rw[bQ _ _ hne];exact kx rfl rfl
end
end VX
namespace VX
open PySem PySem.Spec PyProof.Rows L2
theorem IH(is:List Int):jh (is.map eu)=is.map λi=>cN (toString i):=by
 induction is with
 | nil=>rfl
 | cons i r ih=>rw[aW,jh,ih];rfl
theorem NW{is:List Int}(h:∀i∈is,i.natAbs.log2<1920):kd (is.map eu)=aC:=by
 induction is with
 | nil=>rfl
 | cons i r ih=>
  rw[aW,kd,ih λj hj=>h j (by simp[hj])];simp[PyData.showable,h i (by simp)]
theorem Ke(is:List Int):ik (is.map eu)=aB:=by
 induction is with
 | nil=>rfl
 | cons i r ih=>rw[aW,ik,ih];rfl
theorem Nd{h:bV}:∀{is:List Int}{us:List aE},Vals (is.map V.int) us->ReadsAll h us (is.map eu) []
 | [],_,.nil=>.nil
 | i::r,_,.cons h1 h2=>by obtain⟨t,rfl⟩:=h1;exact ReadsAll.cons (as:=[]) (bs:=[]) (.int i t) (Nd h2)
theorem II(is:List Int):lZ (is.map eu)<=1:=by
 induction is with
 | nil=>decide
 | cons i r ih=>
  rw[aW,lZ];simp[ky];omega
end VX
namespace VX
open PySem PySem.Spec PyProof.Rows L2 VL
abbrev XR:=ZS->Option aR
def tFX(K:aG)(O:List Nat)(fx:XR)(E:XK):TS:=λ_ σ H=>∃H0 fps s n,Rel K O H0 fps s σ H/\fx s=aA n/\∀C H',bH K ao n=aA (aA (.ref C))->Same H0 H'->E (.ref C) none H'
def VX(X:Cx)(O:List Nat)(E:XK)(st:bj)(fx:XR):Prop:=PS X st (tFX X.K O fx E)
def BC(X:Cx)(O:List Nat)(E:XK)(st:List bj)(fx:XR):Prop:=PSs X st (tFX X.K O fx E)
def rMsg(n:aR)(f:XE):XR:=λs=>match f s with
 | some (.lst l)=>(match Ws l with
  | some is=>if is.length<=100/\∀i∈is,i.natAbs.log2<1920 then aA n else none
  | none=>none)
 | _=>none
def Nf(fc:XT)(f g:XR):XR:=λs=>(fc s).bind λc=>if c=aC then f s else g s
def Y2(f1:XR)(f:XS)(g:XR):XR:=λs=>match f1 s with
 | some c=>aA c
 | none=>(match f s with
  | some (.nx s')=>g s'
  | _=>none)
def QG:XR:=λ_=>none
section
variable {X:Cx} {O W:List Nat} {E:XK} {C:aH} {bmB:List aE} {B newId initId:String} {x y:aR} {np m7 pos p1 p2 p3:dm} {jj k:Nat} {e:aw} {f:XE}
variable {st:bj} {m6 a b:List bj} {c:aw} {fc:XT} {f1 g1:XR} {fs:XS}
theorem GD:VX X O E st QG:=λm3 s σ H D I ⟨_,_,_,_,_,e,_⟩=>by cases e
theorem S0:BC X O E m6 QG:=λm3 s σ H D I ⟨_,_,_,_,_,e,_⟩=>by cases e
theorem Js(hc:VT X c fc)(ha:BC X O E a f1)(hb:BC X O E b g1):VX X O E (.If c a b pos) (Nf fc f1 g1):=PS.imp (HF hc ha hb) λD σ H ⟨H0,fps,s,cls,r,e,q⟩=>by
 obtain⟨d,e1,e⟩:=Zd e;refine⟨λ_=>False,s,d,λ_ z=>z.elim,r.env,e1,λH1 s1=>?_⟩
 cases d with
 | true=>rw[mZ rfl] at e ⊢;exact⟨H0,fps,s,cls,r.grow s1,e,q⟩
 | false=>rw[ma a0] at e ⊢;exact⟨H0,fps,s,cls,r.grow s1,e,q⟩
theorem RI(h:VX X O E st f1):BC X O E [st] f1:=Ra h
theorem Ng{t:TS}(h1:PS X st t)(hx:∀D D' σ H,t D σ H->t D' σ H):PSs X (st::m6) (λ_ σ H=>t { nx:=λ_ _=>False,rt:=λ_ _=>False } σ H):=by
 intro m3 s σ H D I h;refine gE (YD (h1 m3 s σ H { nx:=λ_ _=>False,rt:=λ_ _=>False } I h) λf s1 q=>?_)
 cases f with
 | next=>obtain⟨_,_,_,z⟩:=q;exact z.elim
 | ret u=>obtain⟨_,_,_,_,_,z⟩:=q;exact z.elim
 | brk=>obtain⟨_,_,_,z⟩:=q;exact z.elim
 | cont=>obtain⟨_,_,_,z⟩:=q;exact z.elim
theorem XN(h1:VX X O E st f1)(hs:VS X O W st fs)(h2:BC X O E m6 g1):BC X O E (st::m6) (Y2 f1 fs g1):=by
 intro m3 s σ H D I ⟨H0,fps,sp,cls,r,e,q⟩;unfold Y2 at e;split at e
 ·rename_i c hc;cases e;exact Ng h1 (λ_ _ _ _ z=>z) m3 s σ H D I ⟨H0,fps,sp,_,r,hc,q⟩
 ·split at e
  ·rename_i s' hf;refine Tj hs h2 m3 s σ H D I ⟨H0,fps,sp,.nx s',r,hf,λm8 σ' H' r' _=>?_⟩;exact⟨H0,m8,s',cls,r',e,q⟩
  ·cases e
end
def spX(K:aG)(R:List PV->Option aR)(n:Nat):Sp:=λvs H _ E=>vs.length=n/\∃ls fp nm,Iss K H ls vs fp/\R ls=aA nm/\∀C H',bH K ao nm=aA (aA (.ref C))->Same H H'->E (.ref C) none H'
def Kf(m:Nat)(fx:XR):List PV->Option aR:=λls=>fx (YT m ls)
structure CalX(P:bC)(w:b6)(K:aG)(mg:aR->Option aE)(base:bV)(x:aR)(ps:List aR)(sp:Sp)(k:Nat):Prop where
 ex:∃f fd,mg x=aA (.ref f)/\eM K (.ref f)=aC/\Binds K fd ps []/\Tq P w K mg base (EZ P w) k f fd ps sp
section
variable {K:aG} {P:bC} {w:b6} {mg:aR->Option aE} {base:bV}
open Classical in
theorem BD{N:List aR}{O:List Nat}{n:Nat}{fx:XR}{vs:List V}{H:Hp}{Q:VK}{E:XK}{D:Uz}(hO:∀i∈O,n<=i)(h:spX K (Kf N.length fx) n vs H Q E):tFX K O fx E D (L2.start N vs) H:=by
 obtain⟨hl,ls,fp,cls,hi,e,q⟩:=h;obtain⟨H0,fps,s,out,r,e1,k⟩:=QZ (N:=N) (n:=n) (O:=O) (W:=[]) (f:=λs=>if s=YT N.length ls then aA (.rt .non) else none) (vs:=vs) (H:=H) (Q:=λ_ H'=>Same H H') (E:=λ_ _ _=>True) hO ⟨hl,ls,fp,.non,hi,by unfold WC;simp[Xv],λ_ H' _ sm _ _ _=>sm⟩;simp only at e1;split at e1
 ·rename_i hs;cases e1;subst hs;exact⟨H0,fps,_,cls,r,e,λC H' hc sm=>q C H' hc (k .non [] H' sm Is.non bx λp hp=>by simp at hp)⟩
 ·cases e1
theorem def_x{x:aR}{st:bj}{N ps:List aR}{k n:Nat}{O:List Nat}(m:Nat)(fx:XR)(D:Def K mg x st)(S:Z6 N ps (Zp st))
  (hb:∀(kV doc pm:aE)(an:Option aH)(cdv ct:aE)(us:List aE),us.length=ps.length->iP (cV x x (XX st) (YL st) (Zp st) .none kV doc pm an cdv ct) ⟨us,[]⟩=pure (ps.zip us))
  (hn:ps.length=n) (hm:N.length=m) (hO:∀i∈O,n<=i)
  (hbody:∀(fa:aH)(cdv:aE)(A:b5)(outer:List iu)(s:aI)(H:Hp)(E:XK),Room k (A.deeper (gX x (Zp st) s.heap.objs.size fa cdv))->BC (R7 (EZ P w) P w K mg base N x (Zp st) fa cdv A outer s H E) O E (YL st) fx) :
  CalX P w K mg base x ps (spX K (Kf m fx) n) (k+1):=by
 subst hm;obtain⟨f,fd,hm,F⟩:=D.ex;refine⟨f,fd,hm,F.kp,F.binds hb,?_⟩;obtain⟨oc,od,kV,doc,pm,an,cdv,ct,osl,rfl,lk,hcd⟩:=F.ex;exact HM lk hcd S (λvs H Q E h=>by rw[hn];exact h.1) λA outer s H vs Q E hr hsp=>⟨_,hbody f cdv A outer s H E hr,BD hO hsp⟩
end
section
variable {X:Cx} {m3:List (aH×ck)} {σ:L2.St} {H:Hp} {s:aI}
theorem IJ{A:b5}{E:aE->aI->Prop}{i:Nat}{n:aR}{pos:dm}{Q:Unit->aI->Prop}(I:Inv X m3 σ H s)(hN:X.N.Nodup)(hi:X.N[i]?=aA n)(hk:X.env.scope.names.lookup n=aA .local)
  (h:∀s',Inv X m3 (σ.set i none) H s'->Q () s'):aZ (model X.prog X.w) A (do bindName X.env n .none;gz X.env n pos) Q E s:=by
 refine aF (wpAny_bindName (VN I hN hi (.inl hk) (v:=.non) (u:=bJ) rfl (λs1 I1=>?_) (.inr hk)));unfold gz;refine wpAny_onRaise ?_;have hcls:(X.env.scope.kind==.class || (X.env.scope.kind==.module&&X.env.locals != X.env.globals))=aB:=by rw[I.ok.kind];rfl
 have hiσ:i<σ.length:=by rw[I.len];exact(aL.mp hi).1
 obtain⟨m,hn,hl⟩:=id I1.loc;obtain⟨u,ru,lk⟩:=hl i n .non hi (by rw[fG hiσ]) (.inl hk);have hkl:X.env.kindOf n=aA .local:=hk
 have hv:m n=aA u:=by
  rcases lk with⟨_,z⟩ | ⟨z,_⟩
  ·exact z
  ·rw[hkl] at z;rcases z with z | z<;>cases z
 have cne:=I1.cne;refine wpAny_unbindName_local hkl hn hv hcls λh' u' hn' hs=>h _ ?_;obtain⟨oL,_,_,hoL,_⟩:=id hn;refine⟨I1.ok,I1.os,I1.bare,⟨λb o e n hb hx=>?_,λb o e n hb hx=>?_,I1.base.free,λb o e hx=>?_,I1.base.tups,I1.base.frzs,I1.base.tbls⟩,⟨_,hn',λj y v' e1 e2 e3=>?_⟩,λy c e=>?_,I1.free,I1.freeC,λp hp=>?_,λb ob e=>?_,by have:=I1.len;simpa using this⟩
 ·exact(hs.2 b (bO (af (aT e) I1.ok.above))).trans (I1.base.keep b o e n hb hx)
 ·obtain⟨sl,e1⟩:=I1.base.slot b o e n hb hx;exact⟨sl,(hs.2 b (bO (af (aT e) I1.ok.above))).trans e1⟩
 ·obtain⟨o',e1⟩:=I1.base.there b o e hx;exact⟨o',(hs.2 b (bO (af (aT e) I1.ok.above))).trans e1⟩
 ·by_cases hj:j=i
  ·subst hj;rw[fG hiσ] at e2;cases e2
  ·have e2':(σ.set i (aA V.non))[j]?=aA (aA v'):=by rw[dC (cJ hj)] at e2 ⊢;exact e2
   obtain⟨u2,r2,q⟩:=hl j y v' e1 e2' e3;refine⟨u2,r2,?_⟩;rcases q with⟨k,e⟩ | ⟨k,c,e,z⟩
   ·refine .inl ⟨k,?_⟩;have:y≠n:=λe=>hj (Pc hN e1 (e▸hi));simp[this,e]
   ·exact .inr ⟨k,c,e,z.sameBut hs (cne y c e)⟩
 ·obtain⟨w',z⟩:=I1.cell y c e;exact⟨w',z.sameBut hs (cne y c e)⟩
 ·obtain⟨e,n,ne,nf,d⟩:=I1.pin p hp;exact⟨(hs.2 p.1 ne).trans e,n,ne,nf,d⟩
 ·refine(I1.hok b ob e).stay (λc w' hc q=>(hs.2 c ?_).trans q) (λ_ q=>q) λ_ _ q=>q;rintro rfl;have hf:=I1.free;rcases hc with rfl | hc
  ·rw[hf] at e;cases e
  ·rw[hf] at hc;cases hc
abbrev Cx.mark(X:Cx)(e:aH):Cx:={ X with A:=X.A.mark (aA (.ref e)),calm:=aB,xe:=λ_ _=>False }
theorem MU{e:aH}(I:Inv X m3 σ H s):Inv (Cx.mark X e) m3 σ H s:=
 ⟨⟨I.ok.mod,I.ok.kind,I.ok.glob,I.ok.blt,I.ok.above,I.ok.inj,I.ok.has,I.ok.cab,(λz=>by cases z),I.ok.frames,I.ok.stk,I.ok.exf,I.ok.bs,I.ok.bsz,I.ok.noex,I.ok.exfs,I.ok.funs,I.ok.frf⟩,I.os,I.bare,I.base,I.loc,I.cell,I.free,I.freeC,I.pin,I.hok,I.len⟩
theorem Kg{e:aH}(ok:X.Ok)(I:Inv (Cx.mark X e) m3 σ H s):Inv X m3 σ H s:=
 ⟨ok,I.os,I.bare,I.base,I.loc,I.cell,I.free,I.freeC,I.pin,I.hok,I.len⟩
def E2(X:Cx)(m3:List (aH×ck))(b:aH):Prop:=X.s₀.heap.get? b=none/\b≠X.env.locals/\(∀x c,X.env.cells.lookup x=aA c->c≠b)/\∀p∈X.pn++m3,p.1≠b
theorem Uy{b:aH}(I:Inv X m3 σ H s)(hx:X.ex=[])(h:s.heap.get? b=none):E2 X m3 b:=by
 refine⟨?_,λz=>?_,λx c hc z=>?_,λp hp z=>?_⟩
 ·cases r:X.s₀.heap.get? b with
  | none=>rfl
  | some o=>
   obtain⟨o',r'⟩:=I.base.there b o r (by rw[hx];simp);rw[h] at r';cases r'
 ·obtain⟨m,⟨o,_,_,ho,_⟩,_⟩:=I.loc;rw[z,ho] at h;cases h
 ·obtain⟨v,o,ho,_⟩:=I.cell x c hc;rw[z] at ho;rw[ho] at h;cases h
 ·have:=(I.pin p hp).1;rw[z] at this;rw[this] at h;cases h
theorem RJ{ch:List aH}{h':bV}(I:Inv X m3 σ H s)(hx:X.ex=[])(hfr:X.env.frame=aA X.env.locals)(ef:Eff ((X.env::X.outer).filterMap (·.frame)) ch s.heap h')(hc:∀b∈ch,H b=none/\E2 X m3 b)(hst:X.stack=X.env::X.outer):Inv X m3 σ H { s with heap:=h' }:=by
 have hf:∀b∈(X.env::X.outer).filterMap (·.frame),H b=none:=λb hb=>by have:=I.stkFree b;rw[hst] at this;exact this hb
 have lt:∀b o,X.s₀.heap.get? b=aA o->b∉ch:=λb o z hb=>by rw[(hc b hb).2.1] at z;cases z
 have nL:∀b o,X.s₀.heap.get? b=aA o->b≠X.env.locals:=λb o z hb=>by subst hb;exact cI _ (af (aT z) I.ok.above)
 have mem:∀b,b≠X.env.locals->(b∈(X.env::X.outer).filterMap (·.frame)↔b∈X.fs):=λb z=>by rw[jE hfr,aV];exact⟨λh=>h.elim (λq=>absurd q z) λq=>q,.inr⟩
 have any:∀b o,s.heap.get? b=aA o->b∉ch->∃sl,h'.get? b=aA { o with slots:=sl }:=λb o q hb=>by
  by_cases z:b∈(X.env::X.outer).filterMap (·.frame)
  ·exact ef.slot b o q hb z
  ·exact⟨o.slots,ef.keep b o q hb z⟩
 obtain⟨m,⟨oL,es,ep,hoL,rL⟩,hl⟩:=id I.loc;have nLc:X.env.locals∉ch:=λz=>(hc _ z).2.2.1 rfl;obtain⟨slL,hL⟩:=any _ _ hoL nLc;have cellK:∀c v,(∀b∈ch,c≠b)->s.heap.IsCell c v->h'.IsCell c v:=λc v hne ⟨o,ho,hd⟩=>by obtain⟨sl,q⟩:=any c o ho λz=>hne c z rfl;exact⟨_,q,hd⟩
 have cne:∀x c,X.env.cells.lookup x=aA c->∀b∈ch,c≠b:=λx c q b hb=>(hc b hb).2.2.2.1 x c q;refine⟨I.ok,I.os,I.bare,⟨λb o e n hb hx'=>?_,λb o e n hb hx'=>?_,I.base.free,λb o e hx'=>?_,I.base.tups,I.base.frzs,I.base.tbls⟩,⟨m,⟨_,es,ep,hL,rL⟩,λj y v' e1 e2 e3=>?_⟩,λy c e=>?_,I.free,I.freeC,λp hp=>?_,Jp I.hok ef (λb hb=>(hc b hb).1) hf,I.len⟩
 ·exact ef.keep b o (I.base.keep b o e n hb hx') (lt b o e) λz=>hb ((mem b (nL b o e)).mp z)
 ·obtain⟨sl,z1⟩:=I.base.slot b o e n hb hx';obtain⟨sl2,z2⟩:=ef.slot b _ z1 (lt b o e) ((mem b (nL b o e)).mpr hb);exact⟨sl2,z2⟩
 ·obtain⟨o1,z1⟩:=I.base.there b o e hx';exact ef.there b o1 z1
 ·obtain⟨u',r',q⟩:=hl j y v' e1 e2 e3;refine⟨u',r',?_⟩;rcases q with q | ⟨k,c,e,z⟩
  ·exact .inl q
  ·exact .inr ⟨k,c,e,cellK c _ (cne y c e) z⟩
 ·obtain⟨w',z⟩:=I.cell y c e;exact⟨w',cellK c _ (cne y c e) z⟩
 ·obtain⟨e,n,ne,nf,d⟩:=I.pin p hp;exact⟨ef.keep p.1 p.2 e (λz=>(hc _ z).2.2.2.2 p hp rfl) (λz=>nf ((mem p.1 ne).mp z)),n,ne,nf,d⟩
theorem Nh{e:aH}{oe:ck}(I:Inv X m3 σ H s)(he:s.heap.get? e=aA oe)(hH:H e=none)(ho:E2 X m3 e):Inv X m3 σ (upd H e (.frz oe (.own e))) s:=by
 have ne:∀b u,H b=aA u->b≠e:=λb u q z=>by rw[z,hH] at q;cases q
 refine⟨I.ok,I.os,I.bare,⟨I.base.keep,I.base.slot,λb o q n hx=>?_,I.base.there,λb xs q=>?_,λb o u q=>?_,λb ps q=>?_⟩,I.loc,I.cell,?_,λx c q=>?_,λp hp=>?_,λb u q=>?_,I.len⟩
 ·rw[upd_ne (λz=>by rw[z,ho.1] at q;cases q)];exact I.base.free b o q n hx
 ·have:=I.base.tups b xs q;rw[upd_ne (ne _ _ this)];exact this
 ·have:=I.base.frzs b o u q;rw[upd_ne (ne _ _ this)];exact this
 ·obtain⟨more,z⟩:=I.base.tbls b ps q;exact⟨more,by rw[upd_ne (ne _ _ z)];exact z⟩
 ·rw[upd_ne (cJ ho.2.1)];exact I.free
 ·rw[upd_ne (ho.2.2.1 x c q)];exact I.freeC x c q
 ·obtain⟨e1,n,r⟩:=I.pin p hp;exact⟨e1,by rw[upd_ne (ho.2.2.2 p hp)];exact n,r⟩
 ·by_cases z:b=e
  ·subst z;rw[upd_same] at q;cases q;exact⟨he,_,he⟩
  ·rw[upd_ne z] at q;exact(I.hok b u q).stay (λ_ _ _ r=>r) (λc r=>by rw[upd_ne (ne _ _ r)];exact r) λc xs r=>by rw[upd_ne (ne _ _ r)];exact r
end
section
variable {M:lQ} {A:b5} {E:aE->aI->Prop}
variable {nm q nm' q':aR} {C N Cb N':aH} {bs bm bs' bm':List aE} {hdct hdct':Bool} {sn sn':List aR} {sub sub':List aE} {ab ab':Bool} {col col':Option Bool} {dd dd':Option aH} {k0 k1 k2 k3 k5 j0 j1 j2 j3 j5:Option aE} {newId newId':String}
theorem MV{h:bV}{g:Array kh}{d:Drawn}{t:Nat}{os:OsState}{e:aH}{oe:ck}{Q:Bool->aI->Prop}
  (hC:h.get? C=aA (cR nm q C N bs bm hdct sn sub ab col dd k0 k1 k2 k3 k5 newId)) (hB:h.get? Cb=aA (cR nm' q' Cb N' bs' bm' hdct' sn' sub' ab' col' dd' j0 j1 j2 j3 j5 newId')) (he:h.get? e=aA oe) (hcls:oe.cls = .ref C) (hbase:bm'.contains (.type "BaseException")=aC)
  (hq:Q ((bF C::bm).contains (.ref Cb)) ⟨h,g,d,t,os⟩):aZ M A (excMatches (.ref e) (.ref Cb)) Q E ⟨h,g,d,t,os⟩:=by
 have hcB:(bF Cb::bm').contains (.type "BaseException")=aC:=by rw[eO,hbase,g7]
 have f:=tc_notTuple;unfold excMatches
 cases hcC:(bF C::bm).contains (.ref Cb) with
 | true=>
  rw[hcC] at hq
  repeat (first | (with_reducible refine bc he ?_;rw[hcls]) | with_reducible refine bc hB ?_ | (with_reducible refine cS hB ?_;rw[hcB]) | (with_reducible refine cS hC ?_;rw[hcC]) | wp_step)
  exact hq
 | false=>
  rw[hcC] at hq
  repeat (first | (with_reducible refine bc he ?_;rw[hcls]) | with_reducible refine bc hB ?_ | (with_reducible refine cS hB ?_;rw[hcB]) | (with_reducible refine cS hC ?_;rw[hcC]) | wp_step)
  exact hq
end
def belowIn(K:aG)(C Cb:aH):Bool:=match K.lookup C with
 | some ⟨_,_,.cls cd,_⟩=>cd.mro.contains (.ref Cb)
 | _=>aB
theorem GF{K:aG}{h:bV}{C Cb:aH}{nm qn:aR}{N:aH}{bs bm:List aE}{hdct:Bool}{sn:List aR}{sub:List aE}{ab:Bool}{col:Option Bool}{dd:Option aH}{k0 k1 k2 k3 k5:Option aE}{newId:String}(X:K.In h)(e:belowIn K C Cb=aC)
  (hC:h.get? C=aA (cR nm qn C N bs bm hdct sn sub ab col dd k0 k1 k2 k3 k5 newId)):(bF C::bm).contains (.ref Cb)=aC:=by
 unfold belowIn at e;split at e
 ·rename_i ho;have:=X _ _ ho;rw[hC] at this;cases this;exact e
 ·cases e
section
variable {X:Cx} {m3:List (aH×ck)} {σ:L2.St} {H:Hp} {s:aI} {e T C Cb:aH} {dd:Option aH} {cx n:aR} {np pos:dm} {b₀:bj} {suite:List bj} {m6:List fU} {ts:TS} {D:Uz} {i:Nat}
def GG(i:Nat)(D:Uz):Uz:={ nx:=λσ H=>D.nx (σ.set i none) H,rt:=D.rt,bk:=λσ H=>D.bk (σ.set i none) H,ct:=λσ H=>D.ct (σ.set i none) H }
theorem A7(I:Inv X m3 σ H s)(hx:X.ex=[])(hst:X.stack=X.env::X.outer)(hfr:X.env.frame=aA X.env.locals)(x:QO s.heap e (.ref C) dd T .none)(hH:H e=none)(hHT:H T=none)(oe:E2 X m3 e)(oT:E2 X m3 T)
  (hN:X.N.Nodup) (hi:X.N[i]?=aA n) (hk:X.env.scope.names.lookup n=aA .local) (hg:Gl X cx) (hm:X.mg cx=aA (.ref Cb)) (hC:cB X.K C "BaseException" = aC) (hB:cB X.K Cb "BaseException" = aC) (hb:belowIn X.K C Cb=aC)
  (hs:PSs (Cx.mark X e) (b₀::suite) ts) (q:∀oe:ck,oe.cls = .ref C->oe.dict=dd->(∃vs,oe.data = .fields vs)->ts (GG i D) (σ.set i (aA (.ref e))) (upd H e (.frz oe (.own e))))
  (hdb:(cx==("__debug__" : aR))=aB:=by decide) :
  aZ (model X.prog X.w) X.A (fS (.ref e) X.env) (λ_ s₂=>aZ (model X.prog X.w) X.A (jP (.ref e) none) (λ_ s₃=>
   aZ (model X.prog X.w) X.A (handleBy (.ref e) X.env (.ExceptHandler (aA (.Name cx np)) (aA n) (b₀::suite) pos::m6)) (SP X m3 D) X.xe s₃) X.xe s₂) X.xe s:=by
 have hstk:=I.stack;rw[hst] at hstk;have hfrs:=I.ok.frames;rw[hst] at hfrs;refine Gy hfrs hstk hfr x λh1 T' hT' x1 e1=>?_
 have I1:Inv X m3 σ H { s with heap:=h1 }:=RJ I hx hfr e1 (λb hb=>by
  rcases aV.mp hb with z | z
  ·rw[z];exact⟨hH,oe⟩
  ·rw[aP.mp z];exact⟨hHT,oT⟩) hst
 have oT':E2 X m3 T':=Uy I hx (cZ hT');have hHT':H T'=none:=I.hok.fresh hT';have tch:∀b∈[T'],H b=none/\E2 X m3 b:=λb hb=>by rw[aP.mp hb];exact⟨hHT',oT'⟩
 refine Qp x1 (fs:=(X.env::X.outer).filterMap (·.frame)) λh2 x2 e2 _=>?_;have I2:Inv X m3 σ H { s with heap:=h2 }:=RJ (s:={ s with heap:=h1 }) I1 hx hfr e2 tch hst;refine wpAny_handleBy_cons (codeAny_handlers_test ?_) (by intro z;cases z);have I2m:Inv (Cx.mark X e) m3 σ H { s with heap:=h2 }:=MU I2;refine Wl (X:=Cx.mark X e) I2m hg hm ?_ hdb;obtain⟨nm,qn,N,bs,bm,hdct,sn,sub,ab,col,dc,k0,k1,k2,k3,k5,nid,hCo,_,_⟩:=dt I2.kIn hC;obtain⟨nm',qn',N',bs',bm',hdct',sn',sub',ab',col',dc',j0,j1,j2,j3,j5,nid',hBo,hbase,_⟩:=dt I2.kIn hB;obtain⟨ob,vs,oT2,tsx,heo,hcls,hdd,hdat,_⟩:=id x2;refine MV hCo hBo heo hcls hbase ?_;rw[GF I2.kIn hb hCo];refine codeAny_handlers_suite_as ?_;refine Qp (s:={ s with heap:=h2 }) x2 (fs:=(X.env::X.outer).filterMap (·.frame)) λh3 x3 e3 _=>?_;have I3:Inv X m3 σ H { s with heap:=h3 }:=RJ (s:={ s with heap:=h2 }) I2 hx hfr e3 tch hst;obtain⟨ob3,vs3,oT3,ts3,heo3,hcls3,hdd3,hdat3,_⟩:=id x3;have I4:=Nh (s:={ s with heap:=h3 }) I3 heo3 hH oe;refine VN (X:=Cx.mark X e) (MU I4) hN hi (.inl hk) (v:=.ref e) (u:=.ref e) rfl (λs5 I5=>?_) (.inr hk);refine ay (hs m3 s5 _ _ (GG i D) I5 (q ob3 hcls3 hdd3 ⟨_,hdat3⟩)) (λf s6 h6=>?_) λ_ _ z=>z.elim
 have go:∀σ' H' s6,Inv (Cx.mark X e) m3 σ' H' s6->(∀s7,Inv X m3 (σ'.set i none) H' s7->SP X m3 D f s7)->aZ (model X.prog X.w) X.A (do bindName X.env n .none;gz X.env n pos) (λ_ s₃=>SP X m3 D f s₃) X.xe s6:=λσ' H' s6 I6 k=>
  IJ (Kg I.ok I6) hN hi hk k
 cases f with
 | next=>
  obtain⟨σ',H',I6,z⟩:=h6;exact go σ' H' s6 I6 λs7 I7=>⟨_,_,I7,z⟩
 | ret u=>
  obtain⟨v,σ',H',I6,r6,z⟩:=h6;exact go σ' H' s6 I6 λs7 I7=>⟨v,_,_,I7,r6,z⟩
 | brk=>
  obtain⟨σ',H',I6,z⟩:=h6;exact go σ' H' s6 I6 λs7 I7=>⟨_,_,I7,z⟩
 | cont=>
  obtain⟨σ',H',I6,z⟩:=h6;exact go σ' H' s6 I6 λs7 I7=>⟨_,_,I7,z⟩
end
def Cf(i:Nat):Out->Out
 | .nx s=>.nx (s.set i none)
 | .bk s=>.bk (s.set i none)
 | .ct s=>.ct (s.set i none)
 | .rt l=>.rt l
def MW(R:List PV->Option aR)(fs:List XE)(i:Nat)(f:XS):XS:=λs=>(UX fs s).bind λls=>(R ls).bind λn=>(f (s.set i (aA (.exc n)))).map (Cf i)
theorem UL{K:aG}{O:List Nat}{H0 H:Hp}{fps:Nat->List aH}{s:ZS}{σ:SK}{i:Nat}(hiO:i∉O)(r:Rel K O H0 fps s σ H):Rel K O H0 (λj=>if j=i then [] else fps j) (s.set i none) (σ.set i none) H:=by
 refine⟨r.same,by rw[cz,cz];exact r.len,λj a e=>?_,λj h=>?_,λj hj=>?_,λj hj p hp=>?_,λj hj k hk p hp=>?_⟩
 ·by_cases hji:j=i
  ·subst hji;rw[bM] at e;simp at e
  ·rw[dC (cJ hji)] at e ⊢;rw[ma hji];exact r.is j a e
 ·by_cases hji:j=i
  ·rw[mZ hji]
  ·rw[ma hji];refine r.emp j λl z=>h l ?_;rw[dC (cJ hji)];exact z
 ·have hji:j≠i:=λz=>hiO (z▸hj);simp only[ma hji];exact r.nd j hj
 ·have hji:j≠i:=λz=>hiO (z▸hj);simp only[ma hji] at hp;exact r.own j hj p hp
 ·have hji:j≠i:=λz=>hiO (z▸hj);simp only[ma hji] at hp;by_cases hki:k=i
  ·rw[mZ hki];simp
  ·rw[ma hki];exact r.dis j hj k hk p hp
end VX
namespace VX
open PySem PySem.W PySem.Spec PyProof.Rows L2
def exiIn(K:Frag)(C:aH)(bmB:List aE)(newId:String)(fI:aH):Bool:=
 match K.lookup C with
 | some ⟨.type "type",_,.cls cd,sl⟩=>
  match cd.mro,sl.toList with
  | .ref C'::bm,[_,_,_,_,aA (.builtin n),_]=>C'==C&&n==newId&&!cd.hasDel&&tailIn K bmB bm&&nsOkIn K cd.ns&&nsIn K cd.ns "__init__"==aA (aA (.ref fI))
  | _,_=>aB
 | _=>aB
theorem A8{K:Frag}{h:bV}{N:aH}{m:aR->Option aE}{n:aR}{v:aE}(X:K.In h)(G:h.Ns N m)(e:nsIn K N n=aA (aA v)):m n=aA v:=by
 obtain⟨o,es,ep,ho,hd,_,hf⟩:=G;unfold nsIn at e;split at e
 ·rename_i c d es' n' sl q;have z:=X _ _ q;rw[ho] at z;cases z;cases hd;rw[<-hf n];split at e
  ·rename_i en he;cases e;show findBy _ es n=_;unfold findBy;rw[<-ke,he];rfl
  ·split at e
   ·cases e
   ·cases e
 ·cases e
theorem Jt{K:Frag}{h:bV}{C fI:aH}{bmB:List aE}{newId:String}(X:K.In h)(q:exiIn K C bmB newId fI=aC) :
  ∃bm N nm qn bs hdct sn sub ab col dd k0 k1 k2 k3 k5 mN,h.get? C=aA (cR nm qn C N bs bm hdct sn sub ab col dd k0 k1 k2 k3 k5 newId)/\h.Ns N mN/\mN "__init__" = aA (.ref fI)/\j9 h bmB bm:=by
 unfold exiIn at q;split at q
 ·rename_i dd cd sl ho;split at q
  ·rename_i C' bm k0 k1 k2 k3 n k5 hm hs;simp only[bE,beq_iff_eq,ku] at q;obtain⟨⟨⟨⟨⟨rfl,rfl⟩,hdel⟩,ht⟩,hok⟩,hni⟩:=q;obtain⟨nm,bs,mro,ns,qn,hd,sn,sub,ab,col,del⟩:=cd
   dsimp only at hm hdel hok hni
   subst hm hdel;have hsl:sl = #[k0,k1,k2,k3,aA (.builtin n),k5]:=by obtain⟨l⟩:=sl;simp only at hs;rw[hs]
   subst hsl;refine⟨bm,ns,nm,qn,bs,hd,sn,sub,ab,col,dd,k0,k1,k2,k3,k5,_,X _ _ ho,.of_isNs (isNs_of_in X hok),?_,tail_of_in X ht⟩;exact A8 X (.of_isNs (isNs_of_in X hok)) hni
  ·cases q
 ·cases q
def TQ(C e t:aH):bV->Prop:=λh=>h.get? e=aA (Jr C t)
def Um(C e t dx:aH):bV->Prop:=λh=>h.get? e=aA { Jr C t with dict:=aA dx }
structure BInit(K:Frag)(Cb:aH)(initId:String):Prop where
 ga:specialIn K (.ref Cb) "__getattribute__" = aA (aA (.builtin "type.__getattribute__"))
 rd:readsIn K Cb (.type "type")=aC
 fc:findCls K (.ref Cb) (.type "type") "__init__" = aA (.val (.builtin initId))
section
variable {X:Cx} {x:aR} {np ap m7 pos:dm} {a b o value:aw} {t:TA} {ta tv:TE} {C Cb fI:aH} {bmB:List aE} {B newId initId:String} {f:aR}
theorem MX{pl:Sem Bool}(F:eY B newId initId bmB)(BI:BInit X.K Cb initId)(hC:exiIn X.K C bmB newId fI=aC)(hg:Gl X x)(hm:X.mg x=aA (.ref Cb))(hh:handedIn (.builtin initId)=aC)(ha:PA X [a,b] t)
  (hdb:(x==("__debug__" : aR))=aB:=by decide) (hpl:(cL m7 (aO [b] X.env)).any (·.1)=aB:=by rfl) (hs:aO [a,b] X.env=(aB,eval a X.env)::aO [b] X.env:=by rfl)
  (ht:eval (.Call (.Attribute (.Name x np) "__init__" ap) [a,b] [] m7) X.env=(do
   let ov <-eval (.Name x np) X.env
   standAt ap.atName
   let(f,first) <-holding [ov] (getMethod ov "__init__" pl)
   callWith m7 f first (cL m7 (aO [a,b] X.env)) (jy m7 (gm [] X.env))):=by rfl) :
  PE X (.Call (.Attribute (.Name x np) "__init__" ap) [a,b] [] m7) (λσ H Q=>t σ H λvs H1=>∃e v t0,vs=[.ref e,v]/\H1 e=aA (.ext (TQ C e t0))/\∀t1,Q .non (upd H1 e (.ext (TQ C e t1)))):=by
 intro m3 s σ H Q I h;refine PySem.W.methodCall_KW (pl:=pl) (Wl I hg hm ?_ hdb) ht;refine PySem.W.method_cls I.kIn BI.ga (PySem.W.cls_value I.kIn BI.rd BI.fc hh ?_);have I0:Inv X m3 σ H { s with toks:=s.toks+1 }:=I.kept (t':=s.toks+1) λ_ _ q=>q;have hA:=ha m7 m3 _ σ H _ I0 h;rw[hs] at hA ⊢;refine j4 (by show(aB || (cL m7 (aO [b] X.env)).any (·.1))=aB;rw[hpl]<;>rfl) (gA ?_);refine YD hA λus s2 ⟨vs,H2,I2,r2,e,v,t0,ev,he,q⟩=>?_;subst ev
 obtain⟨u1,u2,rfl,rfl,rv⟩:∃u1 u2,us=[u1,u2]/\u1=bF e/\RelV v u2:=by
  cases r2 with
  | cons h1 h2=>cases h2 with
   | cons h3 h4=>cases h4;exact⟨_,_,rfl,h1,h3⟩
 obtain⟨bm,N,nm,qn,bs,hdct,sn,sub,ab,col,dd,k0,k1,k2,k3,k5,mN,hC',hN,hi,TL⟩:=Jt I2.kIn hC;obtain⟨hx,_,_⟩:=(show ObjOk X.prog X.w H2 s2.heap e (.ext (TQ C e t0)) from I2.hok e _ he);obtain⟨hp,g,d,tk,os⟩:=s2;refine IG F TL hC' hx λh' kp e1 e2=>?_;refine⟨.non,_,I2.write (t':=tk) (x:=e) (e:=e) (o:=.ext (TQ C e hp.objs.size)) (by rw[he];trivial) (.inl rfl) kp ⟨_,e1⟩ ⟨e1,⟨_,e1⟩,λh1 h2 z k=>k _ z⟩,rfl,q _⟩
theorem Ju(hC:exiIn X.K C bmB newId fI=aC)(hs':findIn X.K (.ref C) "__setattr__" = aA (aA (.builtin "object.__setattr__")))(hp:veOver X.K C=aC)(ht:takerIn X.K C f=aA none)(hd:(clsIn X.K C).any (·.hasDict)=aC)(hex:X.ex=[])
  (ha:PE X o ta) (hv:PE X value tv) (hs:dX value (aA (.Attribute o f np)) pos.line X.env=pure aB:=by rfl) :
  PS X (.Assign [.Attribute o f np] value pos) (λD σ H=>tv σ H λy H1=>ta σ H1 λz H2=>∃e t1,z = .ref e/\H2 e=aA (.ext (TQ C e t1))/\
   ∀dx od u,RelV y u->H2 dx=none->dx≠e->VL.NsO od f u->D.nx σ (upd (upd H2 dx (.frz od (.own dx))) e (.ext (Um C e t1 dx)))):=by
 intro m3 s σ H D I h;refine plainObj_wpAny_Assign_Attribute (YD (hv m3 s σ H _ I h) λu s1 ⟨y,H1,I1,ry,q⟩=>YD (ha m3 s1 σ H1 _ I1 q) λov s2 ⟨z,H2,I2,rz,e,t1,ez,he,q2⟩=>?_) hs;subst ez;obtain rfl:ov=bF e:=rz;obtain⟨hx,_,_⟩:=(show ObjOk X.prog X.w H2 s2.heap e (.ext (TQ C e t1)) from I2.hok e _ he);refine IF I2.kIn hx rfl rfl rfl hs' hp ht hd λh' tk' dx kp ex hsz hne hn=>?_;obtain⟨od,es,ep,ho,hdat,hsk,huk,hf⟩:=id hn;have hdx:H2 dx=none:=I2.hok.fresh hsz;have ns:VL.NsO od f u:=λhp b z=>⟨od,es,ep,z,hdat,hsk,huk,hf⟩;have I3:Inv X m3 σ (upd H2 e (.ext (Um C e t1 dx))) { s2 with heap:=h',toks:=tk' }:=I2.write (t':=tk') (x:=e) (e:=e) (o:=.ext (Um C e t1 dx)) (by rw[he];trivial) (.inl rfl) kp ⟨_,ex⟩ ⟨ex,⟨_,ex⟩,λh1 h2 z k=>k _ z⟩;have hdx3:upd H2 e (.ext (Um C e t1 dx)) dx=none:=by rw[upd_ne hne];exact hdx
 have off:E2 X m3 dx:=Uy I2 hex (cZ hsz);have I4:=Nh I3 (show({ s2 with heap:=h',toks:=tk' }:aI).heap.get? dx=aA od from ho) hdx3 off
 have sw:upd (upd H2 e (.ext (Um C e t1 dx))) dx (.frz od (.own dx))=upd (upd H2 dx (.frz od (.own dx))) e (.ext (Um C e t1 dx)):=by
  funext b;unfold upd;by_cases z:b=dx
  ·rw[mZ z,ma (λy=>hne (z.symm.trans y)),mZ z]
  ·rw[ma z];by_cases y:b=e
   ·rw[mZ y,mZ y]
   ·rw[ma y,ma y,ma z]
 rw[sw] at I4;exact⟨σ,_,I4,q2 dx od u ry hdx hne ns⟩
end
end VX
namespace VX
open PySem PySem.Spec PyProof.Rows L2
theorem MY{m:Nat}:∀{ts:List aR},(∀t∈ts,t.length<=m)->piled ts<=ts.length*(m+2)
 | [],_=>by simp[piled]
 | t::r,h=>by have h1:=MY (m:=m) (ts:=r) λu hu=>h u (by simp[hu]);have h2:=h t (by simp);rw[bK,Nat.add_mul,piled_cons];omega
theorem E3{m:Nat}{ts:List aR}(h:∀t∈ts,t.length<=m):(iU ", " ts).length<=ts.length*(m+2):=by
 by_cases q:ts=[]
 ·subst q;rw[show(iU ", " ([]:List aR)).length=0 from by decide];exact gC _
 ·have:=join_length_add ts q;have:=MY h;omega
theorem NX{m:Nat}{ts:List aR}(h:∀t∈ts,t.length<=m):(tupleText ts).length<=3+ts.length*(m+2):=by
 unfold tupleText;rw[fB,fB];have:=E3 h;have e1:(cN "(").length=1:=by decide
 have e2:(cN (if(ts.length==1)=aC then ",)" else ")" : String)).length<=2:=by split<;>decide
 omega
def PU(H:Hp)(v:V):Prop:=v = .non\/(∃i:Int,v = .int i/\i.natAbs.log2<1920)\/∃(a:aH) (is:List Int),v = .ref a/\H a=aA (.tup (is.map V.int))/\is.length<=100/\∀i∈is,i.natAbs.log2<1920
section
variable {X:Cx} {k:Nat} {e:aw} {te:TE} {y:aR} {p1 p2 p3:dm} {jj:Nat}
def Cg(te:TE):TE:=λσ H Q=>te σ H λv H1=>PU H1 v/\∀z,Q (.str z) H1
theorem Jw(hr:Room k X.A)(he:PE X e te)(hy:y.length<=1000:=by decide):PE X (.JoinedStr [.Constant (.str y) jj p1,.FormattedValue e (-1) none p2] p3) (Cg te):=by
 intro m3 s σ H Q I h;refine wpAny_JoinedStr ?_;show aZ _ _ (eval (.Constant (.str y) jj p1) X.env) _ _ s;refine YD (LF (X:=X) (x:=y) (j:=jj) (pos:=p1) m3 s σ H (λv H1=>v = .str y/\H1=H) I ⟨rfl,rfl⟩) λu s1 ⟨v,H1,I1,r,hv,hH⟩=>?_;subst hv hH;obtain⟨t,rfl⟩:=r;have e0:(kM++y).length=y.length:=by rw[fB];show 0+_=_;omega
 have sz:(1000:Nat)+200000<=sizeLine:=by decide
 refine⟨y,t,rfl,by omega,?_⟩;show aZ _ _ (eval (.FormattedValue e (-1) none p2) X.env) _ _ s1;refine wpAny_FormattedValue_plain ?_;refine YD (he m3 s1 σ H1 _ I1 h) λu s2 ⟨v,H2,I2,r,sh,q⟩=>?_
 have fin:∀(x:aR)(u:mR)(s3:aI),x.length<=200000->Inv X m3 σ H2 s3->∃(b:aR) (t2:mR),jH x u=jH b t2/\(kM++y++b).length<=sizeLine/\(kM++y++b).length<=sizeLine/\EP X m3 σ Q (.str (kM++y++b) s3.toks) { s3 with toks:=s3.toks+1 }:=λx u s3 hx I3=>by
  refine⟨x,u,rfl,?_,?_,.str _,H2,I3.tok _,⟨_,rfl⟩,q _⟩
  ·rw[fB,e0];omega
  ·rw[fB,e0];omega
 rcases sh with rfl | ⟨i,rfl,hi⟩ | ⟨a,is,rfl,ha,hl,hs⟩
 ·obtain rfl:u=bJ:=r;refine wpAny_formatField_none ?_;have I3:Inv X m3 σ H2 { s2 with toks:=s2.toks+1+1 }:=I2.kept (t':=s2.toks+1+1) λ_ _ z=>z;exact fin "None" _ _ (by decide) I3
 ·obtain⟨t2,rfl⟩:=r;refine formatField_int_small hi ?_;have:=kf (k:=1920) (by decide) hi;exact fin (toString i) _ _ (by rw[jr];omega) (I2.tok _)
 ·obtain rfl:u=bF a:=r;obtain⟨_,mY,rv,ob,ho,hc,n,hd⟩:=(show ObjOk X.prog X.w H2 s2.heap a (.tup (is.map V.int)) from I2.hok a _ ha);have rd:Reads s2.heap (.ref a) (.tuple (is.map eu)) []:=.tuple ho hc hd (Nd (by simpa using rv))
  have sl:(mM (is.map eu)).shown.length<=3+is.length*(1930+2):=by
   show(tupleText (jh (is.map eu))).length<=_;rw[IH];have:=NX (ts:=is.map λi=>cN (toString i)) (m:=1930) λt ht=>by obtain⟨i,hi,rfl⟩:=ah.mp ht;have:=kf (k:=1920) (by decide) (hs i hi);rw[jr];omega
   rwa [aN] at this
  have s2':is.length*(1930+2)<=193200:=by omega
  have hu:=hr.un;have dp:=II is
  refine formatField_of_reads rd (NW hs) (λz=>by rw[show(mM (is.map eu)).hasDict=ik (is.map eu) from rfl,Ke] at z;cases z) hr.gd (by
   show X.A.units+(ky (.tuple (is.map eu))+2)<eJ;simp only[ky];omega) (λ_ _ z=>z) (λh' u tk hk=>?_) (by omega)
  have I3:Inv X m3 σ H2 { s2 with heap:=h',toks:=tk }:=I2.kept hk;exact fin _ u _ (by omega) I3
end
end VX
namespace VX
open PySem PySem.W PySem.Spec PyProof.Rows L2 VL
def A9(C:aH)(f:aR):Sp:=λvs H Q _=>vs.length=2/\∃e v t0,vs=[.ref e,v]/\H e=aA (.ext (TQ C e t0))/\PU H v/\
 ∀t1 dx od u,RelV v u->H dx=none->dx≠e->NsO od f u->Q .non (upd (upd H dx (.frz od (.own dx))) e (.ext (Um C e t1 dx)))
def Ci(C:aH)(f:aR):TS:=
 Ao (Mm (λσ H Q=>UC (Th 0) (UC (Cg (Th 1)) NB) σ H λvs H1=>∃e v t0,vs=[.ref e,v]/\H1 e=aA (.ext (TQ C e t0))/\∀t1,Q .non (upd H1 e (.ext (TQ C e t1)))))
  (λD σ H=>Th 1 σ H λy H1=>Th 0 σ H1 λz H2=>∃e t1,z = .ref e/\H2 e=aA (.ext (TQ C e t1))/\
   ∀dx od u,RelV y u->H2 dx=none->dx≠e->NsO od f u->D.nx σ (upd (upd H2 dx (.frz od (.own dx))) e (.ext (Um C e t1 dx))))
theorem Ni{C:aH}{f a b:aR}{vs:List V}{H:Hp}{Q:VK}{E:XK}(h:A9 C f vs H Q E):Ci C f { nx:=λ_ H'=>Q .non H',rt:=Q } (start [a,b] vs) H:=by
 obtain⟨_,e,v,t0,rfl,he,sh,q⟩:=h;show Ci C f _ [aA (.ref e),aA v] H;refine⟨.ref e,rfl,v,rfl,sh,λz=>⟨e,.str z,t0,rfl,he,λt1=>?_⟩⟩;refine⟨v,rfl,.ref e,rfl,e,t1,rfl,upd_same,λdx od u rv hd hne ns=>?_⟩;rw[upd_ne hne] at hd;have:=q t1 dx od u rv hd hne ns
 have sw:upd (upd (upd H e (.ext (TQ C e t1))) dx (.frz od (.own dx))) e (.ext (Um C e t1 dx))=upd (upd H dx (.frz od (.own dx))) e (.ext (Um C e t1 dx)):=by
  funext c;unfold upd;by_cases y:c=e
  ·rw[mZ y,mZ y]
  ·rw[ma y,ma y,ma y]
 show Q .non (upd (upd (upd H e (.ext (TQ C e t1))) dx (.frz od (.own dx))) e (.ext (Um C e t1 dx)));rw[sw];exact this
def MZ(H:Hp)(e:aH):Hp:=λb=>if b=e then none else H b
theorem E4{X:Cx}{m3:List (aH×ck)}{σ:L2.St}{H:Hp}{s:aI}{e:aH}{φ:bV->Prop}(I:Inv X m3 σ H s)(he:H e=aA (.ext φ)):Inv X m3 σ (MZ H e) s:=by
 have ne:∀b u,H b=aA u->(∀ψ,u≠.ext ψ)->MZ H e b=aA u:=λb u q n=>by unfold MZ;rw[ma (λz=>by rw[z,he] at q;cases q;exact n _ rfl)];exact q
 have nn:∀b,H b=none->MZ H e b=none:=λb q=>by
  unfold MZ;split
  ·rfl
  ·exact q
 refine⟨I.ok,I.os,I.bare,⟨λb o q n hb hx=>?_,λb o q n hb hx=>?_,λb o q n hx=>nn b (I.base.free b o q n hx),I.base.there,λb xs q=>ne b _ (I.base.tups b xs q) (λ_ z=>nomatch z),λb o u q=>ne b _ (I.base.frzs b o u q) (λ_ z=>nomatch z),λb ps q=>?_⟩,I.loc,I.cell,nn _ I.free,λx c q=>nn c (I.freeC x c q),λp hp=>?_,λb u q=>?_,I.len⟩
 ·exact I.base.keep b o q n hb hx
 ·exact I.base.slot b o q n hb hx
 ·obtain⟨more,z⟩:=I.base.tbls b ps q;exact⟨more,ne b _ z λ_ z=>nomatch z⟩
 ·obtain⟨e1,n,r⟩:=I.pin p hp;exact⟨e1,nn _ n,r⟩
 ·have hb:H b=aA u:=by
   unfold MZ at q;split at q
   ·cases q
   ·exact q
  exact(I.hok b u hb).stay (λ_ _ _ r=>r) (λc r=>ne c _ r λ_ z=>nomatch z) λc xs r=>ne c _ r λ_ z=>nomatch z
structure BE(P:bC)(w:b6)(K:Frag)(mg:aR->Option aE)(base:bV)(C:aH)(f:aR)(bmB:List aE)(newId:String):Prop where
 ex:∃fI fd oI,exiIn K C bmB newId fI=aC/\K.lookup fI=aA oI/\oI.cls = .type "function"/\Binds K fd ["self",f] []/\Tq P w K mg base Mz 1 fI fd ["self",f] (A9 C f)
structure New(X:Cx)(E:XK):Prop where
 go:∀{m3:List (aH×ck)}{σ:L2.St}{H:Hp}{s:aI}{e:aH}{cls:aE}{dd:Option aH},Inv X m3 σ H s->Gx s.heap e cls dd->X.s₀.heap.get? e=none->H e=none->E cls dd H->X.xe (.ref e) s
section
variable {X:Cx} {E:XK} {C:aH} {bmB:List aE} {B newId initId:String} {x f:aR} {np m7 pos:dm} {a:aw} {ta:TE}
theorem IK(F:eY B newId initId bmB)(CF:BE X.prog X.w X.K X.mg X.base C f bmB newId)(hr:Room 2 X.A)(hg:Gl X x)(hm:X.mg x=aA (.ref C))(hcalm:X.calm=aC)(DX:New X E)(ha:PE X a ta)
  (hdb:(x==("__debug__" : aR))=aB:=by decide) (he:aO [a] X.env=(aB,eval a X.env)::aO [] X.env:=by rfl) :
  PS X (.Raise (aA (.Call (.Name x np) [a] [] m7)) none pos) (λ_ σ H=>ta σ H λv H1=>PU H1 v/\∀dx od u,RelV v u->H1 dx=none->NsO od f u->E (.ref C) (aA dx) (upd H1 dx (.frz od (.own dx)))):=by
 intro m3 s σ H D I h;obtain⟨fI,fd,oI,hq,hlf,hfc,hb,FO⟩:=CF.ex;have X0:X.K.In X.base:=I.ok.mod.kin;obtain⟨bm,N,nm,qn,bs,hdct,sn,sub,ab,col,dd,k0,k1,k2,k3,k5,mN,hC,hN,hi,TL⟩:=Jt X0 hq;refine U1 (nm:=nm) (q:=qn) (N:=N) (bs:=bs) (hdct:=hdct) (sn:=sn) (sub:=sub) (ab:=ab) (col:=col) (dd:=dd) (k0:=k0) (k1:=k1) (k2:=k2) (k3:=k3) (k5:=k5) F (mN:=mN) (fI:=fI) (oI:=oI) (TL.hasType F.hasBase) (I.ok.hd hcalm) (by rw[he];rfl) hi hfc (Wl I hg hm ⟨rfl,?_⟩ hdb);have pa:PA X [a] (UC ta NB):=Yh ha XI (hs:=he)
 have key:aZ (model X.prog X.w) X.A (spliced (cL m7 (aO [a] X.env))) (λus s₂=>us.length<=sizeLine/\s₂.heap.get? C=aA (cR nm qn C N bs bm hdct sn sub ab col dd k0 k1 k2 k3 k5 newId)/\s₂.heap.Ns N mN/\j9 s₂.heap bmB bm/\s₂.heap.get? fI=aA oI/\
    ∀h',(∀b o,s₂.heap.get? b=aA o->h'.get? b=aA o)->h'.get? (s₂.heap.objs.size+1)=aA { cls:=.ref C,data:=.fields #[.ref s₂.heap.objs.size,.none,.none,.none,.bool aB,.none] }->
     aZ (model X.prog X.w) (X.A.under (.builtin "type.__call__" ⟨.ref C::us,[]⟩)) (call (.ref fI) (.ref (s₂.heap.objs.size+1)::us)) (λr s₃=>r = .none/\∃t dx,s₃.heap.get? C=aA (cR nm qn C N bs bm hdct sn sub ab col dd k0 k1 k2 k3 k5 newId)/\
      s₃.heap.get? (s₂.heap.objs.size+1)=aA { cls:=.ref C,dict:=dx,data:=.fields #[.ref t,.none,.none,.none,.bool aB,.none] }/\X.xe (.ref (s₂.heap.objs.size+1)) s₃) X.xe { s₂ with heap:=h' }) X.xe s:=by
  refine YD (pa m7 m3 s σ H (λvs H1=>match vs with | [v]=>PU H1 v/\∀dx od u,RelV v u->H1 dx=none->NsO od f u->E (.ref C) (aA dx) (upd H1 dx (.frz od (.own dx))) | _=>False) I h) λus s₂ ⟨vs,H1,I1,r,q⟩=>?_
  obtain⟨v,rfl⟩:∃v,vs=[v]:=by
   match vs,q with
   | [v],_=>exact⟨v,rfl⟩
  obtain⟨hs,hE⟩:PU H1 v/\∀dx od u,RelV v u->H1 dx=none->NsO od f u->E (.ref C) (aA dx) (upd H1 dx (.frz od (.own dx))):=q;obtain⟨u,rfl,ru⟩:=VP r;refine⟨by show 1<=_;decide,I1.bk _ _ hC,hN.keeps I1.bk,TL.keeps I1.bk,I1.bk _ _ (X0 _ _ hlf),λh' kp ex=>?_⟩;generalize hea:s₂.heap.objs.size+1=e at ex ⊢;have hfr:s₂.heap.objs.size<=e:=by omega
  have hHe:H1 e=none:=I1.hok.fresh hfr;have I2:Inv X m3 σ (upd H1 e (.ext (TQ C e s₂.heap.objs.size))) { s₂ with heap:=h' }:=I1.laid (t':=s₂.toks) kp hfr ⟨ex,⟨_,ex⟩,λh1 h2 z k=>k _ z⟩
  have hs':PU (upd H1 e (.ext (TQ C e s₂.heap.objs.size))) v:=by
   rcases hs with z | z | ⟨c,is,z1,z2,z3⟩
   ·exact .inl z
   ·exact .inr (.inl z)
   ·exact .inr (.inr ⟨c,is,z1,by rw[upd_ne (ZJ z2 hHe)];exact z2,z3⟩)
  have r2:Vals [V.ref e,v] [bF e,u]:=.cons rfl (.cons ru .nil);let QF:VK:=λr H'=>r = .non/\∃t1 dx od u',RelV v u'/\H1 dx=none/\dx≠e/\NsO od f u'/\H'=upd (upd (upd H1 e (.ext (TQ C e s₂.heap.objs.size))) dx (.frz od (.own dx))) e (.ext (Um C e t1 dx));have hsp:A9 C f [V.ref e,v] (upd H1 e (.ext (TQ C e s₂.heap.objs.size))) QF E0:=⟨rfl,e,v,_,rfl,upd_same,hs',λt1 dx od u' h1 h2 h3 h4=>⟨rfl,t1,dx,od,u',h1,by rw[upd_ne h3] at h2;exact h2,h3,h4,rfl⟩⟩;refine f9 (eX (FO.run _ X.stack _ _ ⟨[.ref e,u],[]⟩ [.ref e,u] [V.ref e,v] QF E0 (hr.make C [u] []) (I2.env0.make C [u] []) (hb _ [.ref e,u] I2.kIn rfl) r2 hsp) λrr s' hq'=>?_)
  cases rr with
  | error ee=>exact b9 hq'
  | ok fl=>
   cases fl with
   | next=>exact b9 hq'
   | brk=>exact b9 hq'
   | cont=>exact b9 hq'
   | ret u2=>
    obtain⟨v2,H',I3,rv,ev,t1,dx,od,u',q1,q2,q3,q4,rfl⟩:=I2.after hq';subst ev;obtain⟨ho,_,_⟩:=(show ObjOk X.prog X.w _ s'.heap e (.ext (Um C e t1 dx)) from I3.hok e _ upd_same);have I4:=E4 I3 (e:=e) upd_same
    have eH:MZ (upd (upd (upd H1 e (.ext (TQ C e s₂.heap.objs.size))) dx (.frz od (.own dx))) e (.ext (Um C e t1 dx))) e=upd H1 dx (.frz od (.own dx)):=by
     funext c;unfold MZ upd;by_cases y:c=e
     ·rw[mZ y,ma (λz=>q3 (z.symm.trans y)),y,hHe]
     ·rw[ma y,ma y,ma y]
    rw[eH] at I4;refine⟨rv,t1,aA dx,I3.bk _ _ hC,ho,?_⟩;refine DX.go I4 ⟨_,_,ho,rfl,rfl,rfl,rfl⟩ ?_ ?_ (hE dx od u' q1 q2 q4)
    ·cases z:X.s₀.heap.get? e with
     | none=>rfl
     | some o=>
      exact absurd (af (aT z) I1.sz) (by omega)
    ·rw[upd_ne (cJ q3)];exact hHe
 rw[he] at key ⊢;exact gA (ay key (λus s₂ h2=>⟨rfl,h2⟩) λ_ _ z=>z)
end
end VX
namespace VX
open PySem PySem.Spec PyProof.Rows L2 VL
abbrev XF:=ZS->Option (aR×PV)
def GoY(K:aG)(E:XK)(H0:Hp)(n:aR)(l:PV):Prop:=∀C dx od u z H',bH K ao n=aA (aA (.ref C))->Same H0 H'->H' dx=aA (.frz od (.own dx))->NsO od (Uc n) u->RelV z u->Is K H' l z []->E (.ref C) (aA dx) H'
def tFY(K:aG)(O:List Nat)(fy:XF)(E:XK):TS:=λ_ σ H=>∃H0 fps s n l,Rel K O H0 fps s σ H/\fy s=aA (n,l)/\GoY K E H0 n l
def VY(X:Cx)(O:List Nat)(E:XK)(st:bj)(fy:XF):Prop:=PS X st (tFY X.K O fy E)
def E5(X:Cx)(O:List Nat)(E:XK)(st:List bj)(fy:XF):Prop:=PSs X st (tFY X.K O fy E)
def SG:PV->Bool
 | .non=>aC
 | .int i=>decide (i.natAbs.log2<1920)
 | .tup l=>match Ws l with
  | some is=>decide (is.length<=100)&&is.all λi=>decide (i.natAbs.log2<1920)
  | none=>aB
 | _=>aB
theorem GH{K:aG}{H:Hp}{l:PV}{v:V}{fp:List aH}(h:Is K H l v fp)(g:SG l=aC):PU H v/\fp=[]:=by
 cases l with
 | non=>exact⟨.inl h.non_inv.1,h.non_inv.2⟩
 | int i=>exact⟨.inr (.inl ⟨i,h.int_inv.1,of_decide_eq_true g⟩),h.int_inv.2⟩
 | tup l=>
  have g':(match Ws l with | some is=>decide (is.length<=100)&&is.all λi=>decide (i.natAbs.log2<1920) | none=>aB)=aC:=g;split at g'
  ·rename_i is his;have:=Ui his;subst this;obtain⟨p,xs,rfl,hp,hi⟩:=h.tup_inv;obtain⟨rfl,rfl⟩:=hi.iL;rw[bE] at g';exact⟨.inr (.inr ⟨p,is,rfl,hp,of_decide_eq_true g'.1,λi hi=>of_decide_eq_true (bB.mp g'.2 i hi)⟩),rfl⟩
  ·cases g'
 | bl b=>cases g
 | str x=>cases g
 | ty n=>cases g
 | exc n=>cases g
 | exf n l=>cases g
 | lst l=>cases g
 | cst l=>cases g
 | dK ks l=>cases g
 | dT ks l=>cases g
def U2(n:aR)(f:XE):XF:=λs=>(f s).bind λl=>if SG l=aC then aA (n,l) else none
def NY(fc:XT)(f g:XF):XF:=λs=>(fc s).bind λc=>if c=aC then f s else g s
def Xo(f1:XF)(f:XS)(g:XF):XF:=λs=>match f1 s with
 | some c=>aA c
 | none=>(match f s with
  | some (.nx s')=>g s'
  | _=>none)
def S1:XF:=λ_=>none
section
variable {X:Cx} {O W:List Nat} {E:XK} {C:aH} {bmB:List aE} {B newId initId:String} {x:aR} {np m7 pos:dm} {e:aw} {f:XE}
theorem PX(F:eY B newId initId bmB)(CF:BE X.prog X.w X.K X.mg X.base C (Uc x) bmB newId)(hr:Room 2 X.A)(hg:Gl X x)(hm:X.mg x=aA (.ref C))(hns:bH X.K ao x=aA (aA (.ref C)))(hcalm:X.calm=aC)(DX:New X E)(he:VE X e f)
  (hdb:(x==("__debug__" : aR))=aB:=by decide) (hst:aO [e] X.env=(aB,eval e X.env)::aO [] X.env:=by rfl) :
  VY X O E (.Raise (aA (.Call (.Name x np) [e] [] m7)) none pos) (U2 x f):=
 PS.imp (IK F CF hr hg hm hcalm DX he hdb hst) λD σ H ⟨H0,fps,s,n,l,r,e,q⟩=>by
  obtain⟨l',hl,e⟩:=Zd e;split at e
  ·rename_i hs;cases e;refine⟨λ_=>False,s,l,λ_ z=>z.elim,r.env,hl,λv H' fp sm i _=>?_⟩;obtain⟨sh,rfl⟩:=GH i hs;refine⟨sh,λdx od u rv hd ns=>q C dx od u v _ hns ((r.same.trans sm).trans (Same.new hd _)) upd_same ns rv (i.mono (Same.new hd _))⟩
  ·cases e
variable {st:bj} {m6 a b:List bj} {c:aw} {fc:XT} {f1 g1:XF} {fs:XS}
theorem PY:VY X O E st S1:=λm3 s σ H D I ⟨_,_,_,_,_,_,e,_⟩=>by cases e
theorem PZ:E5 X O E m6 S1:=λm3 s σ H D I ⟨_,_,_,_,_,_,e,_⟩=>by cases e
theorem GI(hc:VT X c fc)(ha:E5 X O E a f1)(hb:E5 X O E b g1):VY X O E (.If c a b pos) (NY fc f1 g1):=PS.imp (HF hc ha hb) λD σ H ⟨H0,fps,s,n,l,r,e,q⟩=>by
 obtain⟨d,e1,e⟩:=Zd e;refine⟨λ_=>False,s,d,λ_ z=>z.elim,r.env,e1,λH1 s1=>?_⟩
 cases d with
 | true=>rw[mZ rfl] at e ⊢;exact⟨H0,fps,s,n,l,r.grow s1,e,q⟩
 | false=>rw[ma a0] at e ⊢;exact⟨H0,fps,s,n,l,r.grow s1,e,q⟩
theorem Q8(h:VY X O E st f1):E5 X O E [st] f1:=Ra h
theorem XQ(h1:VY X O E st f1)(hs:VS X O W st fs)(h2:E5 X O E m6 g1):E5 X O E (st::m6) (Xo f1 fs g1):=by
 intro m3 s σ H D I ⟨H0,fps,sp,n,l,r,e,q⟩;unfold Xo at e;split at e
 ·rename_i c hc;cases e;exact Ng h1 (λ_ _ _ _ z=>z) m3 s σ H D I ⟨H0,fps,sp,_,_,r,hc,q⟩
 ·split at e
  ·rename_i s' hf;refine Tj hs h2 m3 s σ H D I ⟨H0,fps,sp,.nx s',r,hf,λm8 σ' H' r' _=>?_⟩;exact⟨H0,m8,s',n,l,r',e,q⟩
  ·cases e
end
def Qq(T:Tgt)(fy:XF)(fb:XS):List PV->ZS->Option (aR×PV)
 | [],_=>none
 | l::ls,s=>(WW T l s).bind λs1=>match fy s1 with
  | some n=>aA n
  | none=>(match fb s1 with
   | some (.nx s2)=>Qq T fy fb ls s2
   | some (.ct s2)=>Qq T fy fb ls s2
   | _=>none)
def Kh(O:List Nat)(fi:XL)(T:Tgt)(fy:XF)(fb:XS):XF:=λs=>(fi (Ya O s)).bind λls=>Qq T fy fb ls s
theorem BF{X:Cx}{sts:List bj}{t u:TS}(h1:PSs X sts t)(h2:PSs X sts u):PSs X sts (λD σ H=>t D σ H\/u D σ H):=λm3 s σ H D I h=>h.elim (h1 m3 s σ H D I) (h2 m3 s σ H D I)
section
variable {K:aG} {O W:List Nat} {T:Tgt} {fb:XS} {fy:XF} {E:XK}
theorem IL{H1:Hp}{fps:Nat->List aH}{s:ZS}{σ:SK}{D:Uz}{J:It}{ls:List PV}{n:aR}{lv:PV}(r:Rel K O (Wd H1 (Ow O fps)) fps s σ H1)(jis:A1 K (Ow O fps) H1 J ls)(e:Qq T fy fb ls s=aA (n,lv))(hT:∀i∈T.slots,i∉O)
  (k:GoY K E (Wd H1 (Ow O fps)) n lv):Eu (gT K T) (λD σ H=>Gg K O W fb D σ H\/tFY K O fy E D σ H) D σ J H1:=by
 refine⟨λi m σ' H'=>m=ls.length-i/\i<=ls.length/\∃m8 s',Rel K O (Wd H1 (Ow O fps)) m8 s' σ' H'/\Qq T fy fb (ls.drop i) s'=aA (n,lv),
  ⟨ls.length,by simp,gC _,fps,s,r,e⟩,?_⟩
 rintro i m σ' H' ⟨rfl,hi,m8,s',r',e'⟩;have ab:Ab (Ow O fps) H1 H':=λb o h n=>r'.same b o (by unfold Wd;rw[ma n];exact h)
 cases q:ls.drop i with
 | nil=>rw[q] at e';cases e'
 | cons l rr=>
  obtain⟨hl,hr⟩:=Tw q;have hilt:i<ls.length:=(aL.mp hl).1;rw[q] at e';unfold Qq at e';obtain⟨sb,eb,e'⟩:=Zd e'
  refine .inr ⟨jis.go H' i l ab hl,λσ2 H2=>∃fps2 s2,Rel K O (Wd H1 (Ow O fps)) fps2 s2 σ2 H2/\Qq T fy fb (ls.drop (i+1)) s2=aA (n,lv),
   λσ2 H2 h2=>⟨ls.length-(i+1),by omega,rfl,hilt,h2⟩,λx H2 y=>?_⟩
  obtain⟨s2,fx,ix,nx⟩:=jis.yld H' i l x H2 ab hl y;obtain⟨bl,bv,bf,rfl,bi,blen,bsub,buse⟩:=Qh (K:=K) ix eb;obtain⟨fps3,r3,q3⟩:=Rel.setAll (is:=T.slots) (r'.grow s2) bi blen hT λj hj p hp z=>by obtain⟨n1,n2⟩:=nx p (bsub p z);have:=(r'.own j hj p hp).1;unfold Wd at this;rw[ma n2] at this;exact n1 this
  refine buse _ _ ?_;split at e'
  ·rename_i nl hy;cases e';exact .inr ⟨_,fps3,_,_,_,r3,hy,k⟩
  ·split at e'
   ·rename_i s4 ho;exact .inl ⟨_,fps3,_,.nx s4,r3,ho,λfps4 σ4 H4 r4 _=>⟨fps4,s4,r4,by rw[hr];exact e'⟩⟩
   ·rename_i s4 ho;exact .inl ⟨_,fps3,_,.ct s4,r3,ho,λfps4 σ4 H4 r4 _=>⟨fps4,s4,r4,by rw[hr];exact e'⟩⟩
   ·cases e'
end
section
variable {X:Cx} {O W:List Nat} {tg iter:aw} {body:List bj} {fi:XL} {T:Tgt} {fb:XS} {fy:XF} {E:XK} {pos:dm}
theorem BG(hp:iK (model X.prog X.w) X.A X.env X.xe)(hc:X.calm=aC)(hi:VI X tg iter fi)(hg:PG X tg (gT X.K T))(hb:NN X O W body fb)(hy:E5 X O E body fy)(hT:∀i∈T.slots,i∉O:=by decide)
  (hs:∀x,bw iter X.env x=pure x:=by intro _;rfl):VY X O E (.For tg iter body [] pos) (Kh O fi T fy fb):=PS.imp (SJ hp hc hi hg (BF hb hy) hs) λD σ H ⟨H0,fps,s,n,l,r,e,k⟩=>by
 obtain⟨ls,e1,e⟩:=Zd e;refine⟨Ow O fps,Ya O s,ls,r.owMut,r.envO,e1,λJ H1 s1 jis=>?_⟩;exact IL (W:=W) (r.grow s1).frame jis e hT λC dx od u z H' a1 a2 a3 a4 a5 a6=>k C dx od u z H' a1 ((r.grow s1).under.trans a2) a3 a4 a5 a6
end
def spY(K:aG)(R:List PV->Option (aR×PV))(n:Nat):Sp:=λvs H _ E=>vs.length=n/\∃ls fp nm l,Iss K H ls vs fp/\R ls=aA (nm,l)/\GoY K E H nm l
def BH(m:Nat)(fy:XF):List PV->Option (aR×PV):=λls=>fy (YT m ls)
section
variable {K:aG} {P:bC} {w:b6} {mg:aR->Option aE} {base:bV}
open Classical in
theorem BJ{N:List aR}{O:List Nat}{n:Nat}{fy:XF}{vs:List V}{H:Hp}{Q:VK}{E:XK}{D:Uz}(hO:∀i∈O,n<=i)(h:spY K (BH N.length fy) n vs H Q E):tFY K O fy E D (L2.start N vs) H:=by
 obtain⟨hl,ls,fp,nm,lv,hi,e,q⟩:=h;obtain⟨H0,fps,s,out,r,e1,k⟩:=QZ (N:=N) (n:=n) (O:=O) (W:=[]) (f:=λs=>if s=YT N.length ls then aA (.rt .non) else none) (vs:=vs) (H:=H) (Q:=λ_ H'=>Same H H') (E:=λ_ _ _=>True) hO ⟨hl,ls,fp,.non,hi,by unfold WC;simp[Xv],λ_ H' _ sm _ _ _=>sm⟩;simp only at e1;split at e1
 ·rename_i hs;cases e1;subst hs;exact⟨H0,fps,_,nm,lv,r,e,λC dx od u z H' hc sm a1 a2 a3 a4=>q C dx od u z H' hc (k .non [] H' sm Is.non bx λp hp=>by simp at hp) a1 a2 a3 a4⟩
 ·cases e1
theorem def_y{x:aR}{st:bj}{N ps:List aR}{k n:Nat}{O:List Nat}(m:Nat)(fy:XF)(D:Def K mg x st)(S:Z6 N ps (Zp st))
  (hb:∀(kV doc pm:aE)(an:Option aH)(cdv ct:aE)(us:List aE),us.length=ps.length->iP (cV x x (XX st) (YL st) (Zp st) .none kV doc pm an cdv ct) ⟨us,[]⟩=pure (ps.zip us))
  (hn:ps.length=n) (hm:N.length=m) (hO:∀i∈O,n<=i)
  (hbody:∀(fa:aH)(cdv:aE)(A:b5)(outer:List iu)(s:aI)(H:Hp)(E:XK),Room k (A.deeper (gX x (Zp st) s.heap.objs.size fa cdv))->E5 (R7 (EZ P w) P w K mg base N x (Zp st) fa cdv A outer s H E) O E (YL st) fy) :
  CalX P w K mg base x ps (spY K (BH m fy) n) (k+1):=by
 subst hm;obtain⟨f,fd,hm,F⟩:=D.ex;refine⟨f,fd,hm,F.kp,F.binds hb,?_⟩;obtain⟨oc,od,kV,doc,pm,an,cdv,ct,osl,rfl,lk,hcd⟩:=F.ex;exact HM lk hcd S (λvs H Q E h=>by rw[hn];exact h.1) λA outer s H vs Q E hr hsp=>⟨_,hbody f cdv A outer s H E hr,BJ hO hsp⟩
end
def P0(R:List PV->Option (aR×PV))(fs:List XE)(i:Nat)(f:XS):XS:=λs=>(UX fs s).bind λls=>(R ls).bind λnl=>(f (s.set i (aA (.exf nl.1 nl.2)))).map (Cf i)
section
variable {prog:bC} {w:b6} {A:b5} {E:aE->aI->Prop} {K:aG} {a C:aH}
theorem IM{s:aI}{Q:Option aE->aI->Prop}(X:K.In s.heap){o:ck}{vs:Array aE}(hx:s.heap.get? a=aA o)(hc:o.cls = .ref C)(hd:o.data = .fields vs)(hdd:o.dict=none)
  (g1:az K (.ref C) "__getattribute__" = aA (aA (.builtin "BaseException.__getattribute__")))
  (g2:az K (.ref C) "__getattr__" = aA none) (g3:az K (.ref C) "__class__" = aA (aA (.builtin "object.__class__"))) (g4:gL K C (.type "object")=aA aC) (g5:cB K C "BaseException" = aC)
  (h:Q (aA (.ref C)) { s with toks:=s.toks+1 }):aZ (model prog w) A (lq (.ref a) "__class__") Q E s:=by
 obtain⟨hh,g,d,t,os⟩:=s;have I:di hh a o C none:=⟨hx,hc,by unfold lx;rw[hd],by rw[hdd];trivial⟩;have L0:=I.type (M:=model prog w);have L1:=cM (M:=model prog w) X g1;unfold lq getAttrBy? getAttrBy;refine aF (kz (aF (jB (dY (aF (L0.at (aF (L1.at ?_))))))));have L2:=cM (M:=model prog w) X g2;have L3:=cM (M:=model prog w) X g3;show aZ (model prog w) A (fN (.ref a) (.str "__class__" t) (.ref C) (.builtin "BaseException.__getattribute__") aB aB) _ _ _;have f3:=F.attr_ValueError.ga.bind (.ref a);unfold fN
 repeat (any_goals (first | assumption | wp_step | (refine aF (L2.at ?_)) | (refine L2.at ?_)))
 obtain⟨nm,qn,N,bs,bm,hdct,sn,sub,ab,col,dc,k0,k1,k2,k3,k5,nid,hC,hbase,_⟩:=dt X g5;have hC:hh.get? C=aA (cR nm qn C N bs bm hdct sn sub ab col dc k0 k1 k2 k3 k5 nid):=hC;have hcB:(bF C::bm).contains (.type "BaseException")=aC:=by rw[eO,hbase,g7]
 have L0':=I.type (M:=model prog w);show gF (model prog w) A (.call (.builtin "BaseException.__getattribute__") ⟨[.ref a,.str "__class__" t],[]⟩) _ ⟨hh,g,d,t+1,os⟩;refine eZ F.attr_ValueError.ga.plain F.entry_bexc_ga ?_;have hk:lV "BaseException.__getattribute__" = aA .slot:=by decide +kernel
 have hsplit:splitId "BaseException.__getattribute__" = aA ("BaseException","__getattribute__"):=by decide +kernel
 have ha:=F.args_bexc_ga (.ref a) (.str "__class__" t);simp only[jQ,hk,hsplit];refine aF ?_;unfold ja
 repeat (first | (with_reducible refine bc hx ?_;rw[hc]) | (with_reducible refine cS hC ?_;rw[hcB]) | wp_step)
 refine L3.at ?_;have f5:=js;have f6:=F.slot_gs_get.lookup;have f7:=F.slot_gs_set.lookup
 repeat (any_goals (first | assumption | (with_reducible refine bc hx ?_;rw[hc]) | wp_step))
 have X':K.In (⟨hh,g,d,t+1,os⟩:aI).heap:=X;have I':di (⟨hh,g,d,t+1,os⟩:aI).heap a o C none:=I;refine lB X' I' g4 ?_
 repeat (any_goals (first | assumption | wp_step))
end
def Zb1(a C:aH)(h:bV):Prop:=∃o,h.get? a=aA o/\o.cls = .ref C/\o.dict=none/\∃vs,o.data = .fields vs
structure QH(K:aG)(C:aH):Prop where
 ga:az K (.ref C) "__getattribute__" = aA (aA (.builtin "BaseException.__getattribute__"))
 gr:az K (.ref C) "__getattr__" = aA none
 cl:az K (.ref C) "__class__" = aA (aA (.builtin "object.__class__"))
 mr:gL K C (.type "object")=aA aC
 kt:cB K C "BaseException" = aC
theorem M0{K:aG}{a C:aH}(c:QH K C):mO K (.ref a) (.ref C) (Zb1 a C) where
 ty:=λM h _ ⟨o,h1,h2,_⟩=>h2▸(PySem.W.Looks.ld h1).andThen .now
 it:=λM h X _=>by obtain⟨nm,qn,N,bs,bm,hdct,sn,sub,ab,col,dc,k0,k1,k2,k3,k5,nid,hC,_⟩:=dt X c.kt;intro A' Q' E' s' k q;unfold isType loadHead;exact aF (kD (k _ _ hC) (aa q))
 ne:=λh tp dd mY n sl X htp=>by obtain⟨nm,qn,N,bs,bm,hdct,sn,sub,ab,col,dc,k0,k1,k2,k3,k5,nid,hC,_⟩:=dt X c.kt;refine g8.mpr λq=>?_;have e:C=tp:=bF.inj (beq_iff_eq.mp q);subst e;rw[hC] at htp;exact absurd (congrArg ck.cls (bU htp)) (show ¬(kZ "type" = kZ "tuple") by decide)
 ca:=λX ⟨o,h1,h2,h3,vs,h4⟩ k=>IM X h1 h2 h4 h3 c.ga c.gr c.cl c.mr c.kt k
def X1(tb:aR->Option Bool)(f:XE):XE:=λs=>match f s with
 | some (.exc n)=>(tb n).map PV.bl
 | _=>none
inductive ClsV:V->aE->Prop
 | own (C:aH):ClsV (.ref C) (.ref C)
 | ty (T:String):ClsV (.ty T) (.type T)
theorem ClsV.rel{cv:V}{c u:aE}(h:ClsV cv c)(r:RelV cv u):u=c:=by
 cases h with
 | own C=>exact r
 | ty T=>exact r
section
variable {X:Cx} {e:aw} {f:XE} {cx:aR} {p p2 pos:dm} {tb:aR->Option Bool} {c:aE} {cv:V}
theorem Ki:W8 X (.builtin "isinstance") (λxs H Q=>∃a C cv c b o x,xs=[.ref a,cv]/\ClsV cv c/\H a=aA (.frz o (.own x))/\o.cls = .ref C/\o.dict=none/\(∃vs,o.data = .fields vs)/\QH X.K C/\aX X.K (.ref C) c=aA b/\Q (.bl b) H):=by intro m3 s σ H xs us Q I r h;obtain⟨a,C,cv,c,b,o,x,rfl,hcv,hH,hc,hd,hv,ec,hk,q⟩:=h;obtain⟨u,v,rfl,ru,rv⟩:=KQ r;obtain rfl:=hcv.rel rv;obtain rfl:u=bF a:=ru;exact l3 (M0 ec) I.kIn ⟨o,(I.hok a _ hH).1,hc,hd,hv⟩ hk (λz=>nomatch z) λtk=>⟨.bl b,H,I.tok tk,rfl,q⟩
theorem Jx{C:aH}(hg:Gl X cx)(hm:X.mg cx=aA (.ref C))(hdb:(cx==("__debug__" : aR))=aB:=by decide):PE X (.Name cx p2) (λ_ H Q=>Q (.ref C) H):=λm3 s σ H Q I h=>Wl I hg hm ⟨.ref C,H,I,rfl,h⟩ hdb
theorem Jy{T:String}(hg:Gl X cx)(hm:X.mg cx=none)(hv:eD cx=aA (.type T))(hn:cx≠"__name__":=by decide)(hdb:(cx==("__debug__" : aR))=aB:=by decide):PE X (.Name cx p2) (λ_ H Q=>Q (.ty T) H):=λm3 s σ H Q I h=>R3 I hg hm hv ⟨.ty T,H,I,rfl,h⟩ hn hdb
theorem GJ(hgi:Gl X "isinstance")(hm:X.mg "isinstance" = none)(he:VE X e f)(hcv:ClsV cv c)(hc:PE X (.Name cx p2) (λ_ H Q=>Q cv H))
  (ht:∀n b,tb n=aA b->∃C,bH X.K ao n=aA (aA (.ref C))/\QH X.K C/\aX X.K (.ref C) c=aA b)
  (hst:aO [e,.Name cx p2] X.env=(aB,eval e X.env)::aO [.Name cx p2] X.env:=by rfl) (hst2:aO [.Name cx p2] X.env=(aB,eval (.Name cx p2) X.env)::aO [] X.env:=by rfl) (hpl:(cL pos (aO [.Name cx p2] X.env)).any (·.1)=aB:=by rfl):VM X (.Call (.Name "isinstance" p) [e,.Name cx p2] [] pos) (X1 tb f):=
 PE.imp (Rb Ki hgi hm (by decide +kernel) (Yh he (Yh hc XI (hs:=hst2)) (hs:=hst)) (by decide) (by decide) hst hpl) λσ H Q ⟨s,l,env,e1,k⟩=>by
  unfold X1 at e1;split at e1
  ·rename_i n hn;obtain⟨b,hb,rfl⟩:=map_some e1;obtain⟨C,hns,ec,hk⟩:=ht n b hb;refine⟨λ_=>False,s,.exc n,λ_ z=>z.elim,env,hn,λv H1 fp s1 i1 _=>?_⟩;simp only[Is] at i1;obtain⟨⟨ea,o,x,C',rfl,hH,hcl,hn',hd,hv⟩,_⟩:=i1;rw[hns] at hn';cases hn';exact⟨ea,C,cv,c,b,o,x,rfl,hcv,hH,hcl,hd,hv,ec,hk,k _ H1 [] s1 (Is.bl _) bx λp hp=>by simp at hp⟩
  ·cases e1
end
section
variable {prog:bC} {w:b6} {A:b5} {E:aE->aI->Prop} {K:aG} {a C:aH}
theorem Kj{s:aI}{Q:Option aE->aI->Prop}(X:K.In s.heap){o:ck}{ood:Option ck}(I:di s.heap a o C ood)
  (g1:az K (.ref C) "__getattribute__" = aA (aA (.builtin "BaseException.__getattribute__")))
  (g2:az K (.ref C) "__getattr__" = aA none) (g3:az K (.ref C) "__class__" = aA (aA (.builtin "object.__class__"))) (g4:gL K C (.type "object")=aA aC) (g5:cB K C "BaseException" = aC)
  (h:Q (aA (.ref C)) { s with toks:=s.toks+1 }):aZ (model prog w) A (lq (.ref a) "__class__") Q E s:=by
 obtain⟨hh,g,d,t,os⟩:=s;have I:di hh a o C ood:=I;have hx:=I.at_;have hc:=I.cls;have L0:=I.type (M:=model prog w);have L1:=cM (M:=model prog w) X g1;unfold lq getAttrBy? getAttrBy;refine aF (kz (aF (jB (dY (aF (L0.at (aF (L1.at ?_))))))));have L2:=cM (M:=model prog w) X g2;have L3:=cM (M:=model prog w) X g3;show aZ (model prog w) A (fN (.ref a) (.str "__class__" t) (.ref C) (.builtin "BaseException.__getattribute__") aB aB) _ _ _;have f3:=F.attr_ValueError.ga.bind (.ref a);unfold fN
 repeat (any_goals (first | assumption | wp_step | (refine aF (L2.at ?_)) | (refine L2.at ?_)))
 obtain⟨nm,qn,N,bs,bm,hdct,sn,sub,ab,col,dc,k0,k1,k2,k3,k5,nid,hC,hbase,_⟩:=dt X g5;have hC:hh.get? C=aA (cR nm qn C N bs bm hdct sn sub ab col dc k0 k1 k2 k3 k5 nid):=hC;have hcB:(bF C::bm).contains (.type "BaseException")=aC:=by rw[eO,hbase,g7]
 have L0':=I.type (M:=model prog w);show gF (model prog w) A (.call (.builtin "BaseException.__getattribute__") ⟨[.ref a,.str "__class__" t],[]⟩) _ ⟨hh,g,d,t+1,os⟩;refine eZ F.attr_ValueError.ga.plain F.entry_bexc_ga ?_;have hk:lV "BaseException.__getattribute__" = aA .slot:=by decide +kernel
 have hsplit:splitId "BaseException.__getattribute__" = aA ("BaseException","__getattribute__"):=by decide +kernel
 have ha:=F.args_bexc_ga (.ref a) (.str "__class__" t);simp only[jQ,hk,hsplit];refine aF ?_;unfold ja
 repeat (first | (with_reducible refine bc hx ?_;rw[hc]) | (with_reducible refine cS hC ?_;rw[hcB]) | wp_step)
 refine L3.at ?_;have f5:=js;have f6:=F.slot_gs_get.lookup;have f7:=F.slot_gs_set.lookup
 repeat (any_goals (first | assumption | (with_reducible refine bc hx ?_;rw[hc]) | wp_step))
 have X':K.In (⟨hh,g,d,t+1,os⟩:aI).heap:=X;have I':di (⟨hh,g,d,t+1,os⟩:aI).heap a o C ood:=I;refine lB X' I' g4 ?_
 repeat (any_goals (first | assumption | wp_step))
theorem Kk{s:aI}{Q:aE->aI->Prop}{f:aR}{cd:ClassData}{v:aE}(X:K.In s.heap){o:ck}{ood:Option ck}(I:di s.heap a o C ood)
  (g1:az K (.ref C) "__getattribute__" = aA (aA (.builtin "BaseException.__getattribute__")))
  (g2:az K (.ref C) "__getattr__" = aA none) (g3:az K (.ref C) f=aA none) (g4:gM K C=aA cd) (gw:mG cd ood f=aA (aA v)) (g5:cB K C "BaseException" = aC) (hv:lJ v=aC)
  (h:Q v { s with toks:=s.toks+1 }):aZ (model prog w) A (getAttr (.ref a) f aC) Q E s:=by
 obtain⟨hh,g,d,t,os⟩:=s;have I:di hh a o C ood:=I;have hx:=I.at_;have hc:=I.cls;have L0:=I.type (M:=model prog w);have L1:=cM (M:=model prog w) X g1;unfold getAttr getAttrBy;refine aF (kz (dY (aF (L0.at (aF (L1.at ?_))))));have L2:=cM (M:=model prog w) X g2;have L3:=cM (M:=model prog w) X g3;have L4:=PySem.W.looks_own (M:=model prog w) X I g4 gw;show aZ (model prog w) A (fN (.ref a) (.str f t) (.ref C) (.builtin "BaseException.__getattribute__") aC aC) _ _ _;have f3:=F.attr_ValueError.ga.bind (.ref a);unfold fN
 repeat (any_goals (first | assumption | wp_step | (refine aF (L2.at ?_)) | (refine L2.at ?_)))
 obtain⟨nm,qn,N,bs,bm,hdct,sn,sub,ab,col,dc,k0,k1,k2,k3,k5,nid,hC,hbase,_⟩:=dt X g5;have hC:hh.get? C=aA (cR nm qn C N bs bm hdct sn sub ab col dc k0 k1 k2 k3 k5 nid):=hC;have hcB:(bF C::bm).contains (.type "BaseException")=aC:=by rw[eO,hbase,g7]
 show gF (model prog w) A (.call (.builtin "BaseException.__getattribute__") ⟨[.ref a,.str f t],[]⟩) _ ⟨hh,g,d,t+1,os⟩;refine eZ F.attr_ValueError.ga.plain F.entry_bexc_ga ?_;have hk:lV "BaseException.__getattribute__" = aA .slot:=by decide +kernel
 have hsplit:splitId "BaseException.__getattribute__" = aA ("BaseException","__getattribute__"):=by decide +kernel
 have ha:=F.args_bexc_ga (.ref a) (.str f t);simp only[jQ,hk,hsplit];refine aF ?_;unfold ja
 repeat (first | (with_reducible refine bc hx ?_;rw[hc]) | (with_reducible refine cS hC ?_;rw[hcB]) | wp_step)
 refine L3.at ?_;refine aF (aa (aF (aa ?_)));show aZ _ _ (gg (.ref a) f none none) _ _ _;unfold gg;refine aF (L4.at ?_);refine aF (wpAny_rule (aa ?_));refine aa ?_;show aZ (model prog w) A (handedOut v) Q E _;rw[PySem.W.handedOut_of hv];exact aa h
end
def Zaa(a C:aH)(h:bV):Prop:=∃o ood,di h a o C ood
theorem IP{K:aG}{a C:aH}(c:QH K C):mO K (.ref a) (.ref C) (Zaa a C) where
 ty:=λM h _ ⟨o,ood,I⟩=>I.type
 it:=λM h X _=>by obtain⟨nm,qn,N,bs,bm,hdct,sn,sub,ab,col,dc,k0,k1,k2,k3,k5,nid,hC,_⟩:=dt X c.kt;intro A' Q' E' s' k q;unfold isType loadHead;exact aF (kD (k _ _ hC) (aa q))
 ne:=(M0 (a:=a) c).ne
 ca:=λX ⟨o,ood,I⟩ k=>Kj X I c.ga c.gr c.cl c.mr c.kt k
def XH(tb:aR->Option Bool)(f:XE):XE:=λs=>match f s with
 | some (.exf n _)=>(tb n).map PV.bl
 | _=>none
theorem Jz{X:Cx}{m3:List (aH×ck)}{σ:L2.St}{H:Hp}{s:aI}{a dx x C:aH}{o od:ck}{vs:Array aE}(I:Inv X m3 σ H s)(hH:H a=aA (.frz o (.own x)))(hc:o.cls = .ref C)(hd:o.dict=aA dx)(hv:o.data = .fields vs)(hdx:H dx=aA (.frz od (.own dx))) :
  di s.heap a o C (aA od):=⟨(I.hok a _ hH).1,hc,by unfold lx;rw[hv],by rw[hd];exact(I.hok dx _ hdx).1⟩
section
variable {X:Cx} {e:aw} {f:XE} {cx:aR} {p p2 pos:dm} {tb:aR->Option Bool} {c:aE} {cv:V}
theorem M1:W8 X (.builtin "isinstance") (λxs H Q=>∃a C cv c b o x dx od,xs=[.ref a,cv]/\ClsV cv c/\H a=aA (.frz o (.own x))/\o.cls = .ref C/\o.dict=aA dx/\(∃vs,o.data = .fields vs)/\H dx=aA (.frz od (.own dx))/\QH X.K C/\aX X.K (.ref C) c=aA b/\Q (.bl b) H):=by intro m3 s σ H xs us Q I r h;obtain⟨a,C,cv,c,b,o,x,dx,od,rfl,hcv,hH,hc,hd,⟨vs,hv⟩,hdx,ec,hk,q⟩:=h;obtain⟨u,v,rfl,ru,rv⟩:=KQ r;obtain rfl:=hcv.rel rv;obtain rfl:u=bF a:=ru;exact l3 (IP ec) I.kIn ⟨o,aA od,Jz I hH hc hd hv hdx⟩ hk (λz=>nomatch z) λtk=>⟨.bl b,H,I.tok tk,rfl,q⟩
theorem GK(hgi:Gl X "isinstance")(hm:X.mg "isinstance" = none)(he:VE X e f)(hcv:ClsV cv c)(hc:PE X (.Name cx p2) (λ_ H Q=>Q cv H))
  (ht:∀n b,tb n=aA b->∃C,bH X.K ao n=aA (aA (.ref C))/\QH X.K C/\aX X.K (.ref C) c=aA b)
  (hst:aO [e,.Name cx p2] X.env=(aB,eval e X.env)::aO [.Name cx p2] X.env:=by rfl) (hst2:aO [.Name cx p2] X.env=(aB,eval (.Name cx p2) X.env)::aO [] X.env:=by rfl) (hpl:(cL pos (aO [.Name cx p2] X.env)).any (·.1)=aB:=by rfl):VM X (.Call (.Name "isinstance" p) [e,.Name cx p2] [] pos) (XH tb f):=
 PE.imp (Rb M1 hgi hm (by decide +kernel) (Yh he (Yh hc XI (hs:=hst2)) (hs:=hst)) (by decide) (by decide) hst hpl) λσ H Q ⟨s,l,env,e1,k⟩=>by
  unfold XH at e1;split at e1
  ·rename_i n lv hn;obtain⟨b,hb,rfl⟩:=map_some e1;obtain⟨C,hns,ec,hk⟩:=ht n b hb;refine⟨λ_=>False,s,.exf n lv,λ_ z=>z.elim,env,hn,λv H1 fp s1 i1 _=>?_⟩;simp only[Is] at i1;obtain⟨⟨ea,o,x,C',dx,od,u,z,rfl,hH,hcl,hn',hd,hv,hdx,_⟩,_⟩:=i1;rw[hns] at hn';cases hn';exact⟨ea,C,cv,c,b,o,x,dx,od,rfl,hcv,hH,hcl,hd,hv,hdx,ec,hk,k _ H1 [] s1 (Is.bl _) bx λp hp=>by simp at hp⟩
  ·cases e1
structure Zab(K:aG)(n:aR)(C:aH):Prop where
 ns:bH K ao n=aA (aA (.ref C))
 ec:QH K C
 nf:az K (.ref C) (Uc n)=aA none
 hd:(gM K C).any (·.hasDict)=aC
def Tg(n:aR)(f:XE):XE:=λs=>match f s with
 | some (.exf m l)=>if m=n/\SG l=aC then aA l else none
 | _=>none
theorem E6{od:ck}{f:aR}{u:aE}{hp:bV}{dx:aH}(h:NsO od f u)(hx:hp.get? dx=aA od):ly f od=aA (aA u):=by
 obtain⟨o,es,ep,e1,e2,_,_,e3⟩:=h hp dx hx;rw[hx] at e1;cases e1;have e4:nsFind es f=aA u:=(e3 f).trans (mZ rfl);have e5:findBy (λn v=>v.isStr n) es f=aA u:=e4;unfold findBy at e5;rw[<-ke] at e5;unfold ly;rw[e2]
 dsimp only
 cases q:es.toList.find? (λx=>x.key.isStr f) with
 | none=>rw[q] at e5;cases e5
 | some en=>rw[q] at e5;cases e5;rfl
theorem Kl{z:V}{u:aE}(r:RelV z u):lJ u=aC:=by cases z<;>simp only[L2.RelV] at r<;>first | (obtain⟨t,rfl⟩:=r;rfl) | (subst r;rfl)
theorem JA{n:aR}{C:aH}(F:Zab X.K n C)(he:VE X e f)(hb:fP e (Uc n) X.env (eval e X.env)=eval e X.env:=by rfl):VE X (.Attribute e (Uc n) pos) (Tg n f):=by
 intro m3 s σ H Q I h;obtain⟨Rm,s',l,hd,env,e1,k⟩:=h;unfold Tg at e1;split at e1
 ·rename_i m lv hn;split at e1
  ·rename_i hm;cases e1;obtain⟨rfl,hg⟩:=hm
   refine Ec hb (YD (he m3 s σ H (λv H1=>Same H H1/\Is X.K H1 (.exf m l) v []) I ⟨Rm,s',.exf m l,hd,env,hn,λv H1 fp s1 i1 n1=>⟨s1,by
    have:fp=[]:=by simp only[Is] at i1;exact i1.2
    rw[<-this];exact i1⟩⟩) λu s1 ⟨v,H1,I1,rv,sm,i1⟩=>?_)
   simp only[Is] at i1;obtain⟨⟨ea,o,x,C',dx,od,u',z,rfl,hH,hcl,hn',hdd,⟨vs,hv⟩,hdx,ns,rz,iz⟩,_⟩:=i1;rw[F.ns] at hn';cases hn';obtain rfl:u=bF ea:=rv;obtain⟨cd,hcd,hhd⟩:=PySem.W.any_some F.hd
   refine Kk I1.kIn (Jz I1 hH hcl hdd hv hdx) F.ec.ga F.ec.gr F.nf hcd (by
    unfold mG;rw[mZ hhd];exact E6 ns (I1.hok dx _ hdx).1) F.ec.kt (Kl rz) ?_
   exact⟨z,H1,I1.kept (t':=s1.toks+1) λ_ _ q=>q,rz,k z H1 [] sm iz λp hp=>by simp at hp⟩
  ·cases e1
 ·cases e1
end
section
variable {M:lQ} {A:b5} {E:aE->aI->Prop} {s:aI} {env:iu} {L e T:aH} {cls fl:aE} {dd:Option aH} {Q:Unit->aI->Prop}
theorem E7(x:QO s.heap e cls dd T fl){fs:List aH}(h:∀h',QO h' e cls dd T (eE L)->Eff fs [T] s.heap h'->h'.objs.size=s.heap.objs.size->Q () { s with heap:=h' }):aZ M A (jP (.ref e) (aA L)) Q E s:=by obtain⟨oe,vs,oT,ts,he,hc,hdd,hd,h1,hTe,hT,hdT,h3⟩:=x;have hsz:=(bZ.mp h3).1;unfold jP;refine aF (cg he hd h1 ?_);rw[mZ (show(bF T != bJ)=aC from by simp)];refine dQ hT hdT hsz (h _ ⟨oe,vs,_,_,(bQ _ _ hTe).trans he,hc,hdd,hd,h1,hTe,bo _ hT (cw (bY hdT _)),bY hdT _,by simp[hsz]⟩ (Eff.field hT hdT) (by simp))
theorem Cj(hf:env.frame=aA L)(x:QO s.heap e cls dd T (eE L))(h:Q () s):aZ M A (fS (.ref e) env) Q E s:=by obtain⟨oe,vs,oT,ts,he,hc,hdd,hd,h1,hTe,hT,hdT,h3⟩:=x;unfold fS;simp only[hf];refine aF (cg he hd h1 ?_);rw[mZ (show(bF T != bJ)=aC from by simp)];refine aF (cg hT hdT h3 ?_);rw[mZ (by simp)];exact aa h
theorem Zac{E':aE->aI->Prop}(hf:env.frame=aA L)(x:QO s.heap e cls dd T fl){fs:List aH}(h:∀h',QO h' e cls dd T (eE L)->Eff fs [T] s.heap h'->h'.objs.size=s.heap.objs.size->E' (.ref e) { s with heap:=h' }):cameBackBy M A env E' (.ref e) s:=by obtain⟨oe,vs,oT,ts,he,hc,hdd,hd,h1,hTe,hT,hdT,h3⟩:=id x;unfold cameBackBy;refine aF (cg he hd h1 ?_);rw[ma (show ¬((bF T==bJ)=aC) from by simp)];rw[hf];exact E7 x h
end
section
variable {X:Cx} {E:XK}
def GL(X:Cx)(E:XK):aE->aI->Prop:=λv s'=>∃(m3:List (aH×ck)) (σ:L2.St) (H:Hp) (s:aI) (e:aH) (cls:aE) (dd:Option aH),v = .ref e/\Inv X m3 σ H s/\X.s₀.heap.get? e=none/\H e=none/\E cls dd H/\
 ((s'=s/\Gx s.heap e cls dd)\/∃h' T,s'={ s with heap:=h' }/\s.heap.objs.size<=T/\QO h' e cls dd T (eE X.env.locals)/\Eff ((X.env::X.outer).filterMap (·.frame)) [e,T] s.heap h')
theorem M3(D:RH X E){v:aE}{s':aI}(h:GL X E v s'):X.xe v s':=by
 obtain⟨m3,σ,H,s,e,cls,dd,rfl,I,he,hH,q,⟨rfl,x⟩ | ⟨h',T,rfl,hT,x,ef⟩⟩:=h
 ·exact GB D I x he hH q
 ·rw[D.xe];show aZ _ _ (leaving X.env (.ref e)) _ _ _;unfold leaving;refine aF (Cj D.fr x ?_);refine Qp x (fs:=(X.env::X.outer).filterMap (·.frame)) λh2 x2 e2 _=>?_;have nT:X.s₀.heap.get? T=none:=cZ (bu I.sz hT);have hHT:H T=none:=I.hok.fresh hT
  exact Sj D I nT he hH hHT (λb hb=>by
   rcases aV.mp hb with z | z
   ·rw[z];exact⟨hH,he⟩
   ·rw[aP.mp z];exact⟨hHT,nT⟩) x2 (ef.trans (e2.mono λb hb=>by simp at hb;simp[hb])) q
theorem Km(D:RH X E):iK (model X.prog X.w) X.A X.env (GL X E):=λv s' h=>by
 obtain⟨m3,σ,H,s,e,cls,dd,rfl,I,he,hH,q,⟨rfl,x⟩ | ⟨h',T,rfl,hT,x,ef⟩⟩:=h
 ·have hst:=I.stack;rw[D.stk] at hst;have hfr:=I.ok.frames;rw[D.stk] at hfr;refine Ce hfr hst D.fr x λh' T hT x' ef=>?_;refine Zac D.fr x' (fs:=(X.env::X.outer).filterMap (·.frame)) λh2 x2 e2 _=>⟨m3,σ,H,_,e,cls,dd,rfl,I,he,hH,q,.inr ⟨h2,T,rfl,hT,x2,?_⟩⟩;exact(ef.mono λb hb=>by simp at hb;simp[hb]).trans (e2.mono λb hb=>by simp at hb;simp[hb])
 ·refine Cj D.fr x ?_;refine Zac D.fr x (fs:=(X.env::X.outer).filterMap (·.frame)) λh2 x2 e2 _=>⟨m3,σ,H,s,e,cls,dd,rfl,I,he,hH,q,.inr ⟨h2,T,rfl,hT,x2,?_⟩⟩;exact ef.trans (e2.mono λb hb=>by simp at hb;simp[hb])
abbrev Cx.rdy(X:Cx)(E:XK):Cx:=X.wish (GL X E)
theorem NZ:New (Cx.rdy X E) E:=⟨λ{m3 σ H s e cls dd} I x a b q=>⟨m3,σ,H,s,e,cls,dd,rfl,I.unwish,a,b,q,.inl ⟨rfl,x⟩⟩⟩
theorem M4(D:RH X E):iK (model (Cx.rdy X E).prog (Cx.rdy X E).w) (Cx.rdy X E).A (Cx.rdy X E).env (Cx.rdy X E).xe:=Km D
theorem PSs.rdy{st:List bj}{t:TS}(D:RH X E)(h:PSs (Cx.rdy X E) st t):PSs X st t:=λm3 s σ H D' I hw=>
 ay (h m3 s σ H D' (I.wish _) hw) (λ_ _ q=>q.unwish) λv s' z=>M3 D z
end
section
variable {K:aG} {P:bC} {w:b6} {mg:aR->Option aE} {base:bV}
theorem def_yr{x:aR}{st:bj}{N ps:List aR}{k n:Nat}{O:List Nat}(m:Nat)(fy:XF)(D:Def K mg x st)(S:Z6 N ps (Zp st))
  (hb:∀(kV doc pm:aE)(an:Option aH)(cdv ct:aE)(us:List aE),us.length=ps.length->iP (cV x x (XX st) (YL st) (Zp st) .none kV doc pm an cdv ct) ⟨us,[]⟩=pure (ps.zip us))
  (hn:ps.length=n) (hm:N.length=m) (hO:∀i∈O,n<=i)
  (hbody:∀(fa:aH)(cdv:aE)(A:b5)(outer:List iu)(s:aI)(H:Hp)(E:XK),Room k (A.deeper (gX x (Zp st) s.heap.objs.size fa cdv))->E5 (Cx.rdy (R7 (EZ P w) P w K mg base N x (Zp st) fa cdv A outer s H E) E) O E (YL st) fy) :
  CalX P w K mg base x ps (spY K (BH m fy) n) (k+1):=def_y m fy D S hb hn hm hO λfa cdv A outer s H E hr=>PSs.rdy XC (hbody fa cdv A outer s H E hr)
end
def Ac(k:Bool):List Bool->Option Nat
 | []=>none
 | x::r=>if x=k then aA 0 else(Ac k r).map (· + 1)
theorem M5{k:Bool}:∀{l:List Bool}{j:Nat},Ac k l=aA j->l[j]?=aA k/\∀m,m<j->l[m]?≠aA k
 | [],_,h=>by cases h
 | x::r,j,h=>by
  unfold Ac at h;split at h
  ·rename_i e;cases h;exact⟨by simp[e],λm hm=>by omega⟩
  ·rename_i e
   cases q:Ac k r with
   | none=>rw[q] at h;cases h
   | some i=>
    rw[q] at h;cases h;obtain⟨a,b⟩:=M5 q;refine⟨by simpa using a,λm hm=>?_⟩
    cases m with
    | zero=>simpa using e
    | succ m=>have hm':m+1<i+1:=hm;simpa using b m (by omega)
def E8(K:aG):V->List V->Hp->VK->Prop:=λx vs H Q=>∃(p:aH) (ns:List Bool) (k:Bool) (j:Nat),x = .ref p/\vs=[.bl k]/\SqL K H p (ns.map V.bl)/\Ac k ns=aA j/\Q (.int (j:Int)) H
def E9(K:aG):V->List V->Hp->VK->Prop:=λx vs H Q=>∃(p:aH) (ns:List Bool) (k:Bool),x = .ref p/\vs=[.bl k]/\SqL K H p (ns.map V.bl)/\Q (.int ((ns.filter (·==k)).length:Int)) H
theorem M6{ns:List Bool}{mY:List aE}(r:Vals (ns.map V.bl) mY):mY=ns.map gP:=by
 induction ns generalizing mY with
 | nil=>cases r;rfl
 | cons a t ih=>
  cases r with
  | cons h1 h2=>rw[ih h2];cases h1;rfl
theorem IQ{X:Cx}:C5 X "list.index" (E8 X.K):=by
 intro m3 s σ H x vs v us Q I rx rv h;obtain⟨p,ns,k,j,rfl,rfl,hq,hj,q⟩:=h;cases rx;obtain⟨u,rfl,ru⟩:=VP rv;obtain rfl:u=gP k:=ru;obtain⟨mY,r,pl,hz⟩:=I.list hq;obtain⟨o,n,ho,hc,hd,hs⟩:=pl;obtain⟨cls,dd,data,sl⟩:=o;simp only at hc hd hs;subst hc hd hs;rw[aN] at hz;have hb:=M6 r;subst hb;obtain⟨a,b⟩:=M5 hj;have hjn:j<ns.length:=(aL.mp a).1;let e:aE->Bool:=λy=>match y with | .bool c=>c==k | _=>aB
 have sz:sizeLine<2^62:=by decide
 refine fH F.slot_list_index ⟨_,ho,rfl⟩ F.entry_list_index (F.args_list_index_2 _ _) (SeqAt.list_indexAt p (ns.map gP).toArray n none sl (.bool k) e j (by simp;omega) (by omega) ?_ ?_) ⟨ho,λy hy=>?_,.int (j:Int),H,I.tok _,⟨_,rfl⟩,q⟩
 ·rw[aK hjn] at a;simp only[kE,lK];show(ns[j]==k)=aC;rw[bU a];simp
 ·intro m hm hmj;have hm2:m<ns.length:=by simpa using hm
  have:=b m hmj;rw[aK hm2] at this;simp only[kE,lK];show(ns[m]==k)=aB;simpa using this
 ·simp at hy;rcases hy with⟨hb,rfl⟩ | ⟨hb,rfl⟩<;>exact gv _ _
theorem IS{X:Cx}:C5 X "list.count" (E9 X.K):=by
 intro m3 s σ H x vs v us Q I rx rv h;obtain⟨p,ns,k,rfl,rfl,hq,q⟩:=h;cases rx;obtain⟨u,rfl,ru⟩:=VP rv;obtain rfl:u=gP k:=ru;obtain⟨mY,r,pl,hz⟩:=I.list hq;obtain⟨o,n,ho,hc,hd,hs⟩:=pl;obtain⟨cls,dd,data,sl⟩:=o;simp only at hc hd hs;subst hc hd hs;have hb:=M6 r;subst hb;let e:aE->Bool:=λy=>match y with | .bool c=>c==k | _=>aB
 have hcnt:((ns.map gP).toArray.toList.countP e)=(ns.filter (·==k)).length:=by rw[<-List.countP_eq_length_filter];simp only[List.countP_map];rfl
 refine fH F.slot_list_count ⟨_,ho,rfl⟩ F.entry_list_count (F.args_list_count_2 _ _) (SeqAt.list_countAt p (ns.map gP).toArray n none sl (.bool k) e) ⟨ho,λy hy=>?_,?_⟩
 ·simp at hy;rcases hy with⟨hb,rfl⟩ | ⟨hb,rfl⟩<;>exact gv _ _
 ·rw[hcnt];exact⟨.int _,H,I.tok _,⟨_,rfl⟩,q⟩
def RK:PV->PV->Option PV
 | .lst l,.bl k=>(Uj l).bind λns=>(Ac k ns).map λ(j:Nat)=>PV.int (j:Int)
 | _,_=>none
def Sk:PV->PV->Option PV
 | .lst l,.bl k=>(Uj l).map λns=>PV.int ((ns.filter (·==k)).length:Int)
 | _,_=>none
section
variable {X:Cx} {o e:aw} {fo fe:XE} {apos m7:dm}
theorem IT(ho:VE X o fo)(he:VE X e fe)
  (hbase:fP o "index" X.env (eval o X.env)=eval o X.env:=by rfl)
  (hfew:((cL m7 (aO [e] X.env)).all (λx=>!x.1)&&(jy m7 (gm [] X.env)).all (λx=>x.1.isSome)
   &&decide (([e]:List aw).length+([]:List iH).length+(if([]:List iH).isEmpty then 0 else 1)<30))=aC:=by rfl)
  (hline:(apos.endLine==m7.line)=aC:=by rfl) (hs:aO [e] X.env=(aB,eval e X.env)::aO [] X.env:=by rfl) (hplain:(cL m7 (aO [] X.env)).any (·.1)=aB:=by rfl) :
  VE X (.Call (.Attribute o "index" apos) [e] [] m7) (Zh RK fo fe):=
 PE.imp (Tr F.plainAttrs_list F.slot_list_index F.type_list_index IQ ho (Zc he Zi hs) hbase hfew hline hs hplain) λσ H Q ⟨Rm,s,l,hd,env,e,k⟩=>by
  obtain⟨x',y',e1,e2,e⟩:=Vb e;refine⟨Rm,s,x',hd,env,e1,λv H1 fp s1 i1 n1=>?_⟩;unfold RK at e;split at e
  ·obtain⟨ns,e3,e4⟩:=Zd e;obtain⟨j,hj,rfl⟩:=map_some e4;have em:=Vy e3;subst em;obtain⟨p,xs,fq,rfl,hp,hi,_⟩:=i1.lst_inv;obtain⟨rfl,rfl⟩:=hi.bL;refine⟨.inl ⟨rfl,_,.inl (.inl hp)⟩,Rm,s,[.bl _],λq hq=>Same.mut s1 (hd q hq),env.mono s1,by show(fe s).bind _=_;rw[e2];rfl,λvs H2 fq s2 i2 n2=>?_⟩;obtain⟨w,rfl,iw⟩:=i2.one_inv;rw[iw.bl_inv.1];exact⟨p,ns,_,j,rfl,rfl,.inl (.inl (s2 _ _ hp)),hj,k _ _ [] (s1.trans s2) (Is.int _) λr hr=>by simp at hr⟩
  ·cases e
theorem IU(ho:VE X o fo)(he:VE X e fe)
  (hbase:fP o "count" X.env (eval o X.env)=eval o X.env:=by rfl)
  (hfew:((cL m7 (aO [e] X.env)).all (λx=>!x.1)&&(jy m7 (gm [] X.env)).all (λx=>x.1.isSome)
   &&decide (([e]:List aw).length+([]:List iH).length+(if([]:List iH).isEmpty then 0 else 1)<30))=aC:=by rfl)
  (hline:(apos.endLine==m7.line)=aC:=by rfl) (hs:aO [e] X.env=(aB,eval e X.env)::aO [] X.env:=by rfl) (hplain:(cL m7 (aO [] X.env)).any (·.1)=aB:=by rfl) :
  VE X (.Call (.Attribute o "count" apos) [e] [] m7) (Zh Sk fo fe):=
 PE.imp (Tr F.plainAttrs_list F.slot_list_count F.type_list_count IS ho (Zc he Zi hs) hbase hfew hline hs hplain) λσ H Q ⟨Rm,s,l,hd,env,e,k⟩=>by
  obtain⟨x',y',e1,e2,e⟩:=Vb e;refine⟨Rm,s,x',hd,env,e1,λv H1 fp s1 i1 n1=>?_⟩;unfold Sk at e;split at e
  ·obtain⟨ns,e3,rfl⟩:=map_some e;have em:=Vy e3;subst em;obtain⟨p,xs,fq,rfl,hp,hi,_⟩:=i1.lst_inv;obtain⟨rfl,rfl⟩:=hi.bL;refine⟨.inl ⟨rfl,_,.inl (.inl hp)⟩,Rm,s,[.bl _],λq hq=>Same.mut s1 (hd q hq),env.mono s1,by show(fe s).bind _=_;rw[e2];rfl,λvs H2 fq s2 i2 n2=>?_⟩;obtain⟨w,rfl,iw⟩:=i2.one_inv;rw[iw.bl_inv.1];exact⟨p,ns,_,rfl,rfl,.inl (.inl (s2 _ _ hp)),k _ _ [] (s1.trans s2) (Is.int _) λr hr=>by simp at hr⟩
  ·cases e
end
section
variable {X:Cx} {O W:List Nat} {k n i:Nat} {x y cx nm:aR} {ps:List aR} {R:List PV->Option aR} {e:aw} {es:List aw} {fs:List XE} {p py cp ep np hp pos:dm} {b₀:bj} {suite:List bj} {f:XS} {Cb:aH} {m6:List fU}
theorem Dc(CX:CalX X.prog X.w X.K X.mg X.base x ps (spX X.K R n) k)(hr:Room k X.A)(hg:Gl X x)(ha:VA X.nox (e::es) fs)(hx:X.ex=[])(hst:X.stack=X.env::X.outer)(hfr:X.env.frame=aA X.env.locals)
  (hN:X.N.Nodup) (hi:X.N[i]?=aA nm) (hk:X.env.scope.names.lookup nm=aA .local) (hgc:Gl X cx) (hmc:X.mg cx=aA (.ref Cb)) (hB:cB X.K Cb "BaseException" = aC)
  (hR:∀ls m,R ls=aA m->∃C,bH X.K ao m=aA (aA (.ref C))/\cB X.K C "BaseException" = aC/\belowIn X.K C Cb=aC)
  (hs:∀e,NN (Cx.mark X e) O W (b₀::suite) f) (hiO:i∉O) (hsw:dX (.Call (.Name x p) (e::es) [] cp) (aA (.Name y py)) ep.line X.env=pure aB:=by rfl) (hn:fs.length=n:=by rfl)
  (hdb:(x==("__debug__" : aR))=aB:=by decide) (hdb2:(cx==("__debug__" : aR))=aB:=by decide) (he:aO (e::es) X.env=(aB,eval e X.env)::aO es X.env:=by rfl) (hpl:(cL cp (aO es X.env)).any (·.1)=aB:=by rfl) :
  VS X O (i::W) (.Try [.Assign [.Name y py] (.Call (.Name x p) (e::es) [] cp) ep] (.ExceptHandler (aA (.Name cx np)) (aA nm) (b₀::suite) hp::m6) [] [] pos) (MW R fs i f):=by
 intro m3 s σ H D I ⟨H0,fps,sp,out,r,e1,ok⟩;obtain⟨ls,e2,e1⟩:=Zd e1;obtain⟨m,e3,e1⟩:=Zd e1;obtain⟨o1,e4,rfl⟩:=map_some e1;obtain⟨C,hns,hC,hb⟩:=hR ls m e3;obtain⟨fa,fd,hmx,hkp,hbd,F⟩:=CX.ex;refine jR (gE (i9 ?_ hsw));refine dA (Wl I hg hmx ?_ hdb);refine eN (h₀:=X.base) I.ok.mod.kin hkp ?_ he hpl;refine ay (ha cp m3 s σ H (λvs H1=>Same H H1/\∃fp,Iss X.K H1 ls vs fp) (I.wish _) ⟨λ_=>False,sp,ls,λ_ z=>z.elim,r.env,e2,λvs H1 fp s1 i1 _=>⟨s1,fp,i1⟩⟩) (λus s1 ⟨vs,H1,I1,rv,sm,fp,i1⟩=>?_) λ_ _ z=>z.elim;have I1:Inv X m3 σ H1 s1:=I1.unwish;have lv:vs.length=n:=by rw[i1.len,WI e2,hn]
 have hsp:spX X.K R n vs H1 (λ_ _=>False) (λcls dd H'=>cls = .ref C/\dd=none/\Same H1 H'):=⟨lv,ls,fp,m,i1,e3,λC' H' hc sm=>⟨by rw[hns] at hc;cases hc;rfl,rfl,sm⟩⟩;have hl:(us++[]).length=ps.length:=by rw[bI,<-rv.length,lv];have:=F.len _ _ _ _ hsp;omega
 have hbb:=hbd s1 us I1.kIn hl;rw[bI] at hbb;refine⟨I1.kIn,f9 (eX (F.run X.A X.stack s1 H1 ⟨us,[]⟩ us vs _ _ hr I1.env0 hbb rv hsp) λres s' hq=>?_)⟩
 cases res with
 | ok fl=>
  cases fl with
  | ret u=>obtain⟨_,_,_,_,_,_,_,z⟩:=hq;exact z.elim
  | next=>exact b9 hq
  | brk=>exact b9 hq
  | cont=>exact b9 hq
 | error v=>
  obtain⟨ea,cls,dd,H',rfl,hos,hgn,u,hok,⟨T,xx,hH,hHT,he0,hT0⟩,rfl,rfl,sm1⟩:=hq;have I2:Inv X m3 σ H' s':=I1.call' hos u hok hgn λb hb=>nomatch hb;refine A7 I2 hx hst hfr xx hH hHT (Uy I1 hx he0) (Uy I1 hx hT0) hN hi hk hgc hmc hC hB hb (hs ea) (λoe h1 h2 h3=>?_) hdb2;have sm2:Same H (upd H' ea (.frz oe (.own ea))):=λb o q=>by have q':=sm1 b o (sm b o q);rw[upd_ne (ZJ q' hH)];exact q'
  have iE:Is X.K (upd H' ea (.frz oe (.own ea))) (.exc m) (.ref ea) []:=by simp only[Is];exact⟨⟨ea,oe,ea,C,rfl,upd_same,h1,hns,h2,h3⟩,trivial⟩
  have hlt:i<sp.length:=by have:=(aL.mp hi).1;rw[r.len,I.len];exact this
  have r2:=(r.grow sm2).set (i:=i) iE (λz=>absurd z hiO) (λk _ _ p hp=>by simp at hp);refine⟨H0,_,_,o1,r2,e4,?_⟩;have fin:∀(m8:Nat->List aH)(σ':SK)(H'':Hp)(s':ZS),(∀j,j∉W->σ'[j]?=(σ.set i (aA (V.ref ea)))[j]?/\Kep (m8 j) (Ru fps sp.length i [] j))->∀j,j∉i::W->(σ'.set i none)[j]?=σ[j]?/\Kep (if j=i then [] else m8 j) (fps j):=λm8 σ' H'' s' h j hj=>by have hji:j≠i:=λz=>hj (by rw[z];exact .head _);obtain⟨a1,a2⟩:=h j λz=>hj (.tail _ z);rw[dC (cJ hji)] at a1 ⊢;rw[YH hji] at a2;rw[ma hji];exact⟨a1,a2⟩
  cases o1 with
  | nx s'=>exact λm8 σ' H'' r' k'=>ok _ _ _ (UL hiO r') (fin m8 σ' H'' s' k')
  | bk s'=>exact λm8 σ' H'' r' k'=>ok _ _ _ (UL hiO r') (fin m8 σ' H'' s' k')
  | ct s'=>exact λm8 σ' H'' r' k'=>ok _ _ _ (UL hiO r') (fin m8 σ' H'' s' k')
  | rt l=>exact ok
theorem Dd{body:List bj}{h₀:fU}{hs:List fU}(hb:NN X.nox O W body f):VS X O W (.Try body (h₀::hs) [] [] pos) f:=by
 intro m3 s σ H D I h;refine jR (ay (hb m3 s σ H D (I.wish _) h) (λfl s1 q=>?_) λ_ _ z=>z.elim)
 cases fl with
 | next=>
  obtain⟨σ',H',I',z⟩:=q;exact gN ⟨σ',H',I'.unwish,z⟩
 | ret u=>
  obtain⟨v,σ',H',I',r,z⟩:=q;exact⟨v,σ',H',I'.unwish,r,z⟩
 | brk=>
  obtain⟨σ',H',I',z⟩:=q;exact⟨σ',H',I'.unwish,z⟩
 | cont=>
  obtain⟨σ',H',I',z⟩:=q;exact⟨σ',H',I'.unwish,z⟩
def FZ(f g:XS):XS:=λs=>match f s with
 | some o=>aA o
 | none=>g s
theorem Ck{st:bj}{g:XS}{W1 W2:List Nat}(h1:VS X O W1 st f)(h2:VS X O W2 st g):VS X O (W1++W2) st (FZ f g):=by
 intro m3 s σ H D I ⟨H0,fps,sp,out,r,e,k⟩;have s1:∀j,j∉W1++W2->j∉W1:=λj hj z=>hj (bG _ z);have s2:∀j,j∉W1++W2->j∉W2:=λj hj z=>hj (ag _ z);unfold FZ at e;split at e
 ·rename_i o ho;cases e;exact h1 m3 s σ H D I ⟨H0,fps,sp,_,r,ho,k.same (λj _=>⟨rfl,Kep.refl _⟩) s1⟩
 ·exact h2 m3 s σ H D I ⟨H0,fps,sp,_,r,e,k.same (λj _=>⟨rfl,Kep.refl _⟩) s2⟩
end
end VX
namespace VX
open PySem PySem.Spec PyProof.Rows L2
section
variable {M:lQ} {A:b5} {E:aE->aI->Prop} {s:aI} {base:bV} {env:iu} {outer:List iu} {L e T:aH} {cls fl:aE} {dd:Option aH} {Q:Unit->aI->Prop}
theorem Zad(hfr:A.frames=aA (env::outer))(hl:s.heap.FunFrames base (env::outer))(hf:env.frame=aA L)(x:QO s.heap e cls dd T fl)
  (h:∀h' T' fl',(T'=T\/s.heap.objs.size<=T')->QO h' e cls dd T' fl'->Eff ((env::outer).filterMap (·.frame)) [e,T] s.heap h'->Q () { s with heap:=h' }):aZ M A (fS (.ref e) env) Q E s:=by
 obtain⟨oe,vs,oT,ts,he,hc,hdd,hd,h1,hTe,hT,hdT,h3⟩:=id x;unfold fS;simp only[hf];refine aF (cg he hd h1 ?_);rw[mZ (show(bF T != bJ)=aC from by simp)];refine aF (cg hT hdT h3 ?_);by_cases hfl:(fl==eE L)=aC
 ·rw[mZ hfl];have:=h s.heap T fl (.inl rfl) x Eff.refl;exact aa this
 ·rw[ma hfl];refine aF (dQ hT hdT (bZ.mp h3).1 ?_);have hsz:=(bZ.mp h1).1;have ef:Eff ((env::outer).filterMap (·.frame)) [T] s.heap (s.heap.update T (bq (·.setIfInBounds 3 bJ))):=Eff.field hT hdT;have hl':=ef.funs hl (λb hb o q=>by rw[aP.mp hb,hT] at q;cases q;exact⟨_,hdT⟩);have he':=(bQ s.heap (bq (·.setIfInBounds 3 bJ)) hTe).trans he;have hz:(s.heap.update T (bq (·.setIfInBounds 3 bJ))).objs.size=s.heap.objs.size:=by simp
  refine SY (s:={ s with heap:=s.heap.update T (bq (·.setIfInBounds 3 bJ)) }) hfr hl' hf he' hd hsz λh' T' hT' p1 ⟨oT',ts',p2,p3,p4⟩ p5=>h h' T' _ (.inr (by rw[<-hz];exact hT')) ⟨_,_,oT',ts',p1,(fY _ _).trans hc,(V1 _ _).trans hdd,bY hd _,by simp[hsz],?_,p2,p3,p4⟩ ?_
  ·have hT':(s.heap.update T (bq (·.setIfInBounds 3 bJ))).objs.size<=T':=hT';rw[hz] at hT';exact gV (af (aT he) hT')
  ·exact(ef.mono λb hb=>by simp at hb;simp[hb]).trans (p5.mono λb hb=>by simp at hb;simp[hb])
theorem GN(hfr:A.frames=aA (env::outer))(hl:s.heap.FunFrames base (env::outer))(hf:env.frame=aA L)(x:QO s.heap e cls dd T fl)
  (h:∀h' T',(T'=T\/s.heap.objs.size<=T')->QO h' e cls dd T' .none->Eff ((env::outer).filterMap (·.frame)) [e,T] s.heap h'->Q () { s with heap:=h' }):aZ M A (leaving env (.ref e)) Q E s:=by
 unfold leaving;refine aF (Zad hfr hl hf x λh1 T' fl' hT x1 e1=>?_);refine Qp x1 (fs:=(env::outer).filterMap (·.frame)) λh2 x2 e2 _=>h h2 T' hT x2 ?_;refine⟨λb o q hc hf=>?_,λb o q hc hf=>?_,λb o q=>?_⟩
 ·refine e2.keep b o (e1.keep b o q hc hf) (λz=>?_) hf;rcases hT with hT | hT
  ·rw[hT] at z;exact hc (by simp at z;simp[z])
  ·exact cI _ (af (aT q) (by rw[aP.mp z];exact hT))
 ·obtain⟨sl,q1⟩:=e1.slot b o q hc hf
  obtain⟨sl2,q2⟩:=e2.slot b _ q1 (λz=>by
   rcases hT with hT | hT
   ·rw[hT] at z;exact hc (by simp at z;simp[z])
   ·exact cI _ (af (aT q) (by rw[aP.mp z];exact hT))) hf
  exact⟨sl2,q2⟩
 ·obtain⟨o1,q1⟩:=e1.there b o q;exact e2.there b o1 q1
theorem De{fs:List aH}{env':iu}{what:String}{α:Type}{Qa:α->aI->Prop}(x:QO s.heap e cls dd T fl)
  (h:∀h' fl',QO h' e cls dd T fl'->Eff fs [T] s.heap h'->h'.objs.size=s.heap.objs.size->E (.ref e) { s with heap:=h' }):aZ M A (mQ what (.ref e) env':Sem α) Qa E s:=by
 obtain⟨oe,vs,oT,ts,he,hc,hdd,hd,h1,hTe,hT,hdT,h3⟩:=id x;have hsz:=(bZ.mp h3).1;unfold mQ;refine aF (cg he hd h1 ?_);rw[ma (show ¬((bF T==bJ)=aC) from by simp)];refine aF ?_;unfold jP;refine aF (cg he hd h1 ?_);rw[mZ (show(bF T != bJ)=aC from by simp)];refine dQ hT hdT hsz ?_;refine lU (h _ (env'.frame.elim .none λf=>eE f) ⟨oe,vs,_,_,(bQ _ _ hTe).trans he,hc,hdd,hd,h1,hTe,bo _ hT (cw (bY hdT _)),bY hdT _,by simp[hsz]⟩ (Eff.field hT hdT) (by simp))
end
end VX
namespace L2
open PySem PySem.Spec PyProof.Rows
section
variable {X:Cx} {tg mX iter:aw} {mW:List aw} {scope:fJ} {pos:dm} {own fr:List aR} {ix:List Nat} {wi:TI} {g:TG} {tt:TT} {te:TE}
theorem M7{m3:List (aH×ck)}{σ:St}{H2:Hp}{s2:aI}{fp:List aH}{it:aH}{tn:Nat->bV->Prop}{J:It}{Fin:List V->Hp->Prop}{RR:aE->aH->mK->aI->Prop}{E:aE->aI->Prop}
  (hcalm:X.calm=aC) (S:CompScope X.N X.env.scope scope own fr ix)
  (hg:∀cl C s H ex,PG (Zz X (own++fr) scope cl C s H ex) tg g) (ht:∀cl C s H ex,K0 (Zz X (own++fr) scope cl C s H ex) mW tt) (he:∀cl C s H ex,PE (Zz X (own++fr) scope cl C s H ex) mX te)
  (I2:Inv X m3 σ H2 s2) (T:Mo X.prog X.w X.K tg J fp it tn) (st2:tn 0 s2.heap) (f2:∀b∈fp,Ti X m3 H2 b)
  {ter:St->Hp->Prop} {Z:Cx->List (aH×ck)->St->aE->aI->Prop} (hx:∀cl C s H ex m3 st σ' H',Inv (Zz X (own++fr) scope cl C s H ex) m3 σ' H' st->(∀b∈ex,∃o,(b,o)∈m3)->ter σ' H'->aZ (model X.prog X.w) X.A (eval mX (Zz X (own++fr) scope cl C s H ex).env) (λ_ _=>False) (λv s'=>Z (Zz X (own++fr) scope cl C s H ex) m3 σ' v s') st)
  {W:Nat->Nat->List V->Hp->Prop} {m0:Nat} (w0:W 0 m0 [] H2)
  (turn:∀i m ys H,W i m ys H->ys.length<=sizeLine/\
   ((J.stop i H/\Fin ys H)\/(J.go i H/\∀x H',J.yld i H x H'->g x (Z4 own.length ix σ) H' λσ2 H2=>σ2.drop own.length=(Z4 own.length ix σ).drop own.length/\tt σ2 H2 λb H3=>b=aC/\ter σ2 H3)\/
    (J.go i H/\∃N:List V->Hp->Prop,(∀ys' H',N ys' H'->∃m',m'<m/\W (i+1) m' ys' H')/\
     ∀x H',J.yld i H x H'->g x (Z4 own.length ix σ) H' λσ2 H2=>σ2.drop own.length=(Z4 own.length ix σ).drop own.length/\tt σ2 H2 λb H3=>if b=aC then te σ2 H3 λy H4=>N (ys++[y]) H4 else N ys H3)))
  (hRR:∀(D C:aH)(oC:ck)(m:aR->Option aE)(s':aI)(H':Hp)(ys:List V),Inv X (m3++[(C,oC)]) σ (upd H' D (.lst ys)) s'->s'.heap.get? C=aA oC->s'.heap.Ns C m->Ti X m3 (upd H' D (.lst ys)) C->H' D=none->Fin ys H'->RR (.ref D) C (.ok .next) s')
  (hRX:∀(D C:aH)(pins':List (aH×ck))(σ':St)(v:aE)(s':aI),s2.heap.objs.size<=C->Z (Zz X (own++fr) scope (Yv X.env.cells scope.names []) C s2 H2 fp) pins' σ' v s'->ie (model X.prog X.w) X.A (iR scope (Yv X.env.cells scope.names []) C X.env) (λe s'=>RR (.ref D) C (.error e) s') v s') :
  aZ (model X.prog X.w) X.A (newList []) (λacc s₃=>aZ (model X.prog X.w) X.A (newFunctionEnv scope X.env.globals (Yv X.env.cells scope.names []) [] X.env.qual none .none (aA X.env)) (λcenv s₄=>
   gF (model X.prog X.w) X.A (.compStart (.ListComp mX [⟨tg,iter,mW,0⟩] scope pos) 0 (.ref it) acc { cenv with scope:=relabel scope X.env }) (RR acc cenv.locals) s₄) E s₃) E s2:=by
 have hfp:∀b∈fp,b<s2.heap.objs.size:=λb hb=>by obtain⟨o,e,_⟩:=T.obj 0 s2.heap st2 b hb;exact aT e
 refine dN (jz S.nocell (by intro y hy;simp at hy) (λh₁ hns₁ hsb₁=>?_) S.kind)
 dsimp only at hns₁ hsb₁ ⊢
 generalize hH2:s2.heap.push { cls:=.type "list",dict:=none,data:=.seq ([]:List aE).toArray }=G2 at hns₁ hsb₁ ⊢;have hC:G2.objs.size=s2.heap.objs.size+1:=by rw[<-hH2,gY]
 generalize hCC:G2.objs.size=C at hns₁ hsb₁ hC ⊢;generalize hDD:s2.heap.objs.size=D at hC ⊢;have hDC:D≠C:=by omega
 have below:∀b,b<s2.heap.objs.size->b≠C/\b≠D:=λb hb=>by rw[hDD] at hb;exact⟨bO (by omega),bO hb⟩
 have old:∀b o,s2.heap.get? b=aA o->h₁.get? b=aA o:=λb o e=>hsb₁.extBut b o (below b (aT e)).1 (aM _ (hH2▸aM _ e))
 have hacc:h₁.get? D=aA { cls:=.type "list",data:=.seq ([]:List aE).toArray 0 }:=by
  have e0:G2.get? D=aA { cls:=.type "list",data:=.seq ([]:List aE).toArray 0 }:=by rw[<-hH2,<-hDD];exact bD _ rfl
  exact hsb₁.extBut _ _ hDC (aM _ e0)
 have hns₁':h₁.Ns C λ_=>none:=by simpa using hns₁
 have I0:=λtk=>MA (tk:=tk) S I2 f2 hfp (C:=C) (by omega) hns₁' old
 -- what stays aC of the iterator's objects in the block
 have loop:∀s₃:aI,s₃={ s2 with heap:=h₁,toks:=s2.toks+([]:List (aR×aE)).length }->
   gF (model X.prog X.w) X.A (.compLoop (.ListComp mX [⟨tg,iter,mW,0⟩] scope pos) 0 (.ref it) (.ref D) (iR scope (Yv X.env.cells scope.names []) C X.env)) (RR (.ref D) C) s₃:=by
  rintro s₃ rfl;generalize hY:Zz X (own++fr) scope (Yv X.env.cells scope.names []) C s2 H2 fp=Y at I0
  have stat:∀{H':Hp}{pn:List (aH×ck)},(∀b∈fp,H' b=none)->(∀p∈pn,∀b∈fp,p.1≠b)->∀b∈fp,Ti Y pn H' b:=λ{H' pn} hn hp b hb=>by
   subst hY;refine⟨hn b hb,(below b (hfp b hb)).1,λz=>?_,.inl hb,λx c e=>?_,λp hp'=>hp p hp' b hb⟩
   ·exact(I0 0).ok.exfs b hb z
   ·exact((I0 0).ok.exf b hb).2 x c e
  have dfp:∀b∈fp,D≠b:=λb hb=>cJ (below b (hfp b hb)).2;have hcellD:∀x c,Y.env.cells.lookup x=aA c->c≠D:=λx c e z=>by subst hY;have e:(Yv X.env.cells scope.names []).lookup x=aA c:=e;have e':=T6 scope.names [] (S.clos I2) (λh=>by simp at h) e;obtain⟨v,q⟩:=I2.cell x c e';exact(below c q.lt).2 z
  have hfsD:D∉Y.fs:=λz=>by subst hY;obtain⟨_,o,ho,_⟩:=(I0 0).ok.funs.mem z;have:=aT ho;have:D<s2.heap.objs.size:=this;omega
  have eL:Y.env.locals=C:=by subst hY;rfl
  have eS:Y.s₀=s2:=by subst hY;rfl
  have eP:Y.pn=[]:=by subst hY;rfl
  refine Rh (λn s'=>∃i ys mY nn H',Inv Y [] (Z4 own.length ix σ) H' s'/\tn i s'.heap/\(∀b∈fp,H' b=none)/\s'.heap.get? D=aA { cls:=.type "list",data:=.seq mY nn }/\Vals ys mY.toList/\H' D=none/\W i n ys H') ?_ m0
   ⟨0,[],#[],0,H2,I0 _,T.keep _ _ _ st2 λb _ o e=>old b o e,λb hb=>(f2 b hb).1,hacc,.nil,I2.hok.fresh (by omega),w0⟩
  rintro n s3 ⟨i,ys,mY,nn,H3,I3,st3,fr3,oD,vD,nD,w3⟩;obtain⟨hlen,cases3⟩:=turn i n ys H3 w3;have hsize:mY.size<=sizeLine:=by have:=vD.length;simp only[dw] at this;omega
  have pD:Inv Y [(D,{ cls:=.type "list",data:=.seq mY nn })] (Z4 own.length ix σ) H3 s3:=I3.pins_of λp hp=>by rw[aP.mp hp];exact⟨oD,nD,by rw[eL];exact hDC,hfsD,λv z=>by cases z⟩
  have YP:Y.prog=X.prog:=by subst hY;rfl
  have Yw:Y.w=X.w:=by subst hY;rfl
  have YK:Y.K=X.K:=by subst hY;rfl
  have YA:Y.A=X.A:=by subst hY;rfl
  have Yx:Y.xe=λ_ _=>False:=by subst hY;rfl
  have Ye:Y.env=iR scope (Yv X.env.cells scope.names []) C X.env:=by subst hY;rfl
  have ne1:∀p∈[((D,{ cls:=.type "list",data:=.seq mY nn }):aH×ck)],∀b∈fp,p.1≠b:=λp hp b hb=>by rw[aP.mp hp];exact dfp b hb
  rcases cases3 with⟨stop,qn⟩ | ⟨go,step⟩ | ⟨go,N,hN,step⟩
  ·have d:=T.done Y YP Yw YK (by subst hY;exact hcalm) i _ s3 _ H3 (ie (model X.prog X.w) X.A (iR scope (Yv X.env.cells scope.names []) C X.env) λe s'=>RR (.ref D) C (.error e) s') pD (stat fr3 ne1) st3 stop;rw[YA] at d;refine YD d λr s4 ⟨hr,I4⟩=>?_;subst hr;show RR (.ref D) C (.ok .next) s4;obtain⟨oD4,nD4,_⟩:=I4.pin (D,_) (by rw[eP];exact a9);obtain⟨m,hn,_⟩:=I4.loc;rw[eL] at hn;obtain⟨oC,es,ep,hoC,hdC,hrest⟩:=id hn;have hfreeC:H3 C=none:=by have:=I4.free;rw[eL] at this;exact this
   have un:Un (Nz X.stack) fp H2 H3 s2.heap s4.heap:=by have:=I4.base;subst hY;exact this
   have lt2:∀b o,s2.heap.get? b=aA o->b≠D:=λb o e=>(below b (aT e)).2
   have un':Un (Nz X.stack) fp H2 (upd H3 D (.lst ys)) s2.heap s4.heap:=by
    refine⟨un.keep,un.slot,λb o e n hx=>?_,un.there,λb xs e=>?_,λb o u e=>?_,λb ps e=>?_⟩
    ·rw[upd_ne (lt2 b o e)];exact un.free b o e n hx
    ·have q:=un.tups b xs e;rw[upd_ne (ZJ q nD4)];exact q
    ·have q:=un.frzs b o u e;rw[upd_ne (ZJ q nD4)];exact q
    ·obtain⟨more,q⟩:=un.tbls b ps e;exact⟨more,by rw[upd_ne (ZJ q nD4)];exact q⟩
   have hok4:HOk X.prog X.w H3 s4.heap:=by have:=I4.hok;rw[YP,Yw] at this;exact this
   have hok':HOk X.prog X.w (upd H3 D (.lst ys)) s4.heap:=λb u q=>by
    by_cases hb:b=D
    ·subst hb;rw[upd_same] at q;cases q;exact⟨hlen,mY.toList,nn,vD,by simpa using oD4⟩
    ·rw[upd_ne hb] at q;exact(hok4 b u q).stay (λc v _ z=>z) (λc z=>by rw[upd_ne (ZJ z nD4)];exact z) λc xs z=>by rw[upd_ne (ZJ z nD4)];exact z
   have os4:s4.os=s2.os:=by rw[I4.os,eS]
   have I5:Inv X m3 σ (upd H3 D (.lst ys)) s4:=I2.call' os4 un' hok' I4.bare λb hb=>⟨(f2 b hb).2.2.2.1,(f2 b hb).2.1,(f2 b hb).2.2.2.2.1,(f2 b hb).2.2.2.2.2⟩;have CL:C≠X.env.locals:=λz=>by exact(below _ I2.lt).1 z.symm
   have fpC:Ti X m3 (upd H3 D (.lst ys)) C:=I2.fpOk (by omega) (by rw[upd_ne (cJ hDC)];exact hfreeC);refine hRR D C oC m s4 H3 ys (I5.pins_of λp hp=>?_) hoC hn fpC nD4 qn;rcases au.mp hp with z | z
   ·exact I5.pin p (ag _ z)
   ·rw[aP.mp z];exact⟨hoC,fpC.1,fpC.2.1,fpC.2.2.1,λv z=>by rw[hdC] at z;cases z⟩
  ·have d:=T.item Y YP Yw YK (by subst hY;exact hcalm) i _ s3 _ H3 (λ_ _=>False) pD (stat fr3 ne1) st3 go;rw[YA] at d;refine ay d (λr s4 ⟨u,hr,h4⟩=>?_) λ_ _ z=>z.elim;subst hr;refine ay h4 (λ_ s5 ⟨x,H5,I5,r5,y5,st5,fr5⟩=>?_) λ_ _ z=>z.elim;have I5':=I5.pinned (stat fr5 ne1) (T.obj _ _ st5);have hg':=hg (Yv X.env.cells scope.names []) C s2 H2 fp;have ht':=ht (Yv X.env.cells scope.names []) C s2 H2 fp;have he':=he (Yv X.env.cells scope.names []) C s2 H2 fp;rw[hY] at hg' ht' he';have a6:=hg' _ s5 _ H5 x u _ I5' r5 (step x H5 y5);rw[YP,Yw,YA,Ye,Yx] at a6;refine ay a6 (λ_ s6 ⟨σ6,H6,I6,dr,q6⟩=>?_) λ_ _ z=>z.elim;have a7:=ht' _ s6 σ6 H6 _ I6 q6;rw[YP,Yw,YA,Ye,Yx] at a7;refine ay a7 (λok s7 ⟨H7,I7,q7⟩=>?_) λ_ _ z=>z.elim;obtain⟨rfl,q7⟩:=q7;show aZ _ _ _ _ _ _
   have a8:=hx (Yv X.env.cells scope.names []) C s2 H2 fp _ s7 σ6 H7 (by rw[hY];exact I7) (λb hb=>by
    obtain⟨o5,e5,_⟩:=T.obj _ _ st5 b hb;exact⟨o5,aQ _ (Wq hb e5)⟩) q7
   rw[hY,Ye] at a8;refine ay a8 (λ_ _ z=>z.elim) λv s8 z=>?_;exact hRX D C _ _ v s8 (by omega) (by rw[hY];exact z)
  ·have d:=T.item Y YP Yw YK (by subst hY;exact hcalm) i _ s3 _ H3 (λ_ _=>False) pD (stat fr3 ne1) st3 go;rw[YA] at d;refine ay d (λr s4 ⟨u,hr,h4⟩=>?_) λ_ _ z=>z.elim;subst hr;refine ay h4 (λ_ s5 ⟨x,H5,I5,r5,y5,st5,fr5⟩=>?_) λ_ _ z=>z.elim;have I5':=I5.pinned (stat fr5 ne1) (T.obj _ _ st5);have hg':=hg (Yv X.env.cells scope.names []) C s2 H2 fp;have ht':=ht (Yv X.env.cells scope.names []) C s2 H2 fp;have he':=he (Yv X.env.cells scope.names []) C s2 H2 fp;rw[hY] at hg' ht' he';have a6:=hg' _ s5 _ H5 x u _ I5' r5 (step x H5 y5);rw[YP,Yw,YA,Ye,Yx] at a6;refine ay a6 (λ_ s6 ⟨σ6,H6,I6,dr,q6⟩=>?_) λ_ _ z=>z.elim;have a7:=ht' _ s6 σ6 H6 _ I6 q6;rw[YP,Yw,YA,Ye,Yx] at a7;refine ay a7 (λok s7 ⟨H7,I7,q7⟩=>?_) λ_ _ z=>z.elim
   have back:∀{H8:Hp}{s8:aI},Inv Y ([((D,{ cls:=.type "list",data:=.seq mY nn }):aH×ck)]++To fp s5.heap) σ6 H8 s8->
     s8.heap.get? D=aA { cls:=.type "list",data:=.seq mY nn }/\H8 D=none/\tn (i+1) s8.heap/\(∀b∈fp,H8 b=none):=λ{H8 s8} I8=>by
    obtain⟨e1,e2,_⟩:=I8.pin (D,{ cls:=.type "list",data:=.seq mY nn }) (by rw[eP];exact a9);refine⟨e1,e2,T.keep _ _ _ st5 λb hb o e=>(I8.pin (b,o) (by rw[eP];exact aQ _ (Wq hb e))).1,λb hb=>?_⟩;obtain⟨o,e,_⟩:=T.obj _ _ st5 b hb;exact(I8.pin (b,o) (by rw[eP];exact aQ _ (Wq hb e))).2.1
   have unp:∀{H8:Hp}{s8:aI},Inv Y ([((D,{ cls:=.type "list",data:=.seq mY nn }):aH×ck)]++To fp s5.heap) σ6 H8 s8->Inv Y [] (Z4 own.length ix σ) H8 s8:=λ{H8 s8} I8=>
    (I8.pins_of (pins':=[]) λp hp=>absurd hp (by simp)).weak (by
     have e1:=(I0 0).len;have e2:=I8.len;rw[e1,e2]) (OW dr)
   cases ok with
   | false=>
    rw[ma a0] at q7;show ∃m,m<n/\_;obtain⟨e1,e2,e3,e4⟩:=back I7;obtain⟨m',hm,w7⟩:=hN _ _ q7;exact⟨m',hm,i+1,ys,mY,nn,H7,unp I7,e3,e4,e1,vD,e2,w7⟩
   | true=>
    rw[mZ rfl] at q7;show aZ _ _ _ _ _ _;have a8:=he' _ s7 σ6 H7 _ I7 q7;rw[YP,Yw,YA,Ye,Yx] at a8;refine ay a8 (λyv s8 ⟨y,H8,I8,ry,q8⟩=>?_) λ_ _ z=>z.elim;obtain⟨e1,e2,e3,e4⟩:=back I8;obtain⟨m',hm,w8⟩:=hN _ _ q8;refine append_at e1 (λh9 hs9 hD9=>?_) hsize;have I9:Inv Y [] (Z4 own.length ix σ) H8 { s8 with heap:=h9 }:=(unp I8).turned (t':=s8.toks) (it:=D) (λb o hb e=>hs9.extBut b o hb e) e2 (by rw[eL];exact hDC) (.inr (by rw[eS];omega)) hcellD (λp hp=>absurd (show p∈([]:List (aH×ck)) by rw[eP] at hp;exact hp) (by simp));refine⟨m',hm,i+1,ys++[y],mY.push yv,nn+1,H8,I9,T.keep _ _ _ e3 λb hb o e=>hs9.extBut b o (cJ (dfp b hb)) e,e4,hD9,?_,e2,w8⟩;rw[kn];exact vD.append (.cons ry .nil)
 exact j7 (loop _ rfl) (T.self X.A 0 _ _ _ (T.keep _ _ _ st2 λb _ o e=>old b o e) (loop _ rfl))
end
end L2
namespace VX
open PySem PySem.Spec PyProof.Rows L2 VL
section
variable {X:Cx} {tg mX iter:aw} {mW:List aw} {scope:fJ} {pos:dm} {own fr:List aR} {ix:List Nat} {wi:TI} {g:TG} {tt:TT} {te:TE} {E:XK}
def Dg(E:XK)(Y:Cx)(m3:List (aH×ck))(σ:L2.St)(v:aE)(s':aI):Prop:=
 ∃e cls dd H',v = .ref e/\Inv Y m3 σ H' s'/\Fl H' Y.s₀.heap s'.heap e cls dd/\E cls dd H'
def BK(n:Nat)(ix:List Nat)(g:TG)(tt:TT)(te:TE)(ter:L2.St->Hp->Prop)(σ:L2.St)(Q:VK)(J:It)(H1:Hp):Prop:=
 ∃W:Nat->Nat->List V->Hp->Prop,(∃m,W 0 m [] H1)/\∀i m ys H,W i m ys H->ys.length<=sizeLine/\
  ((J.stop i H/\∀p,H p=none->Q (.ref p) (upd H p (.lst ys)))\/(J.go i H/\∀x H',J.yld i H x H'->g x (Z4 n ix σ) H' λσ2 H2=>σ2.drop n=(Z4 n ix σ).drop n/\tt σ2 H2 λb H3=>b=aC/\ter σ2 H3)\/
   (J.go i H/\∃N:List V->Hp->Prop,(∀ys' H',N ys' H'->∃m',m'<m/\W (i+1) m' ys' H')/\
    ∀x H',J.yld i H x H'->g x (Z4 n ix σ) H' λσ2 H2=>σ2.drop n=(Z4 n ix σ).drop n/\tt σ2 H2 λb H3=>if b=aC then te σ2 H3 λy H4=>N (ys++[y]) H4 else N ys H3))
def GO(n:Nat)(ix:List Nat)(wi:TI)(g:TG)(tt:TT)(te:TE)(ter:L2.St->Hp->Prop):TE:=λσ H Q=>wi σ H λJ H1=>BK n ix g tt te ter σ Q J H1
theorem GP{h h':bV}{e C T:aH}{cls fl:aE}{dd:Option aH}(x:QO h e cls dd T fl)(hs:gD C h h')(he:e≠C)(hT:T≠C):QO h' e cls dd T fl:=by obtain⟨oe,vs,oT,ts,a,b,c,d,f,g,i,r⟩:=x;exact⟨oe,vs,oT,ts,(hs.2 e he).trans a,b,c,d,f,g,(hs.2 T hT).trans i,r⟩
end
def Dh(K:aG)(fx:XR)(E:XK)(σ:L2.St)(H:Hp):Prop:=∃s n,EnvIs K (λ_=>False) H s σ/\fx s=aA n/\∀C H',bH K ao n=aA (aA (.ref C))->Same H H'->E (.ref C) none H'
def tRX(K:aG)(fx:XR)(E:XK):TE:=λσ H _=>Dh K fx E σ H
def RX(X:Cx)(E:XK)(e:aw)(fx:XR):Prop:=PE X e (tRX X.K fx E)
def Yn(R:List PV->Option aR)(fs:List XE):XR:=λs=>(UX fs s).bind R
section
variable {X:Cx} {E:XK} {k n:Nat} {x:aR} {ps:List aR} {R:List PV->Option aR} {e:aw} {es:List aw} {fs:List XE} {p pos:dm} {own fr:List aR} {scope:fJ}
theorem GQ(CX:CalX X.prog X.w X.K X.mg X.base x ps (spX X.K R n) k)(hr:Room k X.A)(hg:∀cl C s H ex,Gl (Zz X (own++fr) scope cl C s H ex) x)(ha:∀cl C s H ex,VA (Zz X (own++fr) scope cl C s H ex) (e::es) fs)(hn:fs.length=n:=by rfl)
  (hdb:(x==("__debug__" : aR))=aB:=by decide) (he:∀env:iu,aO (e::es) env=(aB,eval e env)::aO es env:=by intro _;rfl) (hpl:∀env:iu,(cL pos (aO es env)).any (·.1)=aB:=by intro _;rfl) :
  ∀cl C s H ex m3 st σ' H',Inv (Zz X (own++fr) scope cl C s H ex) m3 σ' H' st->(∀b∈ex,∃o,(b,o)∈m3)->Dh X.K (Yn R fs) E σ' H'->
   aZ (model X.prog X.w) X.A (eval (.Call (.Name x p) (e::es) [] pos) (Zz X (own++fr) scope cl C s H ex).env) (λ_ _=>False) (λv s'=>Dg E (Zz X (own++fr) scope cl C s H ex) m3 σ' v s') st:=by
 intro cl C s0 H0 ex m3 st σ H I cov ⟨sp,nm,env,e1,q⟩;obtain⟨ls,e2,e3⟩:=Zd e1;obtain⟨fa,fd,hmx,hkp,hbd,F⟩:=CX.ex;refine dA (Wl I (hg cl C s0 H0 ex) hmx ?_ hdb);refine eN (h₀:=X.base) I.ok.mod.kin hkp ?_ (he _) (hpl _);refine ay (ha cl C s0 H0 ex pos m3 st σ H (λvs H1=>Same H H1/\∃fp,Iss X.K H1 ls vs fp) I ⟨λ_=>False,sp,ls,λ_ z=>z.elim,env,e2,λvs H1 fp s1 i1 _=>⟨s1,fp,i1⟩⟩) (λus s1 ⟨vs,H1,I1,rv,sm,fp,i1⟩=>?_) λ_ _ z=>z.elim;have lv:vs.length=n:=by rw[i1.len,WI e2,hn]
 have hsp:spX X.K R n vs H1 (λ_ _=>False) E:=⟨lv,ls,fp,nm,i1,e3,λC' H' hc sm'=>q C' H' hc (sm.trans sm')⟩;have hl:(us++[]).length=ps.length:=by rw[bI,<-rv.length,lv];have:=F.len _ _ _ _ hsp;omega
 have hbb:=hbd s1 us I1.kIn hl;rw[bI] at hbb;refine⟨I1.kIn,f9 (eX (F.run X.A X.stack s1 H1 ⟨us,[]⟩ us vs _ _ hr I1.env0 hbb rv hsp) λres s' hq=>?_)⟩
 cases res with
 | ok fl=>
  cases fl with
  | ret u=>obtain⟨_,_,_,_,_,_,_,z⟩:=hq;exact z.elim
  | next=>exact b9 hq
  | brk=>exact b9 hq
  | cont=>exact b9 hq
 | error v=>
  obtain⟨ea,cls,dd,H',rfl,hos,hgn,u,hok,⟨T,xx,hH,hHT,he0,hT0⟩,q2⟩:=hq;have I2:Inv (Zz X (own++fr) scope cl C s0 H0 ex) m3 σ H' s':=I1.call' hos u hok hgn λb hb=>nomatch hb
  have old:∀b,s1.heap.get? b=none->s0.heap.get? b=none:=λb z=>by
   cases r:s0.heap.get? b with
   | none=>rfl
   | some o=>
    by_cases hb:b∈ex
    ·obtain⟨o',ho'⟩:=cov b hb;have:=(I1.pin (b,o') (ag _ ho')).1;simp only at this;rw[z] at this;cases this
    ·obtain⟨o',r'⟩:=I1.base.there b o r hb;rw[z] at r';cases r'
  exact⟨ea,cls,dd,H',rfl,I2,⟨T,xx,hH,hHT,old ea he0,old T hT0⟩,q2⟩
end
def V2(T:Tgt)(ft:XT)(fe:XE)(fx:XR)(s0:ZS):List PV->Option aR
 | []=>none
 | l::r=>(WW T l s0).bind λs1=>(ft s1).bind λc=>if c=aC then(match fx s1 with
   | some n=>aA n
   | none=>(fe s1).bind λ_=>V2 T ft fe fx s0 r) else V2 T ft fe fx s0 r
def RL(n:Nat)(ix:List Nat)(fi:XL)(T:Tgt)(ft:XT)(fe:XE)(fx:XR):XR:=λs=>(fi s).bind λls=>if ls.length<=10000 then V2 T ft fe fx (Z7 n ix s) ls else none
section
variable {K:aG} {n:Nat} {ix:List Nat} {fi:XL} {T:Tgt} {ft:XT} {fe:XE} {fx:XR} {E:XK}
theorem P1{s0:ZS}{l:PV}{r:List PV}{nm:aR}(h:V2 T ft fe fx s0 (l::r)=aA nm):∃s1 c,WW T l s0=aA s1/\ft s1=aA c/\((c=aC/\fx s1=aA nm)\/(c=aC/\∃y,fe s1=aA y/\V2 T ft fe fx s0 r=aA nm)\/(c=aB/\V2 T ft fe fx s0 r=aA nm)):=by
 unfold V2 at h;obtain⟨s1,e1,h⟩:=Zd h;obtain⟨c,e2,h⟩:=Zd h;refine⟨s1,c,e1,e2,?_⟩
 cases c with
 | true=>
  rw[mZ rfl] at h;split at h
  ·cases h;exact .inl ⟨rfl,by assumption⟩
  ·obtain⟨y,e3,h⟩:=Zd h;exact .inr (.inl ⟨rfl,y,e3,h⟩)
 | false=>
  rw[ma a0] at h;exact .inr (.inr ⟨rfl,h⟩)
theorem Di(hT:∀i∈T.slots,i<n):∀σ H Q,tRX K (RL n ix fi T ft fe fx) E σ H Q->GO n ix (iF K fi) (gT K T) (Mi K ft) (tF K fe) (Dh K fx E) σ H Q:=λσ H Q ⟨s,nm,env,e,q⟩=>by
 obtain⟨ls,e1,e⟩:=Zd e;split at e
 case isFalse=>cases e
 rename_i hlen;have hd:∀(H:Hp) p,(λ_=>False:aH->Prop) p->UR (H p):=λ_ _ z=>z.elim;refine⟨λ_=>False,s,ls,hd H,env,e1,λJ H1 s1 jis=>?_⟩
 refine⟨λi m vs Hc=>m=ls.length-i/\i<=ls.length/\Same H1 Hc/\vs.length<=i/\V2 T ft fe fx (Z7 n ix s) (ls.drop i)=aA nm,
  ⟨ls.length,by simp,gC _,Same.refl H1,ar _,e⟩,?_⟩
 rintro i m vs Hc ⟨rfl,hi,sc,hvl,ec⟩;refine⟨cy (lt_size (by omega)),?_⟩
 cases r:ls.drop i with
 | nil=>rw[r] at ec;cases ec
 | cons l rr=>
  obtain⟨hl,hr⟩:=Tw r;have hilt:i<ls.length:=(aL.mp hl).1;rw[r] at ec;obtain⟨sb,c,eb,et,alt⟩:=P1 ec;have go:=jis.go Hc i l (Same.ab sc) hl;have step:∀x H2,J.yld i Hc x H2->∃bv,Same Hc H2/\(∀(Q':SK->Hp->Prop),Q' (Xt T.slots bv (Z4 n ix σ)) H2->gT K T x (Z4 n ix σ) H2 Q')/\EnvIs K (λ_=>False) H2 sb (Xt T.slots bv (Z4 n ix σ)):=λx H2 y=>by obtain⟨s2,fx',ix',nx⟩:=jis.yld Hc i l x H2 (Same.ab sc) hl y;obtain⟨bl,bv,bf,rfl,bi,_,bsub,buse⟩:=Qh (K:=K) ix' eb;have env2:EnvIs K (λ_=>False) H2 (Z7 n ix s) (Z4 n ix σ):=(env.mono (s1.trans (sc.trans s2))).comp;exact⟨bv,s2,λQ' q'=>buse _ _ q',env2.setAll (is:=T.slots) (Pw n ix s σ) bi λp hp=>(nx p (bsub p hp)).2⟩
  rcases alt with⟨rfl,ex⟩ | ⟨rfl,y',ey,ez⟩ | ⟨rfl,ez⟩
  ·refine .inr (.inl ⟨go,λx H2 y=>?_⟩);obtain⟨bv,s2,buse,env3⟩:=step x H2 y;refine buse _ ⟨XY hT,λ_=>False,sb,aC,hd H2,env3,et,λH3 s3=>⟨rfl,sb,nm,env3.mono s3,ex,λC H' hc sm=>q C H' hc (s1.trans (sc.trans (s2.trans (s3.trans sm))))⟩⟩
  ·refine .inr (.inr ⟨go,λvs' H'=>Same H1 H'/\vs'.length<=i+1,λvs' H' h'=>⟨ls.length-(i+1),by omega,rfl,hilt,h'.1,h'.2,by rw[hr];exact ez⟩,λx H2 y=>?_⟩);obtain⟨bv,s2,buse,env3⟩:=step x H2 y;refine buse _ ⟨XY hT,λ_=>False,sb,aC,hd H2,env3,et,λH3 s3=>Bg ?_⟩;exact⟨λ_=>False,sb,y',hd H3,env3.mono s3,ey,λv H4 f4 s4 i4 n4=>⟨sc.trans (s2.trans (s3.trans s4)),by rw[aq];simp;omega⟩⟩
  ·refine .inr (.inr ⟨go,λvs' H'=>Same H1 H'/\vs'.length<=i+1,λvs' H' h'=>⟨ls.length-(i+1),by omega,rfl,hilt,h'.1,h'.2,by rw[hr];exact ez⟩,λx H2 y=>?_⟩);obtain⟨bv,s2,buse,env3⟩:=step x H2 y;exact buse _ ⟨XY hT,λ_=>False,sb,aB,hd H2,env3,et,λH3 s3=>Bf ⟨sc.trans (s2.trans s3),by omega⟩⟩
end
section
variable {X:Cx} {E:XK} {tg mX iter c:aw} {mW:List aw} {scope:fJ} {pos p:dm} {fi:XL} {T:Tgt} {ft:XT} {fe:XE} {fx:XR} {O:List Nat} {e:aw} {Ty:String} {x:aR} {r:List V->Hp->VK->Prop}
theorem BL(h:RX X E e fx):VX X O E (.Return (aA e) pos) fx:=PS.imp (Pd h) λD σ H ⟨H0,fps,s,n,r,e,q⟩=>⟨s,n,r.env,e,λC H' hc sm=>q C H' hc (r.same.trans sm)⟩
end
def Vg(n:aR)(f:XE):XR:=λs=>match f s with
 | some (.str z)=>if(jS z).length<=100000 then aA n else none
 | _=>none
section
variable {X:Cx} {O W:List Nat} {E:XK} {C:aH} {bmB:List aE} {B newId initId:String} {x y:aR} {np m7 pos p1 p2 p3:dm} {jj k:Nat} {e:aw} {f:XE} {te:TE}
def Zae(te:TE):TE:=λσ H Q=>te σ H λv H1=>∃z,v = .str z/\(jS z).length<=100000/\∀z,Q (.str z) H1
theorem Dj(he:PE X e te)(hy:y.length<=1000:=by decide):PE X (.JoinedStr [.Constant (.str y) jj p1,.FormattedValue e 114 none p2] p3) (Zae te):=by
 intro m3 s σ H Q I h;refine wpAny_JoinedStr ?_;show aZ _ _ (eval (.Constant (.str y) jj p1) X.env) _ _ s;refine YD (LF (X:=X) (x:=y) (j:=jj) (pos:=p1) m3 s σ H (λv H1=>v = .str y/\H1=H) I ⟨rfl,rfl⟩) λu s1 ⟨v,H1,I1,r,hv,hH⟩=>?_;subst hv hH;obtain⟨t,rfl⟩:=r;have e0:(kM++y).length=y.length:=by rw[fB];show 0+_=_;omega
 have sz:(1000:Nat)+100000<=sizeLine:=by decide
 refine⟨y,t,rfl,by omega,?_⟩;show aZ _ _ (eval (.FormattedValue e 114 none p2) X.env) _ _ s1;refine wpAny_FormattedValue_repr ?_;refine YD (he m3 s1 σ H1 _ I1 h) λu s2 ⟨v,H2,I2,r,z,hv,hl,q⟩=>?_;subst hv;obtain⟨t2,rfl⟩:=r;refine pyReprObj_str ?_ (by omega);refine formatField_str (λt' tk=>?_) (by omega);refine⟨_,_,rfl,by rw[fB,e0];omega,?_⟩;exact⟨by rw[fB,e0];omega,.str _,H2,I2.tok _,⟨_,rfl⟩,q _⟩
theorem Sl(F:eY B newId initId bmB)(hq:gK X.K C bmB newId=aC)(hg:Gl X x)(hm:X.mg x=aA (.ref C))(hns:bH X.K ao x=aA (aA (.ref C)))(hcalm:X.calm=aC)(DX:RH X E)(he:VE X e f)
  (hy:y.length<=1000:=by decide) (hdb:(x==("__debug__" : aR))=aB:=by decide) (hst:aO [.JoinedStr [.Constant (.str y) jj p1,.FormattedValue e 114 none p2] p3] X.env=(aB,eval (.JoinedStr [.Constant (.str y) jj p1,.FormattedValue e 114 none p2] p3) X.env)::aO [] X.env:=by rfl) :
  VX X O E (.Raise (aA (.Call (.Name x np) [.JoinedStr [.Constant (.str y) jj p1,.FormattedValue e 114 none p2] p3] [] m7)) none pos) (Vg x f):=
 PS.imp (GC F hq hg hm hcalm DX (Dj he hy) hdb hst) λD σ H ⟨H0,fps,s,cls,r,e,q⟩=>by
  unfold Vg at e;split at e
  ·rename_i z hz;split at e
   ·cases e;refine⟨λ_=>False,s,.str z,λ_ z=>z.elim,r.env,hz,λv H' fp sm i _=>?_⟩;exact⟨z,i.str_inv.1,by assumption,λz=>⟨rfl,q C H' hns (r.same.trans sm)⟩⟩
   ·cases e
  ·cases e
end
def nms:List aR:=["NoWeb","Apart","NoText","NoOrder","TooMany","NotSettled","NoTree","NoTotal","NoEnds","NoRow","NoName"]
def QI(nm cx:aR):aR->Option Bool:=λn=>if n=nm then aA (decide (cx=nm)) else none
def Cm(nm:aR):aR->Option Bool:=λn=>if n=nm then aA aC else none
structure QN(nm:aR)(K:aG)(mg:aR->Option aE)(C Cb:aH):Prop where
 no:bH K ao nm=aA (aA (.ref C))
 mgo:mg nm=aA (.ref C)
 mgb:mg "PurseError" = aA (.ref Cb)
 ex:gK K C [.type "ValueError",.type "Exception",.type "BaseException",.type "object"] "ValueError.__new__" = aC
 ec:QH K C
 kb:cB K Cb "BaseException" = aC
 bl:belowIn K C Cb=aC
 cls:∀cx∈nms,∃D,mg cx=aA (.ref D)/\aX K (.ref C) (.ref D)=aA (decide (cx=nm))
 ve:aX K (.ref C) (.type "ValueError")=aA aC
section
variable {X:Cx} {nmC:aR} {C Cb:aH} {e:aw} {f:XE} {cx:aR} {p p2 pos:dm}
theorem V3(Q:QN nmC X.K X.mg C Cb)(hgi:Gl X "isinstance")(hm:X.mg "isinstance" = none)(he:VE X e f)(hcx:cx∈nms)(hgc:Gl X cx)(hdb:(cx==("__debug__" : aR))=aB:=by decide)
  (hst:aO [e,.Name cx p2] X.env=(aB,eval e X.env)::aO [.Name cx p2] X.env:=by rfl) (hst2:aO [.Name cx p2] X.env=(aB,eval (.Name cx p2) X.env)::aO [] X.env:=by rfl) (hpl:(cL pos (aO [.Name cx p2] X.env)).any (·.1)=aB:=by rfl):VM X (.Call (.Name "isinstance" p) [e,.Name cx p2] [] pos) (X1 (QI nmC cx) f):=by
 obtain⟨D,hD,hk⟩:=Q.cls cx hcx;refine GJ hgi hm he (.own D) (Jx hgc hD hdb) (λn b h=>?_) hst hst2 hpl;unfold QI at h;split at h
 ·rename_i hn;subst hn;cases h;exact⟨C,Q.no,Q.ec,hk⟩
 ·cases h
theorem Dk(Q:QN nmC X.K X.mg C Cb)(hgi:Gl X "isinstance")(hm:X.mg "isinstance" = none)(he:VE X e f)(hgc:Gl X "ValueError")(hv:X.mg "ValueError" = none)
  (hst:aO [e,.Name "ValueError" p2] X.env=(aB,eval e X.env)::aO [.Name "ValueError" p2] X.env:=by rfl) (hst2:aO [.Name "ValueError" p2] X.env=(aB,eval (.Name "ValueError" p2) X.env)::aO [] X.env:=by rfl) (hpl:(cL pos (aO [.Name "ValueError" p2] X.env)).any (·.1)=aB:=by rfl):VM X (.Call (.Name "isinstance" p) [e,.Name "ValueError" p2] [] pos) (X1 (Cm nmC) f):=by
 refine GJ hgi hm he (.ty "ValueError") (Jy hgc hv (by decide +kernel)) (λn b h=>?_) hst hst2 hpl;unfold Cm at h;split at h
 ·rename_i hn;subst hn;cases h;exact⟨C,Q.no,Q.ec,Q.ve⟩
 ·cases h
end
section
variable {X:Cx} {O W:List Nat} {nmC:aR} {C Cb:aH} {k n i:Nat} {x y nm:aR} {ps:List aR} {R:List PV->Option aR} {e:aw} {es:List aw} {fs:List XE} {p py cp ep np hp pos:dm} {b₀:bj} {suite:List bj} {f:XS} {m6:List fU}
theorem GR(Q:QN nmC X.K X.mg C Cb)(CX:CalX X.prog X.w X.K X.mg X.base x ps (spX X.K R n) k)(hR:∀ls m,R ls=aA m->m=nmC)(hr:Room k X.A)(hg:Gl X x)(ha:VA X.nox (e::es) fs)(hx:X.ex=[])(hst:X.stack=X.env::X.outer)(hfr:X.env.frame=aA X.env.locals)
  (hN:X.N.Nodup) (hi:X.N[i]?=aA nm) (hk:X.env.scope.names.lookup nm=aA .local) (hgc:Gl X "PurseError")
  (hs:∀e,NN (Cx.mark X e) O W (b₀::suite) f) (hiO:i∉O) (hsw:dX (.Call (.Name x p) (e::es) [] cp) (aA (.Name y py)) ep.line X.env=pure aB:=by rfl) (hn:fs.length=n:=by rfl)
  (hdb:(x==("__debug__" : aR))=aB:=by decide) (he:aO (e::es) X.env=(aB,eval e X.env)::aO es X.env:=by rfl) (hpl:(cL cp (aO es X.env)).any (·.1)=aB:=by rfl) :
  VS X O (i::W) (.Try [.Assign [.Name y py] (.Call (.Name x p) (e::es) [] cp) ep] (.ExceptHandler (aA (.Name "PurseError" np)) (aA nm) (b₀::suite) hp::m6) [] [] pos) (MW R fs i f):=
 Dc CX hr hg ha hx hst hfr hN hi hk hgc Q.mgb Q.kb (λls m h=>by rw[hR ls m h];exact⟨C,Q.no,Q.ec.kt,Q.bl⟩) hs hiO hsw hn hdb (by decide) he hpl
end
abbrev veT:List aE:=[.type "ValueError",.type "Exception",.type "BaseException",.type "object"]
def Cn(i:Nat):bj->bj
 | .ClassDef _ _ _ b _ _ _ _ _ _ _=>b.getD i (.Pass ⟨0,0,0,0⟩)
 | s=>s
structure QF(nm:aR)(P:bC)(w:b6)(K:aG)(mg:aR->Option aE)(base:bV)(C Cb:aH):Prop where
 no:bH K ao nm=aA (aA (.ref C))
 mgo:mg nm=aA (.ref C)
 cf:BE P w K mg base C (Uc nm) veT "ValueError.__new__"
 fl:Zab K nm C
 bl:belowIn K C Cb=aC
 cls:∀cx∈nms,∃D,mg cx=aA (.ref D)/\aX K (.ref C) (.ref D)=aA (decide (cx=nm))
 ve:aX K (.ref C) (.type "ValueError")=aA aC
structure Q2(P:bC)(wo:b6)(K:aG)(mg:aR->Option aE)(base:bV)(Cw Ca Cb:aH):Prop where
 mgb:mg "PurseError" = aA (.ref Cb)
 kb:cB K Cb "BaseException" = aC
 w:QF "NoWeb" P wo K mg base Cw Cb
 a:QF "Apart" P wo K mg base Ca Cb
def Qr(cx:aR):aR->Option Bool:=λn=>if n = "NoWeb" then aA (decide (cx = "NoWeb")) else if n = "Apart" then aA (decide (cx = "Apart")) else none
def Co:aR->Option Bool:=λn=>if n = "NoWeb" then aA aC else if n = "Apart" then aA aC else none
section
variable {X:Cx} {Cw Ca Cb:aH} {e:aw} {f:XE} {cx:aR} {p p2 pos:dm}
theorem WQ(Q:Q2 X.prog X.w X.K X.mg X.base Cw Ca Cb)(hgi:Gl X "isinstance")(hm:X.mg "isinstance" = none)(he:VE X e f)(hcx:cx∈nms)(hgc:Gl X cx)(hdb:(cx==("__debug__" : aR))=aB:=by decide)
  (hst:aO [e,.Name cx p2] X.env=(aB,eval e X.env)::aO [.Name cx p2] X.env:=by rfl) (hst2:aO [.Name cx p2] X.env=(aB,eval (.Name cx p2) X.env)::aO [] X.env:=by rfl) (hpl:(cL pos (aO [.Name cx p2] X.env)).any (·.1)=aB:=by rfl):VM X (.Call (.Name "isinstance" p) [e,.Name cx p2] [] pos) (XH (Qr cx) f):=by
 obtain⟨D,hD,hk⟩:=Q.w.cls cx hcx;refine GK hgi hm he (.own D) (Jx hgc hD hdb) (λn b h=>?_) hst hst2 hpl;unfold Qr at h;split at h
 ·rename_i hn;subst hn;cases h;exact⟨Cw,Q.w.no,Q.w.fl.ec,hk⟩
 ·split at h
  ·rename_i hn;subst hn;cases h;obtain⟨D',hD',hk'⟩:=Q.a.cls cx hcx;rw[hD] at hD';cases hD';exact⟨Ca,Q.a.no,Q.a.fl.ec,hk'⟩
  ·cases h
theorem Dl(Q:Q2 X.prog X.w X.K X.mg X.base Cw Ca Cb)(hgi:Gl X "isinstance")(hm:X.mg "isinstance" = none)(he:VE X e f)(hgc:Gl X "ValueError")(hv:X.mg "ValueError" = none)
  (hst:aO [e,.Name "ValueError" p2] X.env=(aB,eval e X.env)::aO [.Name "ValueError" p2] X.env:=by rfl) (hst2:aO [.Name "ValueError" p2] X.env=(aB,eval (.Name "ValueError" p2) X.env)::aO [] X.env:=by rfl) (hpl:(cL pos (aO [.Name "ValueError" p2] X.env)).any (·.1)=aB:=by rfl):VM X (.Call (.Name "isinstance" p) [e,.Name "ValueError" p2] [] pos) (XH Co f):=by
 refine GK hgi hm he (.ty "ValueError") (Jy hgc hv (by decide +kernel)) (λn b h=>?_) hst hst2 hpl;unfold Co at h;split at h
 ·rename_i hn;subst hn;cases h;exact⟨Cw,Q.w.no,Q.w.fl.ec,Q.w.ve⟩
 ·split at h
  ·rename_i hn;subst hn;cases h;exact⟨Ca,Q.a.no,Q.a.fl.ec,Q.a.ve⟩
  ·cases h
end
def UM(fy:XF):Prop:=∀s m l,fy s=aA (m,l)->m = "NoWeb"\/m = "Apart"
theorem S2{n:aR}{f:XE}(h:n = "NoWeb"\/n = "Apart"):UM (U2 n f):=λs m l e=>by
 obtain⟨l',_,e⟩:=Zd e;split at e
 ·cases e;exact h
 ·cases e
theorem Wn:UM S1:=λs m l e=>nomatch e
theorem N0{fc:XT}{f g:XF}(hf:UM f)(hg:UM g):UM (NY fc f g):=λs m l e=>by
 obtain⟨c,_,e⟩:=Zd e;split at e
 ·exact hf s m l e
 ·exact hg s m l e
theorem XU{f1:XF}{f:XS}{g:XF}(hf:UM f1)(hg:UM g):UM (Xo f1 f g):=λs m l e=>by
 unfold Xo at e;split at e
 ·rename_i c hc;cases e;exact hf s m l hc
 ·split at e
  ·exact hg _ m l e
  ·cases e
theorem Qs{T:Tgt}{fy:XF}{fb:XS}(h:UM fy):∀(ls:List PV)(s:ZS)(m:aR)(l:PV),Qq T fy fb ls s=aA (m,l)->m = "NoWeb"\/m = "Apart"
 | [],s,m,l,e=>nomatch e
 | a::r,s,m,l,e=>by
  unfold Qq at e;obtain⟨s1,_,e⟩:=Zd e;split at e
  ·rename_i n hn;cases e;exact h s1 m l hn
  ·split at e
   ·exact Qs h r _ m l e
   ·exact Qs h r _ m l e
   ·cases e
theorem GS{O:List Nat}{fi:XL}{T:Tgt}{fy:XF}{fb:XS}(h:UM fy):UM (Kh O fi T fy fb):=λs m l e=>by obtain⟨ls,_,e⟩:=Zd e;exact Qs h ls s m l e
theorem JB{m:Nat}{fy:XF}(h:UM fy):∀ls n l,BH m fy ls=aA (n,l)->n = "NoWeb"\/n = "Apart":=λls n l e=>h _ n l e
section
variable {X:Cx} {O W:List Nat} {k n i:Nat} {x cx nm y:aR} {ps:List aR} {R:List PV->Option (aR×PV)} {e:aw} {es:List aw} {fs:List XE} {p py cp ep np hp pos:dm} {b₀:bj} {suite:List bj} {f:XS} {Cb:aH} {m6:List fU}
theorem GU(CX:CalX X.prog X.w X.K X.mg X.base x ps (spY X.K R n) k)(hr:Room k X.A)(hg:Gl X x)(ha:VA X.nox (e::es) fs)(hx:X.ex=[])(hst:X.stack=X.env::X.outer)(hfr:X.env.frame=aA X.env.locals)
  (hN:X.N.Nodup) (hi:X.N[i]?=aA nm) (hk:X.env.scope.names.lookup nm=aA .local) (hgc:Gl X cx) (hmc:X.mg cx=aA (.ref Cb)) (hB:cB X.K Cb "BaseException" = aC)
  (hR:∀ls m l,R ls=aA (m,l)->∃C,bH X.K ao m=aA (aA (.ref C))/\cB X.K C "BaseException" = aC/\belowIn X.K C Cb=aC)
  (hs:∀e,NN (Cx.mark X e) O W (b₀::suite) f) (hiO:i∉O) (hsw:dX (.Call (.Name x p) (e::es) [] cp) (aA (.Name y py)) ep.line X.env=pure aB:=by rfl) (hn:fs.length=n:=by rfl)
  (hdb:(x==("__debug__" : aR))=aB:=by decide) (hdb2:(cx==("__debug__" : aR))=aB:=by decide) (he:aO (e::es) X.env=(aB,eval e X.env)::aO es X.env:=by rfl) (hpl:(cL cp (aO es X.env)).any (·.1)=aB:=by rfl) :
  VS X O (i::W) (.Try [.Assign [.Name y py] (.Call (.Name x p) (e::es) [] cp) ep] (.ExceptHandler (aA (.Name cx np)) (aA nm) (b₀::suite) hp::m6) [] [] pos) (P0 R fs i f):=by
 intro m3 s σ H D I ⟨H0,fps,sp,out,r,e1,ok⟩;obtain⟨ls,e2,e1⟩:=Zd e1;obtain⟨⟨m,lv⟩,e3,e1⟩:=Zd e1;obtain⟨o1,e4,rfl⟩:=map_some e1;obtain⟨C,hns,hC,hb⟩:=hR ls m lv e3;obtain⟨fa,fd,hmx,hkp,hbd,F⟩:=CX.ex;refine jR (gE (i9 ?_ hsw));refine dA (Wl I hg hmx ?_ hdb);refine eN (h₀:=X.base) I.ok.mod.kin hkp ?_ he hpl;refine ay (ha cp m3 s σ H (λvs H1=>Same H H1/\∃fp,Iss X.K H1 ls vs fp) (I.wish _) ⟨λ_=>False,sp,ls,λ_ z=>z.elim,r.env,e2,λvs H1 fp s1 i1 _=>⟨s1,fp,i1⟩⟩) (λus s1 ⟨vs,H1,I1,rv,sm,fp,i1⟩=>?_) λ_ _ z=>z.elim;have I1:Inv X m3 σ H1 s1:=I1.unwish;have lvn:vs.length=n:=by rw[i1.len,WI e2,hn]
 have hsp:spY X.K R n vs H1 (λ_ _=>False) (λcls dd H'=>cls = .ref C/\∃dx od u z,dd=aA dx/\H' dx=aA (.frz od (.own dx))/\NsO od (Uc m) u/\RelV z u/\Is X.K H' lv z []/\Same H1 H'):=⟨lvn,ls,fp,m,lv,i1,e3,λC' dx od u z H' hc sm a1 a2 a3 a4=>⟨by rw[hns] at hc;cases hc;rfl,dx,od,u,z,rfl,a1,a2,a3,a4,sm⟩⟩;have hl:(us++[]).length=ps.length:=by rw[bI,<-rv.length,lvn];have:=F.len _ _ _ _ hsp;omega
 have hbb:=hbd s1 us I1.kIn hl;rw[bI] at hbb;refine⟨I1.kIn,f9 (eX (F.run X.A X.stack s1 H1 ⟨us,[]⟩ us vs _ _ hr I1.env0 hbb rv hsp) λres s' hq=>?_)⟩
 cases res with
 | ok fl=>
  cases fl with
  | ret u=>obtain⟨_,_,_,_,_,_,_,z⟩:=hq;exact z.elim
  | next=>exact b9 hq
  | brk=>exact b9 hq
  | cont=>exact b9 hq
 | error v=>
  obtain⟨ea,cls,dd,H',rfl,hos,hgn,u,hok,⟨T,xx,hH,hHT,he0,hT0⟩,rfl,dx,od,u',z',rfl,b1,b2,b3,b4,sm1⟩:=hq;have I2:Inv X m3 σ H' s':=I1.call' hos u hok hgn λb hb=>nomatch hb;refine A7 I2 hx hst hfr xx hH hHT (Uy I1 hx he0) (Uy I1 hx hT0) hN hi hk hgc hmc hC hB hb (hs ea) (λoe h1 h2 h3=>?_) hdb2;have sm2:Same H (upd H' ea (.frz oe (.own ea))):=λb o q=>by have q':=sm1 b o (sm b o q);rw[upd_ne (ZJ q' hH)];exact q'
  have sm3:Same H' (upd H' ea (.frz oe (.own ea))):=Same.new hH _;have iE:Is X.K (upd H' ea (.frz oe (.own ea))) (.exf m lv) (.ref ea) []:=by simp only[Is];exact⟨⟨ea,oe,ea,C,dx,od,u',z',rfl,upd_same,h1,hns,h2,h3,sm3 _ _ b1,b2,b3,b4.mono sm3⟩,trivial⟩
  have hlt:i<sp.length:=by have:=(aL.mp hi).1;rw[r.len,I.len];exact this
  have r2:=(r.grow sm2).set (i:=i) iE (λz=>absurd z hiO) (λk _ _ p hp=>by simp at hp);refine⟨H0,_,_,o1,r2,e4,?_⟩;have fin:∀(m8:Nat->List aH)(σ':SK)(H'':Hp)(s':ZS),(∀j,j∉W->σ'[j]?=(σ.set i (aA (V.ref ea)))[j]?/\Kep (m8 j) (Ru fps sp.length i [] j))->∀j,j∉i::W->(σ'.set i none)[j]?=σ[j]?/\Kep (if j=i then [] else m8 j) (fps j):=λm8 σ' H'' s' h j hj=>by have hji:j≠i:=λz=>hj (by rw[z];exact .head _);obtain⟨a1,a2⟩:=h j λz=>hj (.tail _ z);rw[dC (cJ hji)] at a1 ⊢;rw[YH hji] at a2;rw[ma hji];exact⟨a1,a2⟩
  cases o1 with
  | nx s'=>exact λm8 σ' H'' r' k'=>ok _ _ _ (UL hiO r') (fin m8 σ' H'' s' k')
  | bk s'=>exact λm8 σ' H'' r' k'=>ok _ _ _ (UL hiO r') (fin m8 σ' H'' s' k')
  | ct s'=>exact λm8 σ' H'' r' k'=>ok _ _ _ (UL hiO r') (fin m8 σ' H'' s' k')
  | rt l=>exact ok
end
def JC(R:List PV->Option (aR×PV))(fs:List XE):XF:=λs=>(UX fs s).bind R
def P2(f g:XR):XR:=λs=>match f s with
 | some n=>aA n
 | none=>g s
def RM(f:XE)(fx:XR):XR:=λs=>(f s).bind λ_=>fx s
def OE(fc:XT)(f g:XR):XR:=λs=>(fc s).bind λc=>if c=aC then f s else g s
section
variable {X:Cx} {O W:List Nat} {E:XK} {k n i:Nat} {x y:aR} {ps:List aR} {R:List PV->Option aR} {e a b c:aw} {es:List aw} {fs:List XE} {f:XE} {fx gx:XR} {fc:XT} {p cp pos py:dm} {t:TA}
theorem RN(CX:CalX X.prog X.w X.K X.mg X.base x ps (spX X.K R n) k)(hr:Room k X.A)(hg:Gl X x)(ha:VA X.nox (e::es) fs)(DX:RH X E)(hn:fs.length=n:=by rfl)
  (hdb:(x==("__debug__" : aR))=aB:=by decide) (he:aO (e::es) X.env=(aB,eval e X.env)::aO es X.env:=by rfl) (hpl:(cL cp (aO es X.env)).any (·.1)=aB:=by rfl) :
  RX X E (.Call (.Name x p) (e::es) [] cp) (Yn R fs):=by
 intro m3 s σ H Q I ⟨sp,nm,env,e1,q⟩;obtain⟨ls,e2,e3⟩:=Zd e1;obtain⟨fa,fd,hmx,hkp,hbd,F⟩:=CX.ex;refine dA (Wl I hg hmx ?_ hdb);refine eN (h₀:=X.base) I.ok.mod.kin hkp ?_ he hpl;refine ay (ha cp m3 s σ H (λvs H1=>Same H H1/\∃fp,Iss X.K H1 ls vs fp) (I.wish _) ⟨λ_=>False,sp,ls,λ_ z=>z.elim,env,e2,λvs H1 fp s1 i1 _=>⟨s1,fp,i1⟩⟩) (λus s1 ⟨vs,H1,I1,rv,sm,fp,i1⟩=>?_) λ_ _ z=>z.elim;have I1:Inv X m3 σ H1 s1:=I1.unwish;have lvn:vs.length=n:=by rw[i1.len,WI e2,hn]
 have hsp:spX X.K R n vs H1 (λ_ _=>False) E:=⟨lvn,ls,fp,nm,i1,e3,λC' H' hc sm'=>q C' H' hc (sm.trans sm')⟩;have hl:(us++[]).length=ps.length:=by rw[bI,<-rv.length,lvn];have:=F.len _ _ _ _ hsp;omega
 have hbb:=hbd s1 us I1.kIn hl;rw[bI] at hbb;refine⟨I1.kIn,f9 (eX (F.run X.A X.stack s1 H1 ⟨us,[]⟩ us vs _ _ hr I1.env0 hbb rv hsp) λres s' hq=>?_)⟩
 cases res with
 | ok fl=>
  cases fl with
  | ret u=>obtain⟨_,_,_,_,_,_,_,z⟩:=hq;exact z.elim
  | next=>exact b9 hq
  | brk=>exact b9 hq
  | cont=>exact b9 hq
 | error v=>exact Jq DX (λ_ _ _ z=>z) m3 σ H1 s1 v s' I1 hq
theorem Zaf(h1:RX X E e fx)(h2:RX X E e gx):RX X E e (P2 fx gx):=by
 intro m3 s σ H Q I ⟨sp,nm,env,e1,q⟩;unfold P2 at e1;split at e1
 ·rename_i m hm;cases e1;exact h1 m3 s σ H Q I ⟨sp,_,env,hm,q⟩
 ·exact h2 m3 s σ H Q I ⟨sp,nm,env,e1,q⟩
theorem Zag:RX X E e (λ_=>none):=by intro m3 s σ H Q I ⟨sp,nm,env,e1,q⟩;cases e1
theorem Zah(hc:VT X c fc)(ha:RX X E a fx)(hb:RX X E b gx):RX X E (.IfExp c a b pos) (OE fc fx gx):=PE.imp (Ml hc ha hb) λσ H Q ⟨s,nm,env,e,q⟩=>by
 obtain⟨d,e1,e⟩:=Zd e;refine⟨λ_=>False,s,d,λ_ z=>z.elim,env,e1,λH1 s1=>?_⟩
 cases d with
 | true=>rw[mZ rfl] at e ⊢;exact⟨s,nm,env.mono s1,e,λC H' hc sm=>q C H' hc (s1.trans sm)⟩
 | false=>rw[ma a0] at e ⊢;exact⟨s,nm,env.mono s1,e,λC H' hc sm=>q C H' hc (s1.trans sm)⟩
theorem Dm{x1:Nat}(ha:RX X E a fx)(hr:PA X es t)(hs:aO (a::es) X.env=(aB,eval a X.env)::aO es X.env:=by rfl):RX X E (.Tuple (a::es) x1 pos) fx:=
 PE.imp (Pf (Yh ha hr (hs:=hs))) λσ H Q h=>h
theorem Dn{x1:Nat}(ha:VE X a f)(hb:RX X E b fx)(hr:PA X es t)(hs:aO (a::b::es) X.env=(aB,eval a X.env)::aO (b::es) X.env:=by rfl)(hs2:aO (b::es) X.env=(aB,eval b X.env)::aO es X.env:=by rfl):RX X E (.Tuple (a::b::es) x1 pos) (RM f fx):=
 PE.imp (Pf (Yh ha (Yh hb hr (hs:=hs2)) (hs:=hs))) λσ H Q ⟨s,nm,env,e,q⟩=>by obtain⟨l,e1,e⟩:=Zd e;exact⟨λ_=>False,s,l,λ_ z=>z.elim,env,e1,λv H1 fp s1 i1 _=>⟨s,nm,env.mono s1,e,λC H' hc sm=>q C H' hc (s1.trans sm)⟩⟩
theorem Kn(hN:X.N.Nodup)(hi:X.N[i]?=aA y)(hx:DN X.env.scope y)(he:RX X E e fx)(hs:dX e (aA (.Name y py)) pos.line X.env=pure aB:=by rfl)(hf:X.fn y=aC\/X.env.scope.names.lookup y=aA .local:=by first | exact .inl rfl | exact .inr rfl | assumption) :
  VX X O E (.Assign [.Name y py] e pos) fx:=PS.imp (HG hN hi hx he hs hf) λD σ H ⟨H0,fps,s,n,r,e,q⟩=>⟨s,n,r.env,e,λC H' hc sm=>q C H' hc (r.same.trans sm)⟩
end
section
variable {X:Cx} {O W:List Nat} {E:XK} {k n:Nat} {x:aR} {ps:List aR} {R:List PV->Option (aR×PV)} {e:aw} {es:List aw} {fs:List XE} {p cp pos:dm}
theorem BM(CX:CalX X.prog X.w X.K X.mg X.base x ps (spY X.K R n) k)(hr:Room k X.A)(hg:Gl X x)(ha:VA X.nox (e::es) fs)(DX:RH X E)(hn:fs.length=n:=by rfl)
  (hdb:(x==("__debug__" : aR))=aB:=by decide) (he:aO (e::es) X.env=(aB,eval e X.env)::aO es X.env:=by rfl) (hpl:(cL cp (aO es X.env)).any (·.1)=aB:=by rfl) :
  VY X O E (.Return (aA (.Call (.Name x p) (e::es) [] cp)) pos) (JC R fs):=by
 intro m3 s σ H D I ⟨H0,fps,sp,m,lv,r,e1,q⟩;obtain⟨ls,e2,e3⟩:=Zd e1;obtain⟨fa,fd,hmx,hkp,hbd,F⟩:=CX.ex;refine wpAny_Return_some ?_;refine dA (Wl I hg hmx ?_ hdb);refine eN (h₀:=X.base) I.ok.mod.kin hkp ?_ he hpl;refine ay (ha cp m3 s σ H (λvs H1=>Same H H1/\∃fp,Iss X.K H1 ls vs fp) (I.wish _) ⟨λ_=>False,sp,ls,λ_ z=>z.elim,r.env,e2,λvs H1 fp s1 i1 _=>⟨s1,fp,i1⟩⟩) (λus s1 ⟨vs,H1,I1,rv,sm,fp,i1⟩=>?_) λ_ _ z=>z.elim;have I1:Inv X m3 σ H1 s1:=I1.unwish;have lvn:vs.length=n:=by rw[i1.len,WI e2,hn]
 have hsp:spY X.K R n vs H1 (λ_ _=>False) E:=⟨lvn,ls,fp,m,lv,i1,e3,λC dx od u z H' hc sm' a1 a2 a3 a4=>q C dx od u z H' hc (r.same.trans (sm.trans sm')) a1 a2 a3 a4⟩;have hl:(us++[]).length=ps.length:=by rw[bI,<-rv.length,lvn];have:=F.len _ _ _ _ hsp;omega
 have hbb:=hbd s1 us I1.kIn hl;rw[bI] at hbb;refine⟨I1.kIn,f9 (eX (F.run X.A X.stack s1 H1 ⟨us,[]⟩ us vs _ _ hr I1.env0 hbb rv hsp) λres s' hq=>?_)⟩
 cases res with
 | ok fl=>
  cases fl with
  | ret u=>obtain⟨_,_,_,_,_,_,_,z⟩:=hq;exact z.elim
  | next=>exact b9 hq
  | brk=>exact b9 hq
  | cont=>exact b9 hq
 | error v=>exact Jq DX (λ_ _ _ z=>z) m3 σ H1 s1 v s' I1 hq
theorem IV(h:∀ls m l,R ls=aA (m,l)->m = "NoWeb"\/m = "Apart"):UM (JC R fs):=λs m l e=>by obtain⟨ls,_,e⟩:=Zd e;exact h ls m l e
end
def X2(f g:XE):XE:=λs=>match f s with
 | some l=>aA l
 | none=>g s
section
variable {X:Cx} {e:aw} {f g:XE}
theorem Vm(h1:VM X e f)(h2:VM X e g):VM X e (X2 f g):=by
 intro m3 s σ H Q I ⟨sp,l,env,e1,k⟩;unfold X2 at e1;split at e1
 ·rename_i m hm;cases e1;exact h1 m3 s σ H Q I ⟨sp,_,env,hm,k⟩
 ·exact h2 m3 s σ H Q I ⟨sp,l,env,e1,k⟩
end
section
variable {X:Cx} {tg mX iter:aw} {mW:List aw} {scope:fJ} {pos:dm} {own fr:List aR} {ix:List Nat} {wi:TI} {g:TG} {tt:TT} {te:TE} {E:XK}
theorem GV{ter:L2.St->Hp->Prop}{i:Nat}{y:aR}{py spos:dm}(hN:X.N.Nodup)(hy:X.N[i]?=aA y)(hloc:X.env.scope.names.lookup y=aA .local)(hcalm:X.calm=aC)(DX:RH X E)(hi:PI X tg iter wi)(S:CompScope X.N X.env.scope scope own fr ix)
  (hg:∀cl C s H ex,PG (Zz X (own++fr) scope cl C s H ex) tg g) (ht:∀cl C s H ex,K0 (Zz X (own++fr) scope cl C s H ex) mW tt) (he:∀cl C s H ex,PE (Zz X (own++fr) scope cl C s H ex) mX te)
  (hx:∀cl C s H ex m3 st σ' H',Inv (Zz X (own++fr) scope cl C s H ex) m3 σ' H' st->(∀b∈ex,∃o,(b,o)∈m3)->ter σ' H'->aZ (model X.prog X.w) X.A (eval mX (Zz X (own++fr) scope cl C s H ex).env) (λ_ _=>False) (λv s'=>Dg E (Zz X (own++fr) scope cl C s H ex) m3 σ' v s') st)
  (hsw:dX (.ListComp mX [⟨tg,iter,mW,0⟩] scope pos) (aA (.Name y py)) spos.line X.env=pure aC:=by rfl)
  (hs:∀x,bw iter X.env x=pure x:=by intro _;rfl):PS X (.Assign [.Name y py] (.ListComp mX [⟨tg,iter,mW,0⟩] scope pos) spos) (Mn (GO own.length ix wi g tt te ter) (Sw i)):=by
 intro m3 s σ H D0 I h;rw[jl _ _ _ _ hsw];refine aF (fO (aF ?_));show aZ _ X.A (do let _ <-comprehension (.ListComp mX [⟨tg,iter,mW,0⟩] scope pos) scope X.env _ (newList []) aB (eval iter X.env) (aA (assign (.Name y py) X.env))) _ _ s
 refine aF (ay (gH (cl:=Yv X.env.cells scope.names []) (use:=aA (assign (.Name y py) X.env)) (Q:=λ_ s'=>SP X m3 D0 .next s') (E:=X.xe) rfl hs (Uu (S.clos I)) S.kind S.names
  (YD (hi m3 s σ H _ I h) λv s1 h1=>YD h1 λitv s2 h2=>?_)) (λ_ s' hq=>aa (aa hq)) λ_ _ e=>e)
 obtain⟨it,fp,tn,J,H2,e,I2,T,st2,f2,W,⟨m0,w0⟩,turn⟩:=h2;subst e;refine M7 (Z:=Dg E) (Fin:=λys H=>∀p,H p=none->Sw i (.ref p) σ (upd H p (.lst ys)) D0.nx) (RR:=λacc C=>compPost (model X.prog X.w) X.A X.xe (aA (assign (.Name y py) X.env)) (λ_ s'=>SP X m3 D0 .next s') acc C) hcalm S hg ht he I2 T st2 f2 hx w0 turn ?_ ?_
 ·intro D C oC m s' H' ys I5 hoC hn fpC nD fin;show aZ _ X.A (assign (.Name y py) X.env (.ref D)) _ _ _;refine i8 (VN I5 hN hy (.inl hloc) (v:=.ref D) rfl (λs6 I6=>?_) (.inr hloc));obtain⟨e6,_⟩:=I6.pin (C,oC) (ag _ (ag _ a9));obtain⟨o',es,ep,ho',r'⟩:=hn;rw[hoC] at ho';cases ho';refine⟨m,⟨oC,es,ep,e6,r'⟩,λh' hs'=>⟨_,upd H' D (.lst ys),?_,fin D nD⟩⟩;exact(I6.unpinned (pl:=[(C,oC)])).turned (t':=s6.toks) (it:=C) (λb o hb e=>hs'.extBut b o hb e) fpC.1 fpC.2.1 fpC.2.2.2.1 fpC.2.2.2.2.1 fpC.2.2.2.2.2
 ·rintro D C pins' σ' v s' hC ⟨e,cls,dd,H',rfl,I',⟨T0,x0,hHe,hHT,he0,hT0⟩,q⟩;have he0:s2.heap.get? e=none:=he0;have hT0:s2.heap.get? T0=none:=hT0;have un:Un (Nz X.stack) fp H2 H' s2.heap s'.heap:=I'.base;have I5:Inv X m3 σ H' s':=I2.call' I'.os un I'.hok I'.bare λb hb=>⟨(f2 b hb).2.2.2.1,(f2 b hb).2.1,(f2 b hb).2.2.2.2.1,(f2 b hb).2.2.2.2.2⟩;have hst:=DX.stk;have hfr:=DX.fr;have oe:=Uy I2 DX.ex he0;have oT:=Uy I2 DX.ex hT0;have hCn:H' C=none:=I'.free;have fpC:Ti X m3 H' C:=I2.fpOk hC hCn;obtain⟨mC,hnC,_⟩:=I'.loc;have hnC:s'.heap.Ns C mC:=hnC;obtain⟨oC,es,ep,hoC,rC⟩:=id hnC;have nofld:∀vs,oC.data≠.fields vs:=λvs z=>by rw[rC.1] at z;cases z
  have eC:e≠C:=λz=>by obtain⟨oo,vs,_,_,a,_,_,d,_⟩:=x0;rw[z,hoC] at a;cases a;exact nofld vs d
  have TC:T0≠C:=λz=>by obtain⟨oo,vs,oT,ts,_,_,_,_,_,_,i,d,_⟩:=x0;rw[z,hoC] at i;cases i;exact nofld ts d
  have hstk:=I5.stack;rw[hst] at hstk;have hfrs:=I5.ok.frames;rw[hst] at hfrs;show aZ (model X.prog X.w) X.A (fS (.ref e) X.env) _ _ s';refine Gy hfrs hstk hfr x0 λh1 T' hT' x1 e1=>?_
  have I6:Inv X m3 σ H' { s' with heap:=h1 }:=RJ I5 DX.ex hfr e1 (λb hb=>by
   rcases aV.mp hb with z | z
   ·rw[z];exact⟨hHe,oe⟩
   ·rw[aP.mp z];exact⟨hHT,oT⟩) hst
  have T'C:T'≠C:=λz=>cI _ (af (aT hoC) (by rw[<-z];exact hT'))
  have nch:C∉[e,T0]:=λz=>by
   simp at z;rcases z with z | z
   ·exact eC z.symm
   ·exact TC z.symm
  have hC1:∃sl,h1.get? C=aA { oC with slots:=sl }:=by
   by_cases z:C∈(X.env::X.outer).filterMap (·.frame)
   ·exact e1.slot C oC hoC nch z
   ·exact⟨oC.slots,e1.keep C oC hoC nch z⟩
  obtain⟨sl,hC1⟩:=hC1;refine⟨mC,⟨_,es,ep,hC1,rC⟩,λh' hs' cenv _=>?_⟩;have x2:=GP x1 hs' eC T'C;have I7:Inv X m3 σ H' { s' with heap:=h' }:=Inv.turned (s:={ s' with heap:=h1 }) (t':=s'.toks) (it:=C) I6 (λb o hb e=>hs'.extBut b o hb e) fpC.1 fpC.2.1 fpC.2.2.2.1 fpC.2.2.2.2.1 fpC.2.2.2.2.2;refine De (s:={ s' with heap:=h' }) (fs:=(X.env::X.outer).filterMap (·.frame)) x2 λh2 fl' x3 e3 hz=>?_;have hHT':H' T'=none:=I5.hok.fresh hT';have oT':E2 X m3 T':=Uy I5 DX.ex (cZ hT');have I8:Inv X m3 σ H' { s' with heap:=h2 }:=RJ (s:={ s' with heap:=h' }) I7 DX.ex hfr e3 (λb hb=>by rw[aP.mp hb];exact⟨hHT',oT'⟩) hst;rw[DX.xe];have hstk8:=I8.stack;rw[hst] at hstk8;refine GN (s:={ s' with heap:=h2 }) hfrs hstk8 hfr x3 λh3 T3 hT3 x4 e4=>?_
  have t3:H' T3=none/\X.s₀.heap.get? T3=none:=by
   rcases hT3 with z | z
   ·rw[z];exact⟨hHT',oT'.1⟩
   ·exact⟨I8.hok.fresh z,(Uy I8 DX.ex (cZ z)).1⟩
  exact Sj (s:={ s' with heap:=h2 }) DX I8 t3.2 oe.1 hHe t3.1 (λb hb=>by
   rcases aV.mp hb with z | z
   ·rw[z];exact⟨hHe,oe.1⟩
   ·rw[aP.mp z];exact⟨hHT',oT'.1⟩) x4 e4 q
end
section
variable {X:Cx} {E:XK} {tg mX iter:aw} {mW:List aw} {scope:fJ} {pos:dm} {fi:XL} {T:Tgt} {ft:XT} {fe:XE} {fx:XR} {O:List Nat}
theorem Dp(own fr:List aR)(ix:List Nat){i:Nat}{y:aR}{py spos:dm}(hN:X.N.Nodup)(hy:X.N[i]?=aA y)(hloc:X.env.scope.names.lookup y=aA .local)(DX:RH X E)(hcalm:X.calm=aC)(hi:VI X tg iter fi)(S:Tt X.N X.env.scope scope own fr ix=aC)
  (hg:∀cl C s H ex,PG (Zz X (own++fr) scope cl C s H ex) tg (gT X.K T)) (ht:∀cl C s H ex,B9 (Zz X (own++fr) scope cl C s H ex) mW ft) (he:∀cl C s H ex,VE (Zz X (own++fr) scope cl C s H ex) mX fe)
  (hx:∀cl C s H ex m3 st σ' H',Inv (Zz X (own++fr) scope cl C s H ex) m3 σ' H' st->(∀b∈ex,∃o,(b,o)∈m3)->Dh X.K fx E σ' H'->aZ (model X.prog X.w) X.A (eval mX (Zz X (own++fr) scope cl C s H ex).env) (λ_ _=>False) (λv s'=>Dg E (Zz X (own++fr) scope cl C s H ex) m3 σ' v s') st)
  (hT:∀i∈T.slots,i<own.length:=by decide) (hsw:dX (.ListComp mX [⟨tg,iter,mW,0⟩] scope pos) (aA (.Name y py)) spos.line X.env=pure aC:=by rfl) (hs:∀x,bw iter X.env x=pure x:=by intro _;rfl) :
  VX X O E (.Assign [.Name y py] (.ListComp mX [⟨tg,iter,mW,0⟩] scope pos) spos) (RL own.length ix fi T ft fe fx):=
 PS.imp (GV hN hy hloc hcalm DX hi (Qc S) hg (λcl C s H ex=>(show K0 (Zz X (own++fr) scope cl C s H ex) mW (Mi X.K ft) from ht cl C s H ex)) (λcl C s H ex=>(show PE (Zz X (own++fr) scope cl C s H ex) mX (tF X.K fe) from he cl C s H ex)) hx hsw hs) λD σ H ⟨H0,fps,s,n,r,e,q⟩=>
  Di hT σ H _ ⟨s,n,r.env,e,λC H' hc sm=>q C H' hc (r.same.trans sm)⟩
end
structure Q6(P:bC)(wo:b6)(K:aG)(mg:aR->Option aE)(base:bV)(Ct Cw Ca Cb:aH):Prop where
 t:QN "NoText" K mg Ct Cb
 q:Q2 P wo K mg base Cw Ca Cb
section
variable {X:Cx} {O W:List Nat} {Cw Ca Cb:aH} {k n i:Nat} {x y nm:aR} {ps:List aR} {R:List PV->Option (aR×PV)} {e:aw} {es:List aw} {fs:List XE} {p py cp ep np hp pos:dm} {b₀:bj} {suite:List bj} {f:XS} {m6:List fU}
theorem IW(Q:Q2 X.prog X.w X.K X.mg X.base Cw Ca Cb)(CX:CalX X.prog X.w X.K X.mg X.base x ps (spY X.K R n) k)(hR:∀ls m l,R ls=aA (m,l)->m = "NoWeb"\/m = "Apart")(hr:Room k X.A)(hg:Gl X x)(ha:VA X.nox (e::es) fs)(hx:X.ex=[])(hst:X.stack=X.env::X.outer)(hfr:X.env.frame=aA X.env.locals)
  (hN:X.N.Nodup) (hi:X.N[i]?=aA nm) (hk:X.env.scope.names.lookup nm=aA .local) (hgc:Gl X "PurseError")
  (hs:∀e,NN (Cx.mark X e) O W (b₀::suite) f) (hiO:i∉O) (hsw:dX (.Call (.Name x p) (e::es) [] cp) (aA (.Name y py)) ep.line X.env=pure aB:=by rfl) (hn:fs.length=n:=by rfl)
  (hdb:(x==("__debug__" : aR))=aB:=by decide) (he:aO (e::es) X.env=(aB,eval e X.env)::aO es X.env:=by rfl) (hpl:(cL cp (aO es X.env)).any (·.1)=aB:=by rfl) :
  VS X O (i::W) (.Try [.Assign [.Name y py] (.Call (.Name x p) (e::es) [] cp) ep] (.ExceptHandler (aA (.Name "PurseError" np)) (aA nm) (b₀::suite) hp::m6) [] [] pos) (P0 R fs i f):=
 GU CX hr hg ha hx hst hfr hN hi hk hgc Q.mgb Q.kb (λls m l h=>by
  rcases hR ls m l h with rfl | rfl
  ·exact⟨Cw,Q.w.no,Q.w.fl.ec.kt,Q.w.bl⟩
  ·exact⟨Ca,Q.a.no,Q.a.fl.ec.kt,Q.a.bl⟩) hs hiO hsw hn hdb (by decide) he hpl
end
def X7(n0:aR)(fx:XR):Prop:=∀s m,fx s=aA m->m=n0
section
variable {n0:aR}
theorem Wg:X7 n0 QG:=λ_ _ e=>nomatch e
theorem IX:X7 n0 (λ_=>none):=λ_ _ e=>nomatch e
theorem Sm{n:aR}{f:XE}(h:n=n0):X7 n0 (Vg n f):=λs m e=>by
 unfold Vg at e;split at e
 ·split at e
  ·cases e;exact h
  ·cases e
 ·cases e
theorem RO{fc:XT}{f g:XR}(hf:X7 n0 f)(hg:X7 n0 g):X7 n0 (Nf fc f g):=λs m e=>by
 obtain⟨c,_,e⟩:=Zd e;split at e
 ·exact hf s m e
 ·exact hg s m e
theorem IY{fc:XT}{f g:XR}(hf:X7 n0 f)(hg:X7 n0 g):X7 n0 (OE fc f g):=λs m e=>by
 obtain⟨c,_,e⟩:=Zd e;split at e
 ·exact hf s m e
 ·exact hg s m e
theorem GW{f g:XR}(hf:X7 n0 f)(hg:X7 n0 g):X7 n0 (P2 f g):=λs m e=>by
 unfold P2 at e;split at e
 ·rename_i c hc;cases e;exact hf s _ hc
 ·exact hg s m e
theorem Ko{f:XE}{g:XR}(hg:X7 n0 g):X7 n0 (RM f g):=λs m e=>by obtain⟨c,_,e⟩:=Zd e;exact hg s m e
theorem W0{R:List PV->Option aR}{fs:List XE}(h:∀ls m,R ls=aA m->m=n0):X7 n0 (Yn R fs):=λs m e=>by obtain⟨ls,_,e⟩:=Zd e;exact h ls m e
theorem Xi{f1:XR}{f:XS}{g:XR}(hf:X7 n0 f1)(hg:X7 n0 g):X7 n0 (Y2 f1 f g):=λs m e=>by
 unfold Y2 at e;split at e
 ·rename_i c hc;cases e;exact hf s _ hc
 ·split at e
  ·exact hg _ m e
  ·cases e
theorem TR{T:Tgt}{ft:XT}{fe:XE}{fx:XR}{s0:ZS}(hx:X7 n0 fx):∀{ls:List PV}{m:aR},V2 T ft fe fx s0 ls=aA m->m=n0
 | [],_,h=>by cases h
 | l::r,m,h=>by
  obtain⟨s1,c,_,_,alt⟩:=P1 h;rcases alt with⟨_,e⟩ | ⟨_,_,_,e⟩ | ⟨_,e⟩
  ·exact hx _ _ e
  ·exact TR hx e
  ·exact TR hx e
theorem Kp{n:Nat}{ix:List Nat}{fi:XL}{T:Tgt}{ft:XT}{fe:XE}{fx:XR}(hx:X7 n0 fx):X7 n0 (RL n ix fi T ft fe fx):=λs m h=>by
 unfold RL at h;obtain⟨l,_,e⟩:=Zd h;split at e
 ·exact TR hx e
 ·cases e
theorem RP{m:Nat}{fx:XR}(h:X7 n0 fx):∀ls n,Kf m fx ls=aA n->n=n0:=λls n e=>h _ n e
end
end VX
namespace PW
open PySem L2 VL VX
def Uo:XS:=(Zk (YF (Ue (xB (Zh Wb (Ze ZR [Za 0]) (eC (.int 1)))) (Ue (xB (Zh T7 (Ze ZR [Za 0]) (eC (.int 2)))) (Vi (xB (Zh (YJ aB) (Ze ZR [Za 0]) (eC (.int 2)))) (xB (Zh (YJ aB) (Zh ZK (Za 0) (eC (.int 0))) (eC (.str "0"))))))) (Yd (eP (Pq V8 (eC (.int 1))))) Zs)
  (Zk (YF (YY (xB (Ze OC [Yg 1 [] (PR (Za 0)) (.one 0) Yi (Tf Qo Qo (eC (.str "0")) (Za 0) (eC (.str "9")))]))) (Yd (eP (Pq V8 (eC (.int 1))))) Zs)
  (Yd (eP (Ze Na [Za 0])))))
def ZF:List PV->Option PV:=WC 1 Uo
def Q9:XS:=(Zk (Zl 1 (eP (Zh V0 (Za 0) (eC (.str "-")))))
  (Zk (Zl 2 (eP (Zh V0 (Za 0) (eC (.str "*")))))
  (Zk (Zl 3 (eP (eC (.int 1))))
  (Zk (Zl 4 (eP (Ze ZR [Za 0])))
  (Zk (YF (xB (Zh DZ (Za 2) (eC (.int 0)))) (Zk (Zl 4 (eP (Za 2)))
  (Zk (Zl 3 (Ze ZF [Xm ZU (Za 0) (Y4 (Zh Yp (Za 2) (eC (.int 1)))) XZ]))
  (YF (xB (Zh Wb (Za 3) (eC (.int 2)))) (Yd (eP (eC .non))) Zs))) Zs)
  (Zk (YF (Ue (xB (Zh Wb (Za 1) (eC (.int 0)))) (xB (Zh T7 (Za 1) (Za 4)))) (Yd (eP (eC .non))) Zs)
  (Zk (Zl 5 (Ze ZF [Xm ZU (Za 0) XZ (Y4 (Za 1))]))
  (Zk (Zl 6 (Ze ZF [Xm ZU (Za 0) (Y4 (Zh Yp (Za 1) (eC (.int 1)))) (Y4 (Za 4))]))
  (Zk (YF (Ue (xB (Zh Wb (Za 5) (eC (.int 0)))) (xB (Zh Wb (Za 6) (eC (.int 0))))) (Yd (eP (eC .non))) Zs)
  (Yd (eP (Yf [Za 5,Za 6,Za 3]))))))))))))
def U3:List PV->Option PV:=WC 7 Q9
def Up:XS:=(Zk (Zl 1 (eP (Zh V0 (Za 0) (eC (.str ":")))))
  (Zk (YF (Ue (xB (Zh Wb (Za 1) (eC (.int 0)))) (xB (Zh Wb (Ze ZF [Xm ZU (Za 0) XZ (Y4 (Za 1))]) (eC (.int 0))))) (Yd (eP (eC .non))) Zs)
  (Zk (Zl 2 (eP (Xm ZU (Za 0) (Y4 (Zh Yp (Za 1) (eC (.int 1)))) XZ)))
  (Zk (Zl 3 (YO []))
  (Zk (UY (xB (Zh (YJ aC) (Za 2) (eC (.str "")))) (Zk (Zl 4 (eP (Zh Yp (Zh V0 (Xm ZU (Za 2) (Y4 (eC (.int 1))) XZ) (eC (.str " "))) (eC (.int 1)))))
  (Zk (YF (xB (Zh (YJ aB) (Za 4) (eC (.int 0)))) (Zl 4 (eP (Ze ZR [Za 2]))) Zs)
  (Zk (Zl 5 (Ze U3 [Xm ZU (Za 2) (Y4 (eC (.int 1))) (Y4 (Za 4))]))
  (Zk (YF (Ue (xB (Zh (YJ aC) (Zh ZK (Za 2) (eC (.int 0))) (eC (.str " ")))) (xB (Vc aB (Za 5)))) (Yd (eP (eC .non))) Zs)
  (Zk (XB 3 (eP (Za 5)))
  (Zl 2 (eP (Xm ZU (Za 2) (Y4 (Za 4)) XZ)))))))))
  (L8 3 (Ze ZF [Xm ZU (Za 0) XZ (Y4 (Za 1))])))))))
def Wy:List PV->Option PV:=WC 6 Up
def Uq:XS:=(Zk (Zl 3 (eP (eC (.str "0123456789:-* x_+\n\t"))))
  (Zk (Zl 4 (eP (Zh YS (Za 1) (Zh Yp (Ze ZR [Za 0]) (eC (.int 1))))))
  (Zk (Zl 5 (eP (Zh ZK (Za 3) (Zh YS (Za 2) (eC (.int 19))))))
  (Zk (Zl 6 (eP (Zh YS (Zh X8 (Za 2) (eC (.int 19))) (eC (.int 4)))))
  (Zk (YF (xB (Zh (YJ aB) (Za 6) (eC (.int 0)))) (Yd (eP (Zh YW (Xm ZU (Za 0) XZ (Y4 (Za 4))) (Xm ZU (Za 0) (Y4 (Zh Yp (Za 4) (eC (.int 1)))) XZ)))) Zs)
  (Zk (YF (xB (Zh (YJ aB) (Za 6) (eC (.int 1)))) (Yd (eP (Zh YW (Zh YW (Xm ZU (Za 0) XZ (Y4 (Za 4))) (Xm ZU (Za 0) (Y4 (Za 4)) (Y4 (Zh Yp (Za 4) (eC (.int 1)))))) (Xm ZU (Za 0) (Y4 (Za 4)) XZ)))) Zs)
  (Zk (YF (xB (Zh (YJ aB) (Za 6) (eC (.int 2)))) (Yd (eP (Zh YW (Zh YW (Xm ZU (Za 0) XZ (Y4 (Za 4))) (Za 5)) (Xm ZU (Za 0) (Y4 (Za 4)) XZ)))) Zs)
  (Yd (eP (Zh YW (Zh YW (Xm ZU (Za 0) XZ (Y4 (Za 4))) (Za 5)) (Xm ZU (Za 0) (Y4 (Zh Yp (Za 4) (eC (.int 1)))) XZ)))))))))))
def Wz:List PV->Option PV:=WC 7 Uq
def JD:XS:=(Zk (YF (Ue (xB (Zh Wb (Za 0) (eC (.int 1)))) (xB (Zh T7 (Za 0) (eC (.int 7))))) (Yd (eP (Yf [eC (.int 0),eC .non]))) Zs)
  (Zk (Zl 2 (eC (.dT [] [])))
  (Zk (Wt [2,7] (YG [Ze ZR [Za 1]]) (.one 3) (Zk (MJ (.many [4,5,6]) (Zh ZK (Za 1) (Za 3)))
  (Zk (YF (Ue (xB (Zh Sz (Za 5) (Za 4))) (Ue (xB (Zh DZ (Za 5) (Za 0))) (Ue (xB (Zh T7 (Za 6) (eC (.int 9)))) (xB (Qj aB (Yf [Za 4,Za 5]) (Za 2)))))) (Yd (eP (Yf [eC (.int 0),Za 3]))) Zs)
  (sDPut 2 (Yf [Za 4,Za 5]) (Za 6)))))
  (Zk (Zl 7 (YO [eP (eC (.int 0))]))
  (Zk (Wt [2,7] (YG [Za 0]) (.one 8) (Vl [2,7] 2 (.many [4,5]) (Zk (YF (Vi (xB (Zh (Rr aB) (Za 4) (Za 7))) (xB (Zh (Rr aC) (Za 5) (Za 7)))) (XB 7 (eP (Za 5))) Zs)
  (YF (Vi (xB (Zh (Rr aB) (Za 5) (Za 7))) (xB (Zh (Rr aC) (Za 4) (Za 7)))) (XB 7 (eP (Za 4))) Zs))))
  (Zk (YF (xB (Zh Wb (Ze ZR [Za 7]) (Za 0))) (Yd (eP (Yf [eC (.int 1),Ze Y6 [Ze Ul [Za 7]]]))) Zs)
  (Yd (eP (Yf [eC .non,Ze Y1 [Za 2,Za 0]])))))))))
def Vz:List PV->Option PV:=WC 9 JD
def RQ:XS:=(Zk (Zl 1 (YO [eP (X2 (XH (Qr "NoWeb") (Za 0)) (X1 (QI "NoText" "NoWeb") (Za 0))),eP (X2 (XH (Qr "Apart") (Za 0)) (X1 (QI "NoText" "Apart") (Za 0))),eP (X2 (XH (Qr "NoText") (Za 0)) (X1 (QI "NoText" "NoText") (Za 0))),eP (X2 (XH (Qr "NoOrder") (Za 0)) (X1 (QI "NoText" "NoOrder") (Za 0)))]))
  (Zk (Zl 1 (Zh TF (Za 1) (YO [X2 (XH (Qr "TooMany") (Za 0)) (X1 (QI "NoText" "TooMany") (Za 0)),X2 (XH (Qr "NotSettled") (Za 0)) (X1 (QI "NoText" "NotSettled") (Za 0)),X2 (XH (Qr "NoTree") (Za 0)) (X1 (QI "NoText" "NoTree") (Za 0))])))
  (Zk (Zl 1 (Zh TF (Za 1) (YO [X2 (XH (Qr "NoTotal") (Za 0)) (X1 (QI "NoText" "NoTotal") (Za 0)),X2 (XH (Qr "NoEnds") (Za 0)) (X1 (QI "NoText" "NoEnds") (Za 0)),X2 (XH (Qr "NoRow") (Za 0)) (X1 (QI "NoText" "NoRow") (Za 0)),X2 (XH (Qr "NoName") (Za 0)) (X1 (QI "NoText" "NoName") (Za 0))])))
  (Zk (YF (Ue (YY (xB (X2 (XH Co (Za 0)) (X1 (Cm "NoText") (Za 0))))) (xB (Zh (YJ aC) (Zh Sk (Za 1) (eC (.bl aC))) (eC (.int 1))))) (Yd (eP (Pq V8 (eC (.int 1))))) Zs)
  (Yd (eP (Zh RK (Za 1) (eC (.bl aC)))))))))
def Xj:List PV->Option PV:=WC 2 RQ
def U4:XS:=(Zk (YF (YY (xB (Tf Sz Sz (eC (.int 1)) (Ze ZR [Za 0]) (Za 1)))) (Yd (eP (eC (.bl aB)))) Zs)
  (Yd (eP (Ik (Ze OC [Yg 1 [] (PR (Za 0)) (.one 0) Yi (Zh (Kb aB) (Za 0) (eC (.str "0123456789")))]) (eOr (Zh (YJ aB) (Za 0) (eC (.str "0"))) (Zh (YJ aC) (Zh ZK (Za 0) (eC (.int 0))) (eC (.str "0"))))))))
def YN:List PV->Option PV:=WC 2 U4
def Zo:List PV->Option aR:=Kf 1 (Y2 (Nf (YY (xB (Ze YN [Za 0,eC (.int 2)]))) (Vg "NoText" (Za 0)) QG) ZO QG)
theorem Wo:∀ls m,Zo ls=aA m->m = "NoText":=RP (Xi (RO (Sm rfl) Wg) Wg)
def VB:XS:=(Zk (YF (YY (xB (Ze YN [Za 0,eC (.int 2)]))) ZO Zs)
  (Yd (eP (Ze Na [Za 0]))))
def Zn:List PV->Option PV:=WC 1 VB
def VH:XS:=(Zk (Zl 1 (YO [eP (eC (.int 0))]))
  (Zk (Zl 2 (eP (eC (.int 0))))
  (Zk (UY (xB (Zh Wb (Za 2) (Ze ZR [Za 1]))) (Zk (Zl 3 (eP (Zh ZK (Za 0) (Zh ZK (Za 1) (Za 2)))))
  (Zk (Sd 1 (Yg 2 [1] (WV aB [Za 3]) (.many [0,1]) (Vi (xB (Zh T7 (Za 1) (eC (.int 0)))) (xB (Zh (Rr aC) (Za 0) (Za 2)))) (eP (Za 0))))
  (Iq 2 Yp (eC (.int 1))))))
  (Yd (eP (Ze Y6 [Ze Ul [Za 1]]))))))
def X3:List PV->Option PV:=WC 4 VH
def U5:XS:=(Zk (YF (YY (xB (OD Sz Wb Wb (eC (.int 0)) (Zh ZK (Za 1) (eC (.int 0))) (Zh ZK (Za 1) (eC (.int 1))) (Ze ZR [Za 0])))) (Yd (eP (eC (.bl aB)))) Zs)
  (Yd (eP (Ik (Tf Sz Sz (eC (.int 1)) (Zh ZK (Za 1) (eC (.int 2))) (eC (.int 9))) (Zh (YJ aB) (Zh ZK (Zh ZK (Za 0) (Zh ZK (Za 1) (eC (.int 0)))) (Zh ZK (Za 1) (eC (.int 1)))) (eC (.int 0)))))))
def Yt:List PV->Option PV:=WC 2 U5
def Wh:List PV->Option (aR×PV):=BH 7 (Xo (NY (YY (xB (Tf Sz Sz (eC (.int 1)) (Za 0) (eC (.int 7))))) (U2 "NoWeb" (eC .non)) S1) (YF (YY (xB (Tf Sz Sz (eC (.int 1)) (Za 0) (eC (.int 7))))) ZO Zs)
  (Xo S1 (Zl 2 (Yg 1 [0] (YG [Za 0]) (.one 0) Yi (Zh SR (YO [eC (.int 0)]) (Za 1))))
  (Xo (Kh [2] (WV aC [Za 1]) (.many [3,4]) (Xo (NY (YY (xB (Ze Yt [Za 2,Za 4]))) (U2 "NoWeb" (Za 3)) S1) ZO S1) (Zk (YF (YY (xB (Ze Yt [Za 2,Za 4]))) ZO Zs)
  (Zk (Ym 2 (Zh ZK (Za 4) (eC (.int 0))) (Zh ZK (Za 4) (eC (.int 1))) (Zh ZK (Za 4) (eC (.int 2))))
  (Ym 2 (Zh ZK (Za 4) (eC (.int 1))) (Zh ZK (Za 4) (eC (.int 0))) (Zh ZK (Za 4) (eC (.int 2))))))) (Wt [2] (WV aC [Za 1]) (.many [3,4]) (Zk (YF (YY (xB (Ze Yt [Za 2,Za 4]))) ZO Zs)
  (Zk (Ym 2 (Zh ZK (Za 4) (eC (.int 0))) (Zh ZK (Za 4) (eC (.int 1))) (Zh ZK (Za 4) (eC (.int 2))))
  (Ym 2 (Zh ZK (Za 4) (eC (.int 1))) (Zh ZK (Za 4) (eC (.int 0))) (Zh ZK (Za 4) (eC (.int 2)))))))
  (Xo S1 (Zl 5 (eP (Ze Y6 [Yg 1 [] (VU (Za 2)) (.one 0) Yi (Ze Y6 [Za 0])])))
  (Xo S1 (Zl 6 (Ze X3 [Za 5]))
  (Xo (NY (xB (Zh Wb (Ze ZR [Za 6]) (Za 0))) (U2 "Apart" (Za 6)) S1) ZO S1))))))
theorem M8:∀ls m l,Wh ls=aA (m,l)->m = "NoWeb"\/m = "Apart":=JB (XU (N0 (S2 (by decide)) Wn) (XU Wn (XU (GS (XU (N0 (S2 (by decide)) Wn) Wn)) (XU Wn (XU Wn (XU (N0 (S2 (by decide)) Wn) Wn))))))
def RS:XS:=(Zk (YF (YY (xB (Tf Sz Sz (eC (.int 1)) (Za 0) (eC (.int 7))))) ZO Zs)
  (Zk (Zl 2 (Yg 1 [0] (YG [Za 0]) (.one 0) Yi (Zh SR (YO [eC (.int 0)]) (Za 1))))
  (Zk (Wt [2] (WV aC [Za 1]) (.many [3,4]) (Zk (YF (YY (xB (Ze Yt [Za 2,Za 4]))) ZO Zs)
  (Zk (Ym 2 (Zh ZK (Za 4) (eC (.int 0))) (Zh ZK (Za 4) (eC (.int 1))) (Zh ZK (Za 4) (eC (.int 2))))
  (Ym 2 (Zh ZK (Za 4) (eC (.int 1))) (Zh ZK (Za 4) (eC (.int 0))) (Zh ZK (Za 4) (eC (.int 2)))))))
  (Zk (Zl 5 (eP (Ze Y6 [Yg 1 [] (VU (Za 2)) (.one 0) Yi (Ze Y6 [Za 0])])))
  (Zk (Zl 6 (Ze X3 [Za 5]))
  (Zk (YF (xB (Zh Wb (Ze ZR [Za 6]) (Za 0))) ZO Zs)
  (Yd (eP (Za 5)))))))))
def V4:List PV->Option PV:=WC 7 RS
def ZV:List PV->Option aR:=Kf 2 (Y2 (Yn Zo [Za 0]) (Zl 1 (Ze Zn [Za 0]))
  (Y2 (Nf (xB (Zh Wb (Za 1) (eC (.int 2)))) (Vg "NoText" (Za 0)) QG) ZO QG))
theorem QP:∀ls m,ZV ls=aA m->m = "NoText":=RP (Xi (W0 Wo) (Xi (RO (Sm rfl) Wg) Wg))
def VC:XS:=(Zk (Zl 1 (Ze Zn [Za 0]))
  (Zk (YF (xB (Zh Wb (Za 1) (eC (.int 2)))) ZO Zs)
  (Yd (eP (Za 1)))))
def YI:List PV->Option PV:=WC 2 VC
def ZP:List PV->Option aR:=Kf 4 (Y2 QG (Zl 1 (Zh Xb (Za 0) (eC (.str "*"))))
  (Y2 QG (Zl 2 (Zh Xb (Zh ZK (Za 1) (eC (.int 0))) (eC (.str "-"))))
  (Y2 (Nf (Ue (xB (Zh T7 (Ze ZR [Za 1]) (eC (.int 2)))) (xB (Zh (YJ aC) (Ze ZR [Za 2]) (eC (.int 2))))) (Vg "NoText" (Za 0)) QG) (YF (Ue (xB (Zh T7 (Ze ZR [Za 1]) (eC (.int 2)))) (xB (Zh (YJ aC) (Ze ZR [Za 2]) (eC (.int 2))))) ZO Zs)
  (Y2 (OE (xB (Zh (YJ aB) (Ze ZR [Za 1]) (eC (.int 2)))) (Yn ZV [Zh ZK (Za 1) (eC (.int 1))]) (λ_=>none)) (Zl 3 (eP (D2 (xB (Zh (YJ aB) (Ze ZR [Za 1]) (eC (.int 2)))) (Ze YI [Zh ZK (Za 1) (eC (.int 1))]) (eC (.int 1)))))
  (P2 (Yn Zo [Zh ZK (Za 2) (eC (.int 0))]) (RM (Ze Zn [Zh ZK (Za 2) (eC (.int 0))]) (Yn Zo [Zh ZK (Za 2) (eC (.int 1))])))))))
theorem OF:∀ls m,ZP ls=aA m->m = "NoText":=RP (Xi Wg (Xi Wg (Xi (RO (Sm rfl) Wg) (Xi (IY (W0 QP) IX) (GW (W0 Wo) (Ko (W0 Wo)))))))
def U6:XS:=(Zk (Zl 1 (Zh Xb (Za 0) (eC (.str "*"))))
  (Zk (Zl 2 (Zh Xb (Zh ZK (Za 1) (eC (.int 0))) (eC (.str "-"))))
  (Zk (YF (Ue (xB (Zh T7 (Ze ZR [Za 1]) (eC (.int 2)))) (xB (Zh (YJ aC) (Ze ZR [Za 2]) (eC (.int 2))))) ZO Zs)
  (Zk (Zl 3 (eP (D2 (xB (Zh (YJ aB) (Ze ZR [Za 1]) (eC (.int 2)))) (Ze YI [Zh ZK (Za 1) (eC (.int 1))]) (eC (.int 1)))))
  (Yd (eP (Yf [Ze Zn [Zh ZK (Za 2) (eC (.int 0))],Ze Zn [Zh ZK (Za 2) (eC (.int 1))],Za 3])))))))
def ZD:List PV->Option PV:=WC 4 U6
def Yu:List PV->Option aR:=Kf 4 (Y2 QG (Zl 1 (Zh Xb (Za 0) (eC (.str " "))))
  (Y2 (Nf (YY (xB (Zh Vr (Zh ZK (Za 1) (eC (.int 0))) (eC (.str ":"))))) (Vg "NoText" (Za 0)) QG) (YF (YY (xB (Zh Vr (Zh ZK (Za 1) (eC (.int 0))) (eC (.str ":"))))) ZO Zs)
  (Y2 (Yn Zo [Xm ZU (Zh ZK (Za 1) (eC (.int 0))) XZ (Y4 (Pq V8 (eC (.int 1))))]) (Zl 2 (Ze Zn [Xm ZU (Zh ZK (Za 1) (eC (.int 0))) XZ (Y4 (Pq V8 (eC (.int 1))))]))
  (Y2 (RL 1 [] (VU (Xm Sv (Za 1) (Y4 (eC (.int 1))) XZ)) (.one 0) Yi (Ze ZD [Za 0]) (Yn ZP [Za 0])) ZO QG))))
theorem OG:∀ls m,Yu ls=aA m->m = "NoText":=RP (Xi Wg (Xi (RO (Sm rfl) Wg) (Xi (W0 Wo) (Xi (Kp (W0 OF)) Wg))))
def Xc:List PV->Option (aR×PV):=BH 4 (Xo S1 (Zl 1 (Zh Xb (Za 0) (eC (.str " "))))
  (Xo S1 (YF (YY (xB (Zh Vr (Zh ZK (Za 1) (eC (.int 0))) (eC (.str ":"))))) ZO Zs)
  (Xo S1 (Zl 2 (Ze Zn [Xm ZU (Zh ZK (Za 1) (eC (.int 0))) XZ (Y4 (Pq V8 (eC (.int 1))))]))
  (Xo S1 (Zl 3 (Yg 1 [] (VU (Xm Sv (Za 1) (Y4 (eC (.int 1))) XZ)) (.one 0) Yi (Ze ZD [Za 0])))
  (JC Wh [Za 2,Za 3])))))
theorem OH:∀ls m l,Xc ls=aA (m,l)->m = "NoWeb"\/m = "Apart":=JB (XU Wn (XU Wn (XU Wn (XU Wn (IV M8)))))
def U7:XS:=(Zk (Zl 1 (Zh Xb (Za 0) (eC (.str " "))))
  (Zk (YF (YY (xB (Zh Vr (Zh ZK (Za 1) (eC (.int 0))) (eC (.str ":"))))) ZO Zs)
  (Zk (Zl 2 (Ze Zn [Xm ZU (Zh ZK (Za 1) (eC (.int 0))) XZ (Y4 (Pq V8 (eC (.int 1))))]))
  (Zk (Zl 3 (Yg 1 [] (VU (Xm Sv (Za 1) (Y4 (eC (.int 1))) XZ)) (.one 0) Yi (Ze ZD [Za 0])))
  (Yd (Ze V4 [Za 2,Za 3]))))))
def W3:List PV->Option PV:=WC 4 U7
def Wi:XS:=(Zk (Zl 1 (eP (eC .non)))
  (Zk (Zl 2 (eP (eC .non)))
  (Zk (FZ (MW Yu [Za 0] 3 (Zl 1 (eP (Za 3)))) (FZ (P0 Xc [Za 0] 3 (Zl 1 (eP (Za 3)))) (Zl 2 (Ze W3 [Za 0]))))
  (Zk (YF (xB (Vc aB (Za 1))) (Yd (eP (Yf [eC .non,Za 2]))) Zs)
  (Zk (Zl 4 (Ze Xj [Za 1]))
  (Zk (YF (xB (Zh (YJ aB) (Za 4) (eC (.int 0)))) (Yd (Yf [eP (eC (.int 0)),eP (Tg "NoWeb" (Za 1))])) Zs)
  (Zk (YF (xB (Zh (YJ aB) (Za 4) (eC (.int 1)))) (Yd (Yf [eP (eC (.int 1)),eP (Tg "Apart" (Za 1))])) Zs)
  (Yd (eP (Yf [Za 4,eC .non]))))))))))
def YR:List PV->Option PV:=WC 5 Wi
def JE:XS:=(Zk (Zl 1 (eP (Zh Yp (eC (.int 1)) (Zh YS (Ze Zw [Za 0,eC (.int 0)]) (eC (.int 7))))))
  (Zk (Zl 2 (Ze WZ [Za 0,eC (.int 1),Za 1]))
  (Zk (Zl 3 (eP (Zh YW (Ze X6 [Za 1]) (eC (.str ":")))))
  (Zk (SE 2 (.many [4,5]) (Zk (Zl 3 (eP (Zh YW (Zh YW (Zh YW (Zh YW (Za 3) (eC (.str " "))) (Ze X6 [Za 4])) (eC (.str "-"))) (Ze X6 [Za 5]))))
  (YF (xB (Zh T7 (Zh XM (Za 2) (Yf [Za 4,Za 5])) (eC (.int 1)))) (Zl 3 (eP (Zh YW (Zh YW (Za 3) (eC (.str "*"))) (Ze X6 [Zh XM (Za 2) (Yf [Za 4,Za 5])])))) Zs)))
  (Zk (Zl 6 (eP (Za 3)))
  (Zk (Wt [] (YG [Zh YS (Ze Zw [Za 0,eC (.int 29)]) (eC (.int 4))]) (.one 7) (Zl 3 (Ze Wz [Za 3,Ze Zw [Za 0,Zh Yp (eC (.int 30)) (Zh Pn (eC (.int 2)) (Za 7))],Ze Zw [Za 0,Zh Yp (eC (.int 31)) (Zh Pn (eC (.int 2)) (Za 7))]])))
  (Zk (YF (xB (Zh (YJ aB) (Zh YS (Ze Zw [Za 0,eC (.int 36)]) (eC (.int 8))) (eC (.int 3)))) (Zk (Zl 8 (YO [eP (eC (.str "")),eP (eC (.str ":")),eP (eC (.str "1")),eP (eC (.str "1:")),eP (eC (.str "1: ")),eP (eC (.str "01:")),eP (eC (.str "0:")),eP (eC (.str "8:")),eP (eC (.str "2:")),eP (eC (.str "2: 0-1")),eP (eC (.str "2:0-1")),eP (eC (.str "2: 1-0")),eP (eC (.str "2: 0-1*1"))]))
  (Zk (Zl 8 (Zh TF (Za 8) (YO [eC (.str "2: 0-1*10"),eC (.str "2: 0-1 0-1"),eC (.str "10:"),eC (.str "3: 0-2"),eC (.str "3: 1-2 0-1*02"),eC (.str "100:"),eC (.str "2: 0-100"),eC (.str "2: 0-1*100")])))
  (Zl 3 (eP (Zh ZK (Za 8) (Zh YS (Zh X8 (Ze Zw [Za 0,eC (.int 36)]) (eC (.int 8))) (eC (.int 21)))))))) Zs)
  (Zk (Zl 9 (Ze Wy [Za 3]))
  (Zk (Zl 10 (eP (Yf [eC (.int 2),eC .non])))
  (Zk (YF (xB (Vc aC (Za 9))) (Zl 10 (Ze Vz [Zh ZK (Za 9) (eC (.int 0)),Zh ZK (Za 9) (eC (.int 1))])) Zs)
  (Yd (eP (Ik (Zh (YJ aB) (Ze YR [Za 3]) (Za 10)) (Zh (YJ aB) (Ze YR [Za 6]) (Yf [eC .non,Ze Y1 [Za 2,Za 1]])))))))))))))))
def D_law:List PV->Option PV:=WC 11 JE
def P4(i:Nat):bj:=il.main.body.getD i (.Pass ⟨0,0,0,0⟩)
section
variable {P:bC} {w:b6} {K:aG} {mg:aR->Option aE} {base:bV}
abbrev P5:bj:=P4 28
theorem IZ:Z6 (["_law_script","_law_k"]:List aR) (["_law_script","_law_k"]:List aR) (Zp P5):=⟨rfl,rfl,rfl,by decide +kernel,rfl,by decide +kernel,by decide +kernel⟩
theorem Ha(Df:Def K mg "_law_cell" P5)(B:R1 mg):WD P w K mg base "_law_cell" (["_law_script","_law_k"]:List aR) (X9 K Zw 2) 1:=
 Xf (O:=[]) (k:=0) 2 PM Df IZ (λ_ _ _ _ _ _ us hl=>match us,hl with | [_,_],_=>rfl) rfl rfl (by decide) (λfa cdv A outer s H E hr=>
  (Zj (Z5 (VE.pure (Zt (VM.ve (QY (T9 (Zb (pv 0)) (Z8 (Zb (pv 1))) (Z8 (Xe (Zb (pv 1)) Zf))) (Uw (Zc Zf Zi)))) Zf)))))
abbrev TU:bj:=P4 30
theorem sc_l_renamed:Z6 (["_law_found","_law_cell_here","_law_many","_law_names","_law_house","_law_told_here","_law_one","_law_other","_law_pair"]:List aR) (["_law_found","_law_cell_here","_law_many"]:List aR) (Zp TU):=⟨rfl,rfl,rfl,by decide +kernel,rfl,by decide +kernel,by decide +kernel⟩
theorem N1(Df:Def K mg "_law_renamed" TU)(B:R1 mg):WD P w K mg base "_law_renamed" (["_law_found","_law_cell_here","_law_many"]:List aR) (X9 K Vf 3) 1:=
 Xf (O:=[3,5]) (k:=0) 9 Uk Df sc_l_renamed (λ_ _ _ _ _ _ us hl=>match us,hl with | [_,_,_],_=>rfl) rfl rfl (by decide) (λfa cdv A outer s H E hr=>
  (Zg (Zq (i:=3) sc_l_renamed.nd rfl (aY rfl) (SO Vx))
  (Zg (Vj b8 rfl (Xx rfl B.range (Zc (Zb (pv 2)) Zi)) (ZG (i:=4) sc_l_renamed.nd rfl (aY rfl)) (Zg (Ip (Vt (Tr cY PySem.F.slot_list_insert PySem.F.type_list_insert Ih (pv 3) (Yh (Wr (Zb (pv 1)) (Xe (Zb (pv 4)) Zf)) (Yh (Zb (pv 4)) XI)))))
  (Zj (Zq (i:=1) sc_l_renamed.nd rfl (aY rfl) (VE.pure (WH (Zb (pv 1)) (Xe (Zb (pv 4)) Zf)))))))
  (Zg (Zq (i:=5) sc_l_renamed.nd rfl (aY rfl) Rp)
  (Zg (NQ (SJ b8 rfl (Rk (pv 0)) (Ut (n:=2) rfl (Yo (ZG (i:=6) sc_l_renamed.nd rfl (aY rfl)) (Yo (ZG (i:=7) sc_l_renamed.nd rfl (aY rfl)) W5))) (Zg (Zq (i:=8) sc_l_renamed.nd rfl (aY rfl) (VE.pure (Y5 (Zc (ZN (R6 rfl) NL rfl B.min (by decide +kernel) (Zc (Zt (Zb (pv 3)) (Zb (pv 6))) (Zc (Zt (Zb (pv 3)) (Zb (pv 7))) Zi))) (Zc (ZN (J2 rfl) EC rfl B.max (by decide +kernel) (Zc (Zt (Zb (pv 3)) (Zb (pv 6))) (Zc (Zt (Zb (pv 3)) (Zb (pv 7))) Zi))) Zi)))))
  (Zj (Ry (Rg (Td hr) (pv 5) (Zb (pv 8)) (Rx (Td hr) (Zb (pv 0)) (Y5 (Zc (Zb (pv 6)) (Zc (Zb (pv 7)) Zi)))) rfl))))))
  (Zj (EJ (pv 5))))))))
abbrev V5:bj:=P4 31
theorem sc_l_read_times:Z6 (["_law_rest","_law_many","_law_room","_law_most","_law_found","_law_met","_law_one","_law_other","_law_deep","_law_turn"]:List aR) (["_law_rest","_law_many","_law_room","_law_most"]:List aR) (Zp V5):=⟨rfl,rfl,rfl,by decide +kernel,rfl,by decide +kernel,by decide +kernel⟩
theorem QQ(Df:Def K mg "_law_read_times" V5)(B:R1 mg):WD P w K mg base "_law_read_times" (["_law_rest","_law_many","_law_room","_law_most"]:List aR) (X9 K Y0 4) 1:=
 Xf (O:=[4,5]) (k:=0) 10 WO Df sc_l_read_times (λ_ _ _ _ _ _ us hl=>match us,hl with | [_,_,_,_],_=>rfl) rfl rfl (by decide) (λfa cdv A outer s H E hr=>
  (Zg (Zq (i:=4) sc_l_read_times.nd rfl (aY rfl) Rp)
  (Zg (Zq (i:=5) sc_l_read_times.nd rfl (aY rfl) (SO (Xu (VE.pure Zf) Vx)))
  (Zg (Vj b8 rfl (Xx rfl B.range (Zc (Zb (pv 1)) Zi)) (ZG (i:=6) sc_l_read_times.nd rfl (aY rfl)) (Zj (Vj b8 rfl (Qg rfl B.range (Zc (Xe (Zb (pv 6)) Zf) (Zc (Zb (pv 1)) Zi))) (ZG (i:=7) sc_l_read_times.nd rfl (aY rfl)) (Zg (Zq (i:=8) sc_l_read_times.nd rfl (aY rfl) (VE.pure (ZN (R6 rfl) NL rfl B.min (by decide +kernel) (Zc (LQ (Wr (Zb (pv 0)) Zf) (Xe Zf (Wr (WH (Zb (pv 0)) Zf) (Zb (pv 3))))) (Zc (Zb (pv 2)) Zi)))))
  (Zg (Zq (i:=0) sc_l_read_times.nd rfl (aY rfl) (VE.pure (Zt (Uw (Zc (WH (Zb (pv 0)) Zf) (Zc (WH (WH (Zb (pv 0)) Zf) (Zb (pv 3))) Zi))) (Wr (Zb (pv 0)) Zf))))
  (Zj (Yl (SA (Zb (pv 8)) Zf) (Zg (Ry (Rg (Td hr) (pv 4) (Y5 (Zc (Zb (pv 6)) (Zc (Zb (pv 7)) Zi))) (Zb (pv 8)) rfl))
  (Zj (Zq (i:=2) sc_l_read_times.nd rfl (aY rfl) (VE.pure (Qe (Zb (pv 2)) (Zb (pv 8))))))) ZA)))))))
  (Zg (Vj b8 rfl (Xx rfl B.range (Zc (Zb (pv 1)) Zi)) (ZG (i:=9) sc_l_read_times.nd rfl (aY rfl)) (Zj (MR (O':=[5]) (SJ b8 rfl (Rk (pv 4)) (Ut (n:=2) rfl (Yo (ZG (i:=6) sc_l_read_times.nd rfl (aY rfl)) (Yo (ZG (i:=7) sc_l_read_times.nd rfl (aY rfl)) W5))) (Zg (Yl (VW.vt (Tv (Jg hr.units (Zb (pv 6)) (Zb (pv 5))) (Ug (Tz hr.units (Zb (pv 7)) (Zb (pv 5)))))) (Zj (UG (Vt (Tr cY de df UD (pv 5) (Yh (VE.pure (Zb (pv 7))) XI))))) ZA)
  (Zj (Yl (VW.vt (Tv (Jg hr.units (Zb (pv 7)) (Zb (pv 5))) (Ug (Tz hr.units (Zb (pv 6)) (Zb (pv 5)))))) (Zj (UG (Vt (Tr cY de df UD (pv 5) (Yh (VE.pure (Zb (pv 6))) XI))))) ZA)))) (by decide) (by intro j;simp;try omega))))
  (Zj (Iu (Sx ix_list (LL (Yh HD (Yh (pv 4) XI))) (YE J3 ED rfl B.int (by decide +kernel) (Zc (MM hr.units (ZN Yb YZ rfl B.len (by decide +kernel) (Zc (Zb (pv 5)) Zi)) (Zb (pv 1))) Zi)) (λ_ _=>rfl)))))))))
abbrev Qt:bj:=P4 32
theorem sc_l_times:Z6 (["_law_script","_law_at","_law_many","_law_first","_law_found","_law_room","_law_house","_law_cell_here","_law_deep","_law_k","_law_one","_law_other"]:List aR) (["_law_script","_law_at","_law_many"]:List aR) (Zp Qt):=⟨rfl,rfl,rfl,by decide +kernel,rfl,by decide +kernel,by decide +kernel⟩
theorem Kq(Df:Def K mg "_law_times" Qt)(B:R1 mg)(C_l_cell:WD P w K mg base "_law_cell" (["_law_script","_law_k"]:List aR) (X9 K Zw 2) 1)(C_l_read_times:WD P w K mg base "_law_read_times" (["_law_rest","_law_many","_law_room","_law_most"]:List aR) (X9 K Y0 4) 1)(C_l_renamed:WD P w K mg base "_law_renamed" (["_law_found","_law_cell_here","_law_many"]:List aR) (X9 K Vf 3) 1):WD P w K mg base "_law_times" (["_law_script","_law_at","_law_many"]:List aR) (X9 K WZ 3) 2:=
 Xf (O:=[4]) (k:=1) 12 Sg Df sc_l_times (λ_ _ _ _ _ _ us hl=>match us,hl with | [_,_,_],_=>rfl) rfl rfl (by decide) (λfa cdv A outer s H E hr=>
  (Zg (Zq (i:=3) sc_l_times.nd rfl (aY rfl) (Zx C_l_cell (hr.mono (by decide)) rfl (Zc (Zb (pv 0)) (Zc (Zb (pv 1)) Zi))))
  (Zg (Yl (VW.vt (Tv (UJ hr.units (Wr (Zb (pv 3)) Zf) Zf) (Ug (K7 (VM.ve (Zx C_l_read_times (hr.mono (by decide)) rfl (Zc (WH (Zb (pv 3)) Zf) (Zc (Zb (pv 2)) (Zc Zf (Zc Zf Zi)))))))))) (Zj (Z5 (Zx C_l_read_times (hr.mono (by decide)) rfl (Zc (WH (Zb (pv 3)) Zf) (Zc (Zb (pv 2)) (Zc Zf (Zc Zf Zi))))))) ZA)
  (Zg (Zq (i:=4) sc_l_times.nd rfl (aY rfl) Rp)
  (Zg (Zq (i:=5) sc_l_times.nd rfl (aY rfl) (VE.pure Zf))
  (Zg (Vj b8 rfl (Qg rfl B.range (Zc Zf (Zc (Zb (pv 2)) Zi))) (ZG (i:=6) sc_l_times.nd rfl (aY rfl)) (Zg (Zq (i:=7) sc_l_times.nd rfl (aY rfl) (Zx C_l_cell (hr.mono (by decide)) rfl (Zc (Zb (pv 0)) (Zc (Xe (Zb (pv 1)) (Zb (pv 6))) Zi))))
  (Zg (Zq (i:=8) sc_l_times.nd rfl (aY rfl) (VE.pure (ZN (R6 rfl) NL rfl B.min (by decide +kernel) (Zc (Zt (Uw (Zc Zf (Zc Zf (Zc Zf (Zc Zf (Zc Zf (Zc Zf Zi))))))) (Wr (WH (Zb (pv 7)) (Zb (pv 6))) Zf)) (Zc (Qe (Zb (pv 5)) (Qe (Qe (Zb (pv 2)) Zf) (Zb (pv 6)))) Zi)))))
  (Zg (Ry (Rg (Td hr) (pv 4) (Y5 (Zc (Wr (Zb (pv 7)) (Zb (pv 6))) (Zc (Zb (pv 6)) Zi))) (Zb (pv 8)) rfl))
  (Zj (Zq (i:=5) sc_l_times.nd rfl (aY rfl) (VE.pure (Qe (Zb (pv 5)) (Zb (pv 8))))))))))
  (Zg (Zq (i:=9) sc_l_times.nd rfl (aY rfl) (VE.pure (Xe (Zb (pv 1)) Zf)))
  (Zg (Vj b8 rfl (Xx rfl B.range (Zc (Zb (pv 2)) Zi)) (ZG (i:=10) sc_l_times.nd rfl (aY rfl)) (Zj (Vj b8 rfl (Qg rfl B.range (Zc (Xe (Zb (pv 10)) Zf) (Zc (Zb (pv 2)) Zi))) (ZG (i:=11) sc_l_times.nd rfl (aY rfl)) (Zg (Zq (i:=8) sc_l_times.nd rfl (aY rfl) (VE.pure (Zt (Uw (Zc Zf (Zc Zf (Zc Zf (Zc Zf (Zc Zf (Zc Zf (Zc Zf (Zc Zf Zi))))))))) (Wr (VM.ve (Zx C_l_cell (hr.mono (by decide)) rfl (Zc (Zb (pv 0)) (Zc (Zb (pv 9)) Zi)))) Zf))))
  (Zg (Zq (i:=9) sc_l_times.nd rfl (aY rfl) (VE.pure (Xe (Zb (pv 9)) Zf)))
  (Zj (Yl (VW.vt (Tv (Ir (Td hr) (Y5 (Zc (Zb (pv 10)) (Zc (Zb (pv 11)) Zi))) (Zb (pv 4))) (Ug (TB KP UB (UW _) (UW _) Zf (Zb (pv 8)) (Zb (pv 5)))))) (Zg (Ry (Rg (Td hr) (pv 4) (Y5 (Zc (Zb (pv 10)) (Zc (Zb (pv 11)) Zi))) (Zb (pv 8)) rfl))
  (Zj (Zq (i:=5) sc_l_times.nd rfl (aY rfl) (VE.pure (Qe (Zb (pv 5)) (Zb (pv 8))))))) ZA)))))))
  (Zj (Z5 (Zx C_l_renamed (hr.mono (by decide)) rfl (Zc (Zb (pv 4)) (Zc (WH (VM.ve (Zx C_l_cell (hr.mono (by decide)) rfl (Zc (Zb (pv 0)) (Zc (Zb (pv 1)) Zi)))) Zf) (Zc (Zb (pv 2)) Zi))))))))))))))
abbrev TV:bj:=P4 36
theorem N2:Z6 (["_law_word"]:List aR) (["_law_word"]:List aR) (Zp TV):=⟨rfl,rfl,rfl,by decide +kernel,rfl,by decide +kernel,by decide +kernel⟩
theorem N3(Df:Def K mg "_law_figures" TV)(B:R1 mg):WD P w K mg base "_law_figures" (["_law_word"]:List aR) (X9 K ZF 1) 1:=
 Xf (O:=[]) (k:=0) 1 Uo Df N2 (λ_ _ _ _ _ _ us hl=>match us,hl with | [_],_=>rfl) rfl rfl (by decide) (λfa cdv A outer s H E hr=>
  (Zg (Yl (VW.vt (Uh (Ud (ZN Yb YZ rfl B.len (by decide +kernel) (Zc (Zb (pv 0)) Zi)) Zf) (Uh (SA (ZN Yb YZ rfl B.len (by decide +kernel) (Zc (Zb (pv 0)) Zi)) Zf) (VR (VW.vt (Tv (UJ hr.units (ZN Yb YZ rfl B.len (by decide +kernel) (Zc (Zb (pv 0)) Zi)) Zf) (Ug (UJ hr.units (Zt (Zb (pv 0)) Zf) Ys)))))))) (Zj (Z5 (VE.pure (SN Zf)))) ZA)
  (Zg (Yl (XJ (Vh (ZN (OX rfl) Ga rfl B.all (by decide +kernel) (Zc (Rt (["_law_sign"]:List aR) ([]:List aR) [] rfl (Gu (Zb (pv 0))) (by kernel_rfl) (λ_ _ _ _ _=>(ZG (i:=0) (show((["_law_sign"]:List aR)++([]:List aR)).Nodup by decide +kernel) rfl (aY rfl) (.inr rfl))) (λ_ _ _ _ _=>WL) (λ_ _ _ _ _=>(MP Gv Gv Gw Gw Ys (Zb (pv 0)) Ys))) Zi)))) (Zj (Z5 (VE.pure (SN Zf)))) ZA)
  (Zj (Z5 (VE.pure (YE Nb Jo rfl B.int (by decide +kernel) (Zc (Zb (pv 0)) Zi))))))))
abbrev N4:bj:=P4 37
theorem sc_l_tie:Z6 (["_law_word","_law_dash","_law_star","_law_deep","_law_end","_law_one","_law_other"]:List aR) (["_law_word"]:List aR) (Zp N4):=⟨rfl,rfl,rfl,by decide +kernel,rfl,by decide +kernel,by decide +kernel⟩
theorem GX(Df:Def K mg "_law_tie" N4)(B:R1 mg)(C_l_figures:WD P w K mg base "_law_figures" (["_law_word"]:List aR) (X9 K ZF 1) 1):WD P w K mg base "_law_tie" (["_law_word"]:List aR) (X9 K U3 1) 2:=
 Xf (O:=[]) (k:=1) 7 Q9 Df sc_l_tie (λ_ _ _ _ _ _ us hl=>match us,hl with | [_],_=>rfl) rfl rfl (by decide) (λfa cdv A outer s H E hr=>
  (Zg (Zq (i:=1) sc_l_tie.nd rfl (aY rfl) (VE.pure (QE F.slot_str_find F.type_str_find Q5 Q7 Si (Zb (pv 0)) Ys)))
  (Zg (Zq (i:=2) sc_l_tie.nd rfl (aY rfl) (VE.pure (QE F.slot_str_find F.type_str_find Q5 Q7 Si (Zb (pv 0)) Ys)))
  (Zg (Zq (i:=3) sc_l_tie.nd rfl (aY rfl) (VE.pure Zf))
  (Zg (Zq (i:=4) sc_l_tie.nd rfl (aY rfl) (VE.pure (ZN Yb YZ rfl B.len (by decide +kernel) (Zc (Zb (pv 0)) Zi))))
  (Zg (Yl (D1 (Zb (pv 2)) Zf) (Zg (Zq (i:=4) sc_l_tie.nd rfl (aY rfl) (VE.pure (Zb (pv 2))))
  (Zg (Zq (i:=3) sc_l_tie.nd rfl (aY rfl) (Zx C_l_figures (hr.mono (by decide)) rfl (Zc (ZY (Zb (pv 0)) (Z8 (Xe (Zb (pv 2)) Zf)) Yy) Zi)))
  (Zj (Yl (Ud (Zb (pv 3)) Zf) (Zj (Z5 (VE.pure WE))) ZA)))) ZA)
  (Zg (Yl (VW.vt (Uh (Ud (Zb (pv 1)) Zf) (VR (SA (Zb (pv 1)) (Zb (pv 4)))))) (Zj (Z5 (VE.pure WE))) ZA)
  (Zg (Zq (i:=5) sc_l_tie.nd rfl (aY rfl) (Zx C_l_figures (hr.mono (by decide)) rfl (Zc (ZY (Zb (pv 0)) Yy (Z8 (Zb (pv 1)))) Zi)))
  (Zg (Zq (i:=6) sc_l_tie.nd rfl (aY rfl) (Zx C_l_figures (hr.mono (by decide)) rfl (Zc (ZY (Zb (pv 0)) (Z8 (Xe (Zb (pv 1)) Zf)) (Z8 (Zb (pv 4)))) Zi)))
  (Zg (Yl (VW.vt (Uh (Ud (Zb (pv 5)) Zf) (VR (Ud (Zb (pv 6)) Zf)))) (Zj (Z5 (VE.pure WE))) ZA)
  (Zj (Z5 (VE.pure (Y5 (Zc (Zb (pv 5)) (Zc (Zb (pv 6)) (Zc (Zb (pv 3)) Zi)))))))))))))))))
abbrev TX:bj:=P4 38
theorem sc_l_reading:Z6 (["_law_text","_law_colon","_law_rest","_law_found","_law_end","_law_tie_here"]:List aR) (["_law_text"]:List aR) (Zp TX):=⟨rfl,rfl,rfl,by decide +kernel,rfl,by decide +kernel,by decide +kernel⟩
theorem N5(Df:Def K mg "_law_reading" TX)(B:R1 mg)(C_l_figures:WD P w K mg base "_law_figures" (["_law_word"]:List aR) (X9 K ZF 1) 1)(C_l_tie:WD P w K mg base "_law_tie" (["_law_word"]:List aR) (X9 K U3 1) 2):WD P w K mg base "_law_reading" (["_law_text"]:List aR) (X9 K Wy 1) 3:=
 Xf (O:=[3]) (k:=2) 6 Up Df sc_l_reading (λ_ _ _ _ _ _ us hl=>match us,hl with | [_],_=>rfl) rfl rfl (by decide) (λfa cdv A outer s H E hr=>
  (Zg (Zq (i:=1) sc_l_reading.nd rfl (aY rfl) (VE.pure (QE F.slot_str_find F.type_str_find Q5 Q7 Si (Zb (pv 0)) Ys)))
  (Zg (Yl (VW.vt (Uh (Ud (Zb (pv 1)) Zf) (VR (Ud (VM.ve (Zx C_l_figures (hr.mono (by decide)) rfl (Zc (ZY (Zb (pv 0)) Yy (Z8 (Zb (pv 1)))) Zi))) Zf)))) (Zj (Z5 (VE.pure WE))) ZA)
  (Zg (Zq (i:=2) sc_l_reading.nd rfl (aY rfl) (VE.pure (ZY (Zb (pv 0)) (Z8 (Xe (Zb (pv 1)) Zf)) Yy)))
  (Zg (Zq (i:=3) sc_l_reading.nd rfl (aY rfl) (SO Vx))
  (Zg (MH b8 (O5 hr.units (Zb (pv 2)) Ys) (Zg (Zq (i:=4) sc_l_reading.nd rfl (aY rfl) (VE.pure (Xe (QE F.slot_str_find F.type_str_find Q5 Q7 Si (ZY (Zb (pv 2)) (Z8 Zf) Yy) Ys) Zf)))
  (Zg (Yl (UJ hr.units (Zb (pv 4)) Zf) (Zj (Zq (i:=4) sc_l_reading.nd rfl (aY rfl) (VE.pure (ZN Yb YZ rfl B.len (by decide +kernel) (Zc (Zb (pv 2)) Zi))))) ZA)
  (Zg (Zq (i:=5) sc_l_reading.nd rfl (aY rfl) (Zx C_l_tie (hr.mono (by decide)) rfl (Zc (ZY (Zb (pv 2)) (Z8 Zf) (Z8 (Zb (pv 4)))) Zi)))
  (Zg (Yl (VW.vt (Uh (O5 hr.units (Zt (Zb (pv 2)) Zf) Ys) (VR (HY (Zb (pv 5)))))) (Zj (Z5 (VE.pure WE))) ZA)
  (Zg (UG (Vt (Tr cY de df UD (pv 3) (Yh (VE.pure (Zb (pv 5))) XI))))
  (Zj (Zq (i:=2) sc_l_reading.nd rfl (aY rfl) (VE.pure (ZY (Zb (pv 2)) (Z8 (Zb (pv 4))) Yy))))))))))
  (Zj (Gr (Pf (Yh (VM.ve (Zx C_l_figures (hr.mono (by decide)) rfl (Zc (ZY (Zb (pv 0)) Yy (Z8 (Zb (pv 1)))) Zi))) (Yh (pv 3) XI)))))))))))
abbrev TY:bj:=P4 35
theorem sc_l_changed:Z6 (["_law_text","_law_cell_here","_law_other","_law_signs","_law_at","_law_sign","_law_way"]:List aR) (["_law_text","_law_cell_here","_law_other"]:List aR) (Zp TY):=⟨rfl,rfl,rfl,by decide +kernel,rfl,by decide +kernel,by decide +kernel⟩
theorem N6(Df:Def K mg "_law_changed" TY)(B:R1 mg):WD P w K mg base "_law_changed" (["_law_text","_law_cell_here","_law_other"]:List aR) (X9 K Wz 3) 1:=
 Xf (O:=[]) (k:=0) 7 Uq Df sc_l_changed (λ_ _ _ _ _ _ us hl=>match us,hl with | [_,_,_],_=>rfl) rfl rfl (by decide) (λfa cdv A outer s H E hr=>
  (Zg (Zq (i:=3) sc_l_changed.nd rfl (aY rfl) (VE.pure Ys))
  (Zg (Zq (i:=4) sc_l_changed.nd rfl (aY rfl) (VE.pure (Wr (Zb (pv 1)) (Xe (ZN Yb YZ rfl B.len (by decide +kernel) (Zc (Zb (pv 0)) Zi)) Zf))))
  (Zg (Zq (i:=5) sc_l_changed.nd rfl (aY rfl) (VE.pure (Zt (Zb (pv 3)) (Wr (Zb (pv 2)) Zf))))
  (Zg (Zq (i:=6) sc_l_changed.nd rfl (aY rfl) (VE.pure (Wr (WH (Zb (pv 2)) Zf) Zf)))
  (Zg (Yl (UJ hr.units (Zb (pv 6)) Zf) (Zj (Z5 (VE.pure (WG Yr XA (ZY (Zb (pv 0)) Yy (Z8 (Zb (pv 4)))) (ZY (Zb (pv 0)) (Z8 (Xe (Zb (pv 4)) Zf)) Yy))))) ZA)
  (Zg (Yl (UJ hr.units (Zb (pv 6)) Zf) (Zj (Z5 (VE.pure (WG Yr XA (WG Yr XA (ZY (Zb (pv 0)) Yy (Z8 (Zb (pv 4)))) (ZY (Zb (pv 0)) (Z8 (Zb (pv 4))) (Z8 (Xe (Zb (pv 4)) Zf)))) (ZY (Zb (pv 0)) (Z8 (Zb (pv 4))) Yy))))) ZA)
  (Zg (Yl (UJ hr.units (Zb (pv 6)) Zf) (Zj (Z5 (VE.pure (WG Yr XA (WG Yr XA (ZY (Zb (pv 0)) Yy (Z8 (Zb (pv 4)))) (Zb (pv 5))) (ZY (Zb (pv 0)) (Z8 (Zb (pv 4))) Yy))))) ZA)
  (Zj (Z5 (VE.pure (WG Yr XA (WG Yr XA (ZY (Zb (pv 0)) Yy (Z8 (Zb (pv 4)))) (Zb (pv 5))) (ZY (Zb (pv 0)) (Z8 (Xe (Zb (pv 4)) Zf)) Yy)))))))))))))
abbrev S3:bj:=P4 33
theorem sc_l_square:Z6 (["_law_times_here","_law_many","_law_rows","_law_one","_law_other"]:List aR) (["_law_times_here","_law_many"]:List aR) (Zp S3):=⟨rfl,rfl,rfl,by decide +kernel,rfl,by decide +kernel,by decide +kernel⟩
theorem M9(Df:Def K mg "_law_square" S3)(B:R1 mg):WD P w K mg base "_law_square" (["_law_times_here","_law_many"]:List aR) (X9 K Y1 2) 1:=
 Xf (O:=[2]) (k:=0) 5 U0 Df sc_l_square (λ_ _ _ _ _ _ us hl=>match us,hl with | [_,_],_=>rfl) rfl rfl (by decide) (λfa cdv A outer s H E hr=>
  (Zg (Rz (["_law_house"]:List aR) (["_law_many"]:List aR) [1] (i:=2) sc_l_square.nd rfl rfl rfl (Xx rfl B.range (Zc (Zb (pv 1)) Zi)) (by kernel_rfl) (λ_ _ _ _ _=>(ZG (i:=0) (show((["_law_house"]:List aR)++(["_law_many"]:List aR)).Nodup by decide +kernel) rfl (aY rfl) (.inr rfl))) (λ_ _ _ _ _=>WL) (λ_ _ _ _ _=>(L5 (Uw (Zc Zf Zi)) (Zb (pv 1)))))
  (Zg (NQ (SJ b8 rfl (Rk (pv 0)) (Ut (n:=2) rfl (Yo (ZG (i:=3) sc_l_square.nd rfl (aY rfl)) (Yo (ZG (i:=4) sc_l_square.nd rfl (aY rfl)) W5))) (Zg (Ww (US (Rx (Td hr) (Zb (pv 0)) (Y5 (Zc (Zb (pv 3)) (Zc (Zb (pv 4)) Zi)))) (Tn (Sx ix_list (pv 2) (Zb (pv 3)) (λ_ _=>rfl)) (Zb (pv 4)) W9)))
  (Zj (Ww (US (Rx (Td hr) (Zb (pv 0)) (Y5 (Zc (Zb (pv 3)) (Zc (Zb (pv 4)) Zi)))) (Tn (Sx ix_list (pv 2) (Zb (pv 4)) (λ_ _=>rfl)) (Zb (pv 3)) W9)))))))
  (Zj (Z5 (VE.pure (YE YV Vd rfl B.tuple (by decide +kernel) (Zc (Rt (["_law_row"]:List aR) ([]:List aR) [] rfl (T8 (Zb (pv 2))) (by kernel_rfl) (λ_ _ _ _ _=>(ZG (i:=0) (show((["_law_row"]:List aR)++([]:List aR)).Nodup by decide +kernel) rfl (aY rfl) (.inr rfl))) (λ_ _ _ _ _=>WL) (λ_ _ _ _ _=>(YE YV Vd rfl B.tuple (by decide +kernel) (Zc (Zb (pv 0)) Zi)))) Zi))))))))
abbrev N7:bj:=P4 39
theorem sc_l_due:Z6 (["_law_many","_law_pairs","_law_seen","_law_k","_law_one","_law_other","_law_deep","_law_met","_law_turn"]:List aR) (["_law_many","_law_pairs"]:List aR) (Zp N7):=⟨rfl,rfl,rfl,by decide +kernel,rfl,by decide +kernel,by decide +kernel⟩
theorem GY(Df:Def K mg "_law_due" N7)(B:R1 mg)(C_l_square:WD P w K mg base "_law_square" (["_law_times_here","_law_many"]:List aR) (X9 K Y1 2) 1):WD P w K mg base "_law_due" (["_law_many","_law_pairs"]:List aR) (X9 K Vz 2) 2:=
 Xf (O:=[2,7]) (k:=1) 9 JD Df sc_l_due (λ_ _ _ _ _ _ us hl=>match us,hl with | [_,_],_=>rfl) rfl rfl (by decide) (λfa cdv A outer s H E hr=>
  (Zg (Yl (VW.vt (Uh (Ud (Zb (pv 0)) Zf) (VR (SA (Zb (pv 0)) Zf)))) (Zj (Z5 (VE.pure (Y5 (Zc Zf (Zc WE Zi)))))) ZA)
  (Zg (Zq (i:=2) sc_l_due.nd rfl (aY rfl) Rp)
  (Zg (Vj b8 rfl (Xx rfl B.range (Zc (ZN Yb YZ rfl B.len (by decide +kernel) (Zc (Zb (pv 1)) Zi)) Zi)) (ZG (i:=3) sc_l_due.nd rfl (aY rfl)) (Zg (EL (T:=(.many [4,5,6])) (US (Zt (Zb (pv 1)) (Zb (pv 3))) (Ut (n:=3) rfl (Yo (ZG (i:=4) sc_l_due.nd rfl (aY rfl)) (Yo (ZG (i:=5) sc_l_due.nd rfl (aY rfl)) (Yo (ZG (i:=6) sc_l_due.nd rfl (aY rfl)) W5))))))
  (Zg (Yl (VW.vt (Uh (AY (Zb (pv 5)) (Zb (pv 4))) (Uh (D1 (Zb (pv 5)) (Zb (pv 0))) (Uh (SA (Zb (pv 6)) Zf) (VR (Br (Td hr) (Y5 (Zc (Zb (pv 4)) (Zc (Zb (pv 5)) Zi))) (Zb (pv 2)))))))) (Zj (Z5 (VE.pure (Y5 (Zc Zf (Zc (Zb (pv 3)) Zi)))))) ZA)
  (Zj (Ry (Rg (Td hr) (pv 2) (Y5 (Zc (Zb (pv 4)) (Zc (Zb (pv 5)) Zi))) (Zb (pv 6)) rfl))))))
  (Zg (Zq (i:=7) sc_l_due.nd rfl (aY rfl) (SO (Xu (VE.pure Zf) Vx)))
  (Zg (Vj b8 rfl (Xx rfl B.range (Zc (Zb (pv 0)) Zi)) (ZG (i:=8) sc_l_due.nd rfl (aY rfl)) (Zj (MR (O':=[7]) (SJ b8 rfl (Rk (pv 2)) (Ut (n:=2) rfl (Yo (ZG (i:=4) sc_l_due.nd rfl (aY rfl)) (Yo (ZG (i:=5) sc_l_due.nd rfl (aY rfl)) W5))) (Zg (Yl (VW.vt (Tv (Jg hr.units (Zb (pv 4)) (Zb (pv 7))) (Ug (Tz hr.units (Zb (pv 5)) (Zb (pv 7)))))) (Zj (UG (Vt (Tr cY de df UD (pv 7) (Yh (VE.pure (Zb (pv 5))) XI))))) ZA)
  (Zj (Yl (VW.vt (Tv (Jg hr.units (Zb (pv 5)) (Zb (pv 7))) (Ug (Tz hr.units (Zb (pv 4)) (Zb (pv 7)))))) (Zj (UG (Vt (Tr cY de df UD (pv 7) (Yh (VE.pure (Zb (pv 4))) XI))))) ZA)))) (by decide) (by intro j;simp;try omega))))
  (Zg (Yl (Ud (ZN Yb YZ rfl B.len (by decide +kernel) (Zc (Zb (pv 7)) Zi)) (Zb (pv 0))) (Zj (Z5 (VE.pure (Y5 (Zc Zf (Zc (YE YV Vd rfl B.tuple (by decide +kernel) (Zc (VM.ve (ME RF PQ rfl B.sorted (by decide +kernel) (Zc (Zb (pv 7)) Zi))) Zi)) Zi)))))) ZA)
  (Zj (Z5 (VE.pure (Y5 (Zc WE (Zc (VM.ve (Zx C_l_square (hr.mono (by decide)) rfl (Zc (Zb (pv 2)) (Zc (Zb (pv 0)) Zi)))) Zi)))))))))))))
abbrev P6:bj:=P4 34
theorem sc_l_kind:Z6 (["_law_e","_law_found"]:List aR) (["_law_e"]:List aR) (Zp P6):=⟨rfl,rfl,rfl,by decide +kernel,rfl,by decide +kernel,by decide +kernel⟩
theorem Hb(Df:Def K mg "_law_kind" P6)(B:R1 mg){Ct Cw Ca Cb:aH}(Q:VX.Q6 P w K mg base Ct Cw Ca Cb):WD P w K mg base "_law_kind" (["_law_e"]:List aR) (X9 K Xj 1) 1:=
 Xf (O:=[]) (k:=0) 2 RQ Df sc_l_kind (λ_ _ _ _ _ _ us hl=>match us,hl with | [_],_=>rfl) rfl rfl (by decide) (λfa cdv A outer s H E hr=>
  (Zg (Zq (i:=1) sc_l_kind.nd rfl (aY rfl) (SO (Xu (VE.pure (VM.ve (Vm (WQ Q.q rfl B.isinstance (Zb (pv 0)) (by decide) rfl) (V3 Q.t rfl B.isinstance (Zb (pv 0)) (by decide) rfl)))) (Xu (VE.pure (VM.ve (Vm (WQ Q.q rfl B.isinstance (Zb (pv 0)) (by decide) rfl) (V3 Q.t rfl B.isinstance (Zb (pv 0)) (by decide) rfl)))) (Xu (VE.pure (VM.ve (Vm (WQ Q.q rfl B.isinstance (Zb (pv 0)) (by decide) rfl) (V3 Q.t rfl B.isinstance (Zb (pv 0)) (by decide) rfl)))) (Xu (VE.pure (VM.ve (Vm (WQ Q.q rfl B.isinstance (Zb (pv 0)) (by decide) rfl) (V3 Q.t rfl B.isinstance (Zb (pv 0)) (by decide) rfl)))) Vx))))))
  (Zg (Zq (i:=1) sc_l_kind.nd rfl (aY rfl) (QY (Zb (pv 1)) (Uw (Zc (VM.ve (Vm (WQ Q.q rfl B.isinstance (Zb (pv 0)) (by decide) rfl) (V3 Q.t rfl B.isinstance (Zb (pv 0)) (by decide) rfl))) (Zc (VM.ve (Vm (WQ Q.q rfl B.isinstance (Zb (pv 0)) (by decide) rfl) (V3 Q.t rfl B.isinstance (Zb (pv 0)) (by decide) rfl))) (Zc (VM.ve (Vm (WQ Q.q rfl B.isinstance (Zb (pv 0)) (by decide) rfl) (V3 Q.t rfl B.isinstance (Zb (pv 0)) (by decide) rfl))) Zi))))))
  (Zg (Zq (i:=1) sc_l_kind.nd rfl (aY rfl) (QY (Zb (pv 1)) (Uw (Zc (VM.ve (Vm (WQ Q.q rfl B.isinstance (Zb (pv 0)) (by decide) rfl) (V3 Q.t rfl B.isinstance (Zb (pv 0)) (by decide) rfl))) (Zc (VM.ve (Vm (WQ Q.q rfl B.isinstance (Zb (pv 0)) (by decide) rfl) (V3 Q.t rfl B.isinstance (Zb (pv 0)) (by decide) rfl))) (Zc (VM.ve (Vm (WQ Q.q rfl B.isinstance (Zb (pv 0)) (by decide) rfl) (V3 Q.t rfl B.isinstance (Zb (pv 0)) (by decide) rfl))) (Zc (VM.ve (Vm (WQ Q.q rfl B.isinstance (Zb (pv 0)) (by decide) rfl) (V3 Q.t rfl B.isinstance (Zb (pv 0)) (by decide) rfl))) Zi)))))))
  (Zg (Yl (VW.vt (Uh (XJ (Vh (VM.ve (Vm (Dl Q.q rfl B.isinstance (Zb (pv 0)) rfl B.ValueError) (Dk Q.t rfl B.isinstance (Zb (pv 0)) rfl B.ValueError))))) (VR (O5 hr.units (IU (Zb (pv 1)) K3) Zf)))) (Zj (Z5 (VE.pure (SN Zf)))) ZA)
  (Zj (Z5 (VE.pure (IT (Zb (pv 1)) K3)))))))))
abbrev S4:bj:=P4 26
theorem La:Z6 (["word","most_figures"]:List aR) (["word","most_figures"]:List aR) (Zp S4):=⟨rfl,rfl,rfl,by decide +kernel,rfl,by decide +kernel,by decide +kernel⟩
theorem Lb(Df:Def K mg "is_plain" S4)(B:R1 mg)(Z_FIGURES:EX mg "FIGURES" "0123456789"):WD P w K mg base "is_plain" (["word","most_figures"]:List aR) (X9 K YN 2) 1:=
 Xf (O:=[]) (k:=0) 2 U4 Df La (λ_ _ _ _ _ _ us hl=>match us,hl with | [_,_],_=>rfl) rfl rfl (by decide) (λfa cdv A outer s H E hr=>
  (Zg (Yl (XJ (TB UB UB (UW _) (UW _) Zf (ZN Yb YZ rfl B.len (by decide +kernel) (Zc (Zb (pv 0)) Zi)) (Zb (pv 1)))) (Zj (Z5 (VE.pure K3))) ZA)
  (Zj (Z5 (VE.pure (LS (ZN (OX rfl) Ga rfl B.all (by decide +kernel) (Zc (Rt (["sign"]:List aR) ([]:List aR) [] rfl (Gu (Zb (pv 0))) (by kernel_rfl) (λ_ _ _ _ _=>(ZG (i:=0) (show((["sign"]:List aR)++([]:List aR)).Nodup by decide +kernel) rfl (aY rfl) (.inr rfl))) (λ_ _ _ _ _=>WL) (λ_ _ _ _ _=>(Bz (Zb (pv 0)) (EY rfl Z_FIGURES)))) Zi)) (NK (AZ (MM hr.units (Zb (pv 0)) Ys) (NK (A4 hr.units (Zt (Zb (pv 0)) Zf) Ys))))))))))
abbrev VD:bj:=P4 25
theorem SH:Z6 (["word"]:List aR) (["word"]:List aR) (Zp VD):=⟨rfl,rfl,rfl,by decide +kernel,rfl,by decide +kernel,by decide +kernel⟩
theorem OI(Df:Def K mg "read_small" VD)(B:R1 mg)(Z_MOST_FIGURES_IN_WEBS:FY mg "MOST_FIGURES_IN_WEBS" 2)(C_is_plain:WD P w K mg base "is_plain" (["word","most_figures"]:List aR) (X9 K YN 2) 1):WD P w K mg base "read_small" (["word"]:List aR) (X9 K Zn 1) 3:=
 Xf (O:=[]) (k:=2) 1 VB Df SH (λ_ _ _ _ _ _ us hl=>match us,hl with | [_],_=>rfl) rfl rfl (by decide) (λfa cdv A outer s H E hr=>
  (Zg (Yl (XJ (Vh (VM.ve (Zx C_is_plain (hr.mono (by decide)) rfl (Zc (Zb (pv 0)) (Zc (Qn rfl Z_MOST_FIGURES_IN_WEBS) Zi)))))) (Zj (YB (W:=[]))) ZA)
  (Zj (Z5 (VE.pure (YE Nb Jo rfl B.int (by decide +kernel) (Zc (Zb (pv 0)) Zi)))))))
theorem P7{Ct Cw Ca Cb:aH}(Df:Def K mg "read_small" VD)(B:R1 mg)(Q:VX.Q6 P w K mg base Ct Cw Ca Cb)(Z_MOST_FIGURES_IN_WEBS:FY mg "MOST_FIGURES_IN_WEBS" 2)(C_is_plain:WD P w K mg base "is_plain" (["word","most_figures"]:List aR) (X9 K YN 2) 1):VX.CalX P w K mg base "read_small" (["word"]:List aR) (VX.spX K Zo 1) 3:=
 VX.def_x (O:=[]) (k:=2) 1 (Y2 (Nf (YY (xB (Ze YN [Za 0,eC (.int 2)]))) (Vg "NoText" (Za 0)) QG) ZO QG) Df SH (λ_ _ _ _ _ _ us hl=>match us,hl with | [_],_=>rfl) rfl rfl (by decide) (λfa cdv A outer s H E hr=>
  (XN (Js (XJ (Vh (VM.ve (Zx C_is_plain (hr.mono (by decide)) rfl (Zc (Zb (pv 0)) (Zc (Qn rfl Z_MOST_FIGURES_IN_WEBS) Zi)))))) (RI (Sl F.excBase_ValueError Q.t.ex rfl Q.t.mgo Q.t.no rfl XC (Zb (pv 0)))) S0) (YB (W:=[])) S0))
abbrev Qu:bj:=P4 18
theorem sc_reached:Z6 (["web","found","looked","row"]:List aR) (["web"]:List aR) (Zp Qu):=⟨rfl,rfl,rfl,by decide +kernel,rfl,by decide +kernel,by decide +kernel⟩
theorem Kr(Df:Def K mg "reached" Qu)(B:R1 mg):WD P w K mg base "reached" (["web"]:List aR) (X9 K X3 1) 1:=
 Xf (O:=[1]) (k:=0) 4 VH Df sc_reached (λ_ _ _ _ _ _ us hl=>match us,hl with | [_],_=>rfl) rfl rfl (by decide) (λfa cdv A outer s H E hr=>
  (Zg (Zq (i:=1) sc_reached.nd rfl (mL rfl) (SO (Xu (VE.pure Zf) Vx)))
  (Zg (Zq (i:=2) sc_reached.nd rfl (aY rfl) (VE.pure Zf))
  (Zg (MH b8 (Ud (Zb (pv 2)) (ZN Yb YZ rfl B.len (by decide +kernel) (Zc (Zb (pv 1)) Zi))) (Zg (Zq (i:=3) sc_reached.nd rfl (aY rfl) (VE.pure (Zt (Zb (pv 0)) (Zt (Zb (pv 1)) (Zb (pv 2))))))
  (Zg (Io (Vt (Tr cY PySem.F.slot_list_extend PySem.F.type_list_extend J7 (pv 1) (Yh (EI (["house","times"]:List aR) (["found"]:List aR) [1] rfl (QX aB rfl B.enumerate (Zc (Zb (pv 3)) Zi)) (by kernel_rfl) (λ_ _ _ _ _=>(Ut (n:=2) rfl (Yo (ZG (i:=0) (show((["house","times"]:List aR)++(["found"]:List aR)).Nodup by decide +kernel) rfl (aY rfl) (.inr rfl)) (Yo (ZG (i:=1) (show((["house","times"]:List aR)++(["found"]:List aR)).Nodup by decide +kernel) rfl (aY rfl) (.inr rfl)) W5)))) (λ_ _ _ _ _=>(EH (VW.vt (Tv (SA (Zb (pv 1)) Zf) (Ug (Tz hr.units (Zb (pv 0)) (Zb (pv 2)))))))) (λ_ _ _ _ _=>(VE.pure (Zb (pv 0))))) XI))))
  (Zj (EK (CS (i:=2) sc_reached.nd rfl (aY rfl) Zf CT))))))
  (Zj (Z5 (VE.pure (YE YV Vd rfl B.tuple (by decide +kernel) (Zc (VM.ve (ME RF PQ rfl B.sorted (by decide +kernel) (Zc (Zb (pv 1)) Zi))) Zi)))))))))
abbrev Ks:bj:=P4 17
theorem Dq:Z6 (["rows","tie"]:List aR) (["rows","tie"]:List aR) (Zp Ks):=⟨rfl,rfl,rfl,by decide +kernel,rfl,by decide +kernel,by decide +kernel⟩
theorem Dr(Df:Def K mg "fits" Ks)(B:R1 mg)(Z_MOST_TIMES:FY mg "MOST_TIMES" 9):WD P w K mg base "fits" (["rows","tie"]:List aR) (X9 K Yt 2) 1:=
 Xf (O:=[]) (k:=0) 2 U5 Df Dq (λ_ _ _ _ _ _ us hl=>match us,hl with | [_,_],_=>rfl) rfl rfl (by decide) (λfa cdv A outer s H E hr=>
  (Zg (Yl (XJ (IA UB KP KP (UW _) (UW _) (UW _) Zf (Zt (Zb (pv 1)) Zf) (Zt (Zb (pv 1)) Zf) (ZN Yb YZ rfl B.len (by decide +kernel) (Zc (Zb (pv 0)) Zi)))) (Zj (Z5 (VE.pure K3))) ZA)
  (Zj (Z5 (VE.pure (LS (MP UB UB (UW _) (UW _) Zf (Zt (Zb (pv 1)) Zf) (Qn rfl Z_MOST_TIMES)) (NK (MM hr.units (Zt (Zt (Zb (pv 0)) (Zt (Zb (pv 1)) Zf)) (Zt (Zb (pv 1)) Zf)) Zf))))))))
abbrev RT:bj:=P4 16
theorem sc_web_of:Z6 (["many","ties","rows","place","tie","web","houses"]:List aR) (["many","ties"]:List aR) (Zp RT):=⟨rfl,rfl,rfl,by decide +kernel,rfl,by decide +kernel,by decide +kernel⟩
theorem Hd(Df:Def K mg "web_of" RT)(B:R1 mg)(Z_MOST_HOUSES:FY mg "MOST_HOUSES" 7)(C_fits:WD P w K mg base "fits" (["rows","tie"]:List aR) (X9 K Yt 2) 1)(C_reached:WD P w K mg base "reached" (["web"]:List aR) (X9 K X3 1) 1):WD P w K mg base "web_of" (["many","ties"]:List aR) (X9 K V4 2) 3:=
 Xf (O:=[2]) (k:=2) 7 RS Df sc_web_of (λ_ _ _ _ _ _ us hl=>match us,hl with | [_,_],_=>rfl) rfl rfl (by decide) (λfa cdv A outer s H E hr=>
  (Zg (Yl (XJ (TB UB UB (UW _) (UW _) Zf (Zb (pv 0)) (Qn rfl Z_MOST_HOUSES))) (Zj (YB (W:=[]))) ZA)
  (Zg (Rz (["house"]:List aR) (["many"]:List aR) [0] (i:=2) sc_web_of.nd rfl rfl rfl (Xx rfl B.range (Zc (Zb (pv 0)) Zi)) (by kernel_rfl) (λ_ _ _ _ _=>(ZG (i:=0) (show((["house"]:List aR)++(["many"]:List aR)).Nodup by decide +kernel) rfl (aY rfl) (.inr rfl))) (λ_ _ _ _ _=>WL) (λ_ _ _ _ _=>(L5 (Uw (Zc Zf Zi)) (Zb (pv 1)))))
  (Zg (Vj b8 rfl (QX aC rfl B.enumerate (Zc (Zb (pv 1)) Zi)) (Ut (n:=2) rfl (Yo (ZG (i:=3) sc_web_of.nd rfl (aY rfl)) (Yo (ZG (i:=4) sc_web_of.nd rfl (aY rfl)) W5))) (Zg (Yl (XJ (Vh (VM.ve (Zx C_fits (hr.mono (by decide)) rfl (Zc (Zb (pv 2)) (Zc (Zb (pv 4)) Zi)))))) (Zj (YB (W:=[]))) ZA)
  (Zg (Ww (US (Zt (Zb (pv 4)) Zf) (Tn (Sx ix_list (pv 2) (Zt (Zb (pv 4)) Zf) (λ_ _=>rfl)) (Zt (Zb (pv 4)) Zf) W9)))
  (Zj (Ww (US (Zt (Zb (pv 4)) Zf) (Tn (Sx ix_list (pv 2) (Zt (Zb (pv 4)) Zf) (λ_ _=>rfl)) (Zt (Zb (pv 4)) Zf) W9)))))))
  (Zg (Zq (i:=5) sc_web_of.nd rfl (aY rfl) (VE.pure (YE YV Vd rfl B.tuple (by decide +kernel) (Zc (Rt (["row"]:List aR) ([]:List aR) [] rfl (T8 (Zb (pv 2))) (by kernel_rfl) (λ_ _ _ _ _=>(ZG (i:=0) (show((["row"]:List aR)++([]:List aR)).Nodup by decide +kernel) rfl (aY rfl) (.inr rfl))) (λ_ _ _ _ _=>WL) (λ_ _ _ _ _=>(YE YV Vd rfl B.tuple (by decide +kernel) (Zc (Zb (pv 0)) Zi)))) Zi))))
  (Zg (Zq (i:=6) sc_web_of.nd rfl (aY rfl) (Zx C_reached (hr.mono (by decide)) rfl (Zc (Zb (pv 5)) Zi)))
  (Zg (Yl (Ud (ZN Yb YZ rfl B.len (by decide +kernel) (Zc (Zb (pv 6)) Zi)) (Zb (pv 0))) (Zj (YB (W:=[]))) ZA)
  (Zj (Z5 (VE.pure (Zb (pv 5))))))))))))
theorem Kt{Ct Cw Ca Cb:aH}(Df:Def K mg "web_of" RT)(B:R1 mg)(Q:VX.Q6 P w K mg base Ct Cw Ca Cb)(Z_MOST_HOUSES:FY mg "MOST_HOUSES" 7)(C_fits:WD P w K mg base "fits" (["rows","tie"]:List aR) (X9 K Yt 2) 1)(C_reached:WD P w K mg base "reached" (["web"]:List aR) (X9 K X3 1) 1):VX.CalX P w K mg base "web_of" (["many","ties"]:List aR) (VX.spY K Wh 2) 3:=
 VX.def_yr (O:=[2]) (k:=2) 7 (Xo (NY (YY (xB (Tf Sz Sz (eC (.int 1)) (Za 0) (eC (.int 7))))) (U2 "NoWeb" (eC .non)) S1) (YF (YY (xB (Tf Sz Sz (eC (.int 1)) (Za 0) (eC (.int 7))))) ZO Zs)
  (Xo S1 (Zl 2 (Yg 1 [0] (YG [Za 0]) (.one 0) Yi (Zh SR (YO [eC (.int 0)]) (Za 1))))
  (Xo (Kh [2] (WV aC [Za 1]) (.many [3,4]) (Xo (NY (YY (xB (Ze Yt [Za 2,Za 4]))) (U2 "NoWeb" (Za 3)) S1) ZO S1) (Zk (YF (YY (xB (Ze Yt [Za 2,Za 4]))) ZO Zs)
  (Zk (Ym 2 (Zh ZK (Za 4) (eC (.int 0))) (Zh ZK (Za 4) (eC (.int 1))) (Zh ZK (Za 4) (eC (.int 2))))
  (Ym 2 (Zh ZK (Za 4) (eC (.int 1))) (Zh ZK (Za 4) (eC (.int 0))) (Zh ZK (Za 4) (eC (.int 2))))))) (Wt [2] (WV aC [Za 1]) (.many [3,4]) (Zk (YF (YY (xB (Ze Yt [Za 2,Za 4]))) ZO Zs)
  (Zk (Ym 2 (Zh ZK (Za 4) (eC (.int 0))) (Zh ZK (Za 4) (eC (.int 1))) (Zh ZK (Za 4) (eC (.int 2))))
  (Ym 2 (Zh ZK (Za 4) (eC (.int 1))) (Zh ZK (Za 4) (eC (.int 0))) (Zh ZK (Za 4) (eC (.int 2)))))))
  (Xo S1 (Zl 5 (eP (Ze Y6 [Yg 1 [] (VU (Za 2)) (.one 0) Yi (Ze Y6 [Za 0])])))
  (Xo S1 (Zl 6 (Ze X3 [Za 5]))
  (Xo (NY (xB (Zh Wb (Ze ZR [Za 6]) (Za 0))) (U2 "Apart" (Za 6)) S1) ZO S1)))))) Df sc_web_of (λ_ _ _ _ _ _ us hl=>match us,hl with | [_,_],_=>rfl) rfl rfl (by decide) (λfa cdv A outer s H E hr=>
  (XQ (GI (XJ (TB UB UB (UW _) (UW _) Zf (Zb (pv 0)) (Qn rfl Z_MOST_HOUSES))) (Q8 (PX F.excBase_ValueError Q.q.w.cf (hr.mono (by decide)) rfl Q.q.w.mgo Q.q.w.no rfl NZ WE)) PZ) (Yl (XJ (TB UB UB (UW _) (UW _) Zf (Zb (pv 0)) (Qn rfl Z_MOST_HOUSES))) (Zj (YB (W:=[]))) ZA)
  (XQ PY (Rz (["house"]:List aR) (["many"]:List aR) [0] (i:=2) sc_web_of.nd rfl rfl rfl (Xx rfl B.range (Zc (Zb (pv 0)) Zi)) (by kernel_rfl) (λ_ _ _ _ _=>(ZG (i:=0) (show((["house"]:List aR)++(["many"]:List aR)).Nodup by decide +kernel) rfl (aY rfl) (.inr rfl))) (λ_ _ _ _ _=>WL) (λ_ _ _ _ _=>(L5 (Uw (Zc Zf Zi)) (Zb (pv 1)))))
  (XQ (BG (M4 XC) rfl (QX aC rfl B.enumerate (Zc (Zb (pv 1)) Zi)) (Ut (n:=2) rfl (Yo (ZG (i:=3) sc_web_of.nd rfl (aY rfl)) (Yo (ZG (i:=4) sc_web_of.nd rfl (aY rfl)) W5))) (Zg (Yl (XJ (Vh (VM.ve (Zx C_fits (hr.mono (by decide)) rfl (Zc (Zb (pv 2)) (Zc (Zb (pv 4)) Zi)))))) (Zj (YB (W:=[]))) ZA)
  (Zg (Ww (US (Zt (Zb (pv 4)) Zf) (Tn (Sx ix_list (pv 2) (Zt (Zb (pv 4)) Zf) (λ_ _=>rfl)) (Zt (Zb (pv 4)) Zf) W9)))
  (Zj (Ww (US (Zt (Zb (pv 4)) Zf) (Tn (Sx ix_list (pv 2) (Zt (Zb (pv 4)) Zf) (λ_ _=>rfl)) (Zt (Zb (pv 4)) Zf) W9)))))) (XQ (GI (XJ (Vh (VM.ve (Zx C_fits (hr.mono (by decide)) rfl (Zc (Zb (pv 2)) (Zc (Zb (pv 4)) Zi)))))) (Q8 (PX F.excBase_ValueError Q.q.w.cf (hr.mono (by decide)) rfl Q.q.w.mgo Q.q.w.no rfl NZ (Zb (pv 3)))) PZ) (YB (W:=[])) PZ)) (Vj (M4 XC) rfl (QX aC rfl B.enumerate (Zc (Zb (pv 1)) Zi)) (Ut (n:=2) rfl (Yo (ZG (i:=3) sc_web_of.nd rfl (aY rfl)) (Yo (ZG (i:=4) sc_web_of.nd rfl (aY rfl)) W5))) (Zg (Yl (XJ (Vh (VM.ve (Zx C_fits (hr.mono (by decide)) rfl (Zc (Zb (pv 2)) (Zc (Zb (pv 4)) Zi)))))) (Zj (YB (W:=[]))) ZA)
  (Zg (Ww (US (Zt (Zb (pv 4)) Zf) (Tn (Sx ix_list (pv 2) (Zt (Zb (pv 4)) Zf) (λ_ _=>rfl)) (Zt (Zb (pv 4)) Zf) W9)))
  (Zj (Ww (US (Zt (Zb (pv 4)) Zf) (Tn (Sx ix_list (pv 2) (Zt (Zb (pv 4)) Zf) (λ_ _=>rfl)) (Zt (Zb (pv 4)) Zf) W9)))))))
  (XQ PY (Zq (i:=5) sc_web_of.nd rfl (aY rfl) (VE.pure (YE YV Vd rfl B.tuple (by decide +kernel) (Zc (Rt (["row"]:List aR) ([]:List aR) [] rfl (T8 (Zb (pv 2))) (by kernel_rfl) (λ_ _ _ _ _=>(ZG (i:=0) (show((["row"]:List aR)++([]:List aR)).Nodup by decide +kernel) rfl (aY rfl) (.inr rfl))) (λ_ _ _ _ _=>WL) (λ_ _ _ _ _=>(YE YV Vd rfl B.tuple (by decide +kernel) (Zc (Zb (pv 0)) Zi)))) Zi))))
  (XQ PY (Zq (i:=6) sc_web_of.nd rfl (aY rfl) (Zx C_reached (hr.mono (by decide)) rfl (Zc (Zb (pv 5)) Zi)))
  (XQ (GI (Ud (ZN Yb YZ rfl B.len (by decide +kernel) (Zc (Zb (pv 6)) Zi)) (Zb (pv 0))) (Q8 (PX F.excBase_ValueError Q.q.a.cf (hr.mono (by decide)) rfl Q.q.a.mgo Q.q.a.no rfl NZ (Zb (pv 6)))) PZ) (YB (W:=[])) PZ)))))))
abbrev VF:bj:=P4 24
theorem sc_read_times:Z6 (["word","times"]:List aR) (["word"]:List aR) (Zp VF):=⟨rfl,rfl,rfl,by decide +kernel,rfl,by decide +kernel,by decide +kernel⟩
theorem OJ(Df:Def K mg "read_times" VF)(B:R1 mg)(C_read_small:WD P w K mg base "read_small" (["word"]:List aR) (X9 K Zn 1) 3):WD P w K mg base "read_times" (["word"]:List aR) (X9 K YI 1) 4:=
 Xf (O:=[]) (k:=3) 2 VC Df sc_read_times (λ_ _ _ _ _ _ us hl=>match us,hl with | [_],_=>rfl) rfl rfl (by decide) (λfa cdv A outer s H E hr=>
  (Zg (Zq (i:=1) sc_read_times.nd rfl (aY rfl) (Zx C_read_small (hr.mono (by decide)) rfl (Zc (Zb (pv 0)) Zi)))
  (Zg (Yl (Ud (Zb (pv 1)) Zf) (Zj (YB (W:=[]))) ZA)
  (Zj (Z5 (VE.pure (Zb (pv 1))))))))
theorem P8{Ct Cw Ca Cb:aH}(Df:Def K mg "read_times" VF)(B:R1 mg)(Q:VX.Q6 P w K mg base Ct Cw Ca Cb)(C_read_small:WD P w K mg base "read_small" (["word"]:List aR) (X9 K Zn 1) 3)(X_read_small:VX.CalX P w K mg base "read_small" (["word"]:List aR) (VX.spX K Zo 1) 3):VX.CalX P w K mg base "read_times" (["word"]:List aR) (VX.spX K ZV 1) 4:=
 VX.def_x (O:=[]) (k:=3) 2 (Y2 (Yn Zo [Za 0]) (Zl 1 (Ze Zn [Za 0]))
  (Y2 (Nf (xB (Zh Wb (Za 1) (eC (.int 2)))) (Vg "NoText" (Za 0)) QG) ZO QG)) Df sc_read_times (λ_ _ _ _ _ _ us hl=>match us,hl with | [_],_=>rfl) rfl rfl (by decide) (λfa cdv A outer s H E hr=>
  (XN (Kn (i:=1) sc_read_times.nd rfl (aY rfl) (RN X_read_small (hr.mono (by decide)) rfl (Zc (Zb (pv 0)) Zi) XC)) (Zq (i:=1) sc_read_times.nd rfl (aY rfl) (Zx C_read_small (hr.mono (by decide)) rfl (Zc (Zb (pv 0)) Zi)))
  (XN (Js (Ud (Zb (pv 1)) Zf) (RI (Sl F.excBase_ValueError Q.t.ex rfl Q.t.mgo Q.t.no rfl XC (Zb (pv 0)))) S0) (YB (W:=[])) S0)))
abbrev U8:bj:=P4 23
theorem sc_read_tie:Z6 (["word","halves","ends","times"]:List aR) (["word"]:List aR) (Zp U8):=⟨rfl,rfl,rfl,by decide +kernel,rfl,by decide +kernel,by decide +kernel⟩
theorem Lc(Df:Def K mg "read_tie" U8)(B:R1 mg)(C_read_times:WD P w K mg base "read_times" (["word"]:List aR) (X9 K YI 1) 4)(C_read_small:WD P w K mg base "read_small" (["word"]:List aR) (X9 K Zn 1) 3):WD P w K mg base "read_tie" (["word"]:List aR) (X9 K ZD 1) 5:=
 Xf (O:=[]) (k:=4) 4 U6 Df sc_read_tie (λ_ _ _ _ _ _ us hl=>match us,hl with | [_],_=>rfl) rfl rfl (by decide) (λfa cdv A outer s H E hr=>
  (Zg (Zq (i:=1) sc_read_tie.nd rfl (aY rfl) (VZ (Zb (pv 0)) Ys))
  (Zg (Zq (i:=2) sc_read_tie.nd rfl (aY rfl) (VZ (Zt (Zb (pv 1)) Zf) Ys))
  (Zg (Yl (VW.vt (Uh (SA (ZN Yb YZ rfl B.len (by decide +kernel) (Zc (Zb (pv 1)) Zi)) Zf) (VR (O5 hr.units (ZN Yb YZ rfl B.len (by decide +kernel) (Zc (Zb (pv 2)) Zi)) Zf)))) (Zj (YB (W:=[]))) ZA)
  (Zg (Zq (i:=3) sc_read_tie.nd rfl (aY rfl) (VE.pure (D3 (UJ hr.units (ZN Yb YZ rfl B.len (by decide +kernel) (Zc (Zb (pv 1)) Zi)) Zf) (VM.ve (Zx C_read_times (hr.mono (by decide)) rfl (Zc (Zt (Zb (pv 1)) Zf) Zi))) Zf)))
  (Zj (Z5 (VE.pure (Y5 (Zc (VM.ve (Zx C_read_small (hr.mono (by decide)) rfl (Zc (Zt (Zb (pv 2)) Zf) Zi))) (Zc (VM.ve (Zx C_read_small (hr.mono (by decide)) rfl (Zc (Zt (Zb (pv 2)) Zf) Zi))) (Zc (Zb (pv 3)) Zi))))))))))))
theorem N8{Ct Cw Ca Cb:aH}(Df:Def K mg "read_tie" U8)(B:R1 mg)(Q:VX.Q6 P w K mg base Ct Cw Ca Cb)(C_read_times:WD P w K mg base "read_times" (["word"]:List aR) (X9 K YI 1) 4)(C_read_small:WD P w K mg base "read_small" (["word"]:List aR) (X9 K Zn 1) 3)(X_read_times:VX.CalX P w K mg base "read_times" (["word"]:List aR) (VX.spX K ZV 1) 4)(X_read_small:VX.CalX P w K mg base "read_small" (["word"]:List aR) (VX.spX K Zo 1) 3):VX.CalX P w K mg base "read_tie" (["word"]:List aR) (VX.spX K ZP 1) 5:=
 VX.def_x (O:=[]) (k:=4) 4 (Y2 QG (Zl 1 (Zh Xb (Za 0) (eC (.str "*"))))
  (Y2 QG (Zl 2 (Zh Xb (Zh ZK (Za 1) (eC (.int 0))) (eC (.str "-"))))
  (Y2 (Nf (Ue (xB (Zh T7 (Ze ZR [Za 1]) (eC (.int 2)))) (xB (Zh (YJ aC) (Ze ZR [Za 2]) (eC (.int 2))))) (Vg "NoText" (Za 0)) QG) (YF (Ue (xB (Zh T7 (Ze ZR [Za 1]) (eC (.int 2)))) (xB (Zh (YJ aC) (Ze ZR [Za 2]) (eC (.int 2))))) ZO Zs)
  (Y2 (OE (xB (Zh (YJ aB) (Ze ZR [Za 1]) (eC (.int 2)))) (Yn ZV [Zh ZK (Za 1) (eC (.int 1))]) (λ_=>none)) (Zl 3 (eP (D2 (xB (Zh (YJ aB) (Ze ZR [Za 1]) (eC (.int 2)))) (Ze YI [Zh ZK (Za 1) (eC (.int 1))]) (eC (.int 1)))))
  (P2 (Yn Zo [Zh ZK (Za 2) (eC (.int 0))]) (RM (Ze Zn [Zh ZK (Za 2) (eC (.int 0))]) (Yn Zo [Zh ZK (Za 2) (eC (.int 1))]))))))) Df sc_read_tie (λ_ _ _ _ _ _ us hl=>match us,hl with | [_],_=>rfl) rfl rfl (by decide) (λfa cdv A outer s H E hr=>
  (XN GD (Zq (i:=1) sc_read_tie.nd rfl (aY rfl) (VZ (Zb (pv 0)) Ys))
  (XN GD (Zq (i:=2) sc_read_tie.nd rfl (aY rfl) (VZ (Zt (Zb (pv 1)) Zf) Ys))
  (XN (Js (VW.vt (Uh (SA (ZN Yb YZ rfl B.len (by decide +kernel) (Zc (Zb (pv 1)) Zi)) Zf) (VR (O5 hr.units (ZN Yb YZ rfl B.len (by decide +kernel) (Zc (Zb (pv 2)) Zi)) Zf)))) (RI (Sl F.excBase_ValueError Q.t.ex rfl Q.t.mgo Q.t.no rfl XC (Zb (pv 0)))) S0) (Yl (VW.vt (Uh (SA (ZN Yb YZ rfl B.len (by decide +kernel) (Zc (Zb (pv 1)) Zi)) Zf) (VR (O5 hr.units (ZN Yb YZ rfl B.len (by decide +kernel) (Zc (Zb (pv 2)) Zi)) Zf)))) (Zj (YB (W:=[]))) ZA)
  (XN (Kn (i:=3) sc_read_tie.nd rfl (aY rfl) (Zah (UJ hr.units (ZN Yb YZ rfl B.len (by decide +kernel) (Zc (Zb (pv 1)) Zi)) Zf) (RN X_read_times (hr.mono (by decide)) rfl (Zc (Zt (Zb (pv 1)) Zf) Zi) XC) Zag)) (Zq (i:=3) sc_read_tie.nd rfl (aY rfl) (VE.pure (D3 (UJ hr.units (ZN Yb YZ rfl B.len (by decide +kernel) (Zc (Zb (pv 1)) Zi)) Zf) (VM.ve (Zx C_read_times (hr.mono (by decide)) rfl (Zc (Zt (Zb (pv 1)) Zf) Zi))) Zf)))
  (RI (BL (Zaf (Dm (RN X_read_small (hr.mono (by decide)) rfl (Zc (Zt (Zb (pv 2)) Zf) Zi) XC) (Zc (VM.ve (Zx C_read_small (hr.mono (by decide)) rfl (Zc (Zt (Zb (pv 2)) Zf) Zi))) (Zc (Zb (pv 3)) Zi))) (Dn (VM.ve (Zx C_read_small (hr.mono (by decide)) rfl (Zc (Zt (Zb (pv 2)) Zf) Zi))) (RN X_read_small (hr.mono (by decide)) rfl (Zc (Zt (Zb (pv 2)) Zf) Zi) XC) (Zc (Zb (pv 3)) Zi))))))))))
abbrev V6:bj:=P4 22
theorem sc_read_web:Z6 (["text","words","many","ties"]:List aR) (["text"]:List aR) (Zp V6):=⟨rfl,rfl,rfl,by decide +kernel,rfl,by decide +kernel,by decide +kernel⟩
theorem Ld(Df:Def K mg "read_web" V6)(B:R1 mg)(C_read_small:WD P w K mg base "read_small" (["word"]:List aR) (X9 K Zn 1) 3)(C_read_tie:WD P w K mg base "read_tie" (["word"]:List aR) (X9 K ZD 1) 5)(C_web_of:WD P w K mg base "web_of" (["many","ties"]:List aR) (X9 K V4 2) 3):WD P w K mg base "read_web" (["text"]:List aR) (X9 K W3 1) 6:=
 Xf (O:=[]) (k:=5) 4 U7 Df sc_read_web (λ_ _ _ _ _ _ us hl=>match us,hl with | [_],_=>rfl) rfl rfl (by decide) (λfa cdv A outer s H E hr=>
  (Zg (Zq (i:=1) sc_read_web.nd rfl (aY rfl) (VZ (Zb (pv 0)) Ys))
  (Zg (Yl (XJ (Vh (QE F.slot_str_endswith F.type_str_endswith Q1 Q3 Sh (Zt (Zb (pv 1)) Zf) Ys))) (Zj (YB (W:=[]))) ZA)
  (Zg (Zq (i:=2) sc_read_web.nd rfl (aY rfl) (Zx C_read_small (hr.mono (by decide)) rfl (Zc (ZY (Zt (Zb (pv 1)) Zf) Yy (Z8 (SN Zf))) Zi)))
  (Zg (Rz (["word"]:List aR) ([]:List aR) [] (i:=3) sc_read_web.nd rfl rfl rfl (T8 (T9 (Zb (pv 1)) (Z8 Zf) Yy)) (by kernel_rfl) (λ_ _ _ _ _=>(ZG (i:=0) (show((["word"]:List aR)++([]:List aR)).Nodup by decide +kernel) rfl (aY rfl) (.inr rfl))) (λ_ _ _ _ _=>WL) (λ_ _ _ _ _=>(Zx C_read_tie (hr.mono (by decide)) rfl (Zc (Zb (pv 0)) Zi))))
  (Zj (Z5 (Zx C_web_of (hr.mono (by decide)) rfl (Zc (Zb (pv 2)) (Zc (Zb (pv 3)) Zi))))))))))
theorem N9{Ct Cw Ca Cb:aH}(Df:Def K mg "read_web" V6)(B:R1 mg)(Q:VX.Q6 P w K mg base Ct Cw Ca Cb)(C_read_small:WD P w K mg base "read_small" (["word"]:List aR) (X9 K Zn 1) 3)(C_read_tie:WD P w K mg base "read_tie" (["word"]:List aR) (X9 K ZD 1) 5)(X_read_small:VX.CalX P w K mg base "read_small" (["word"]:List aR) (VX.spX K Zo 1) 3)(X_read_tie:VX.CalX P w K mg base "read_tie" (["word"]:List aR) (VX.spX K ZP 1) 5):VX.CalX P w K mg base "read_web" (["text"]:List aR) (VX.spX K Yu 1) 6:=
 VX.def_x (O:=[]) (k:=5) 4 (Y2 QG (Zl 1 (Zh Xb (Za 0) (eC (.str " "))))
  (Y2 (Nf (YY (xB (Zh Vr (Zh ZK (Za 1) (eC (.int 0))) (eC (.str ":"))))) (Vg "NoText" (Za 0)) QG) (YF (YY (xB (Zh Vr (Zh ZK (Za 1) (eC (.int 0))) (eC (.str ":"))))) ZO Zs)
  (Y2 (Yn Zo [Xm ZU (Zh ZK (Za 1) (eC (.int 0))) XZ (Y4 (Pq V8 (eC (.int 1))))]) (Zl 2 (Ze Zn [Xm ZU (Zh ZK (Za 1) (eC (.int 0))) XZ (Y4 (Pq V8 (eC (.int 1))))]))
  (Y2 (RL 1 [] (VU (Xm Sv (Za 1) (Y4 (eC (.int 1))) XZ)) (.one 0) Yi (Ze ZD [Za 0]) (Yn ZP [Za 0])) ZO QG)))) Df sc_read_web (λ_ _ _ _ _ _ us hl=>match us,hl with | [_],_=>rfl) rfl rfl (by decide) (λfa cdv A outer s H E hr=>
  (XN GD (Zq (i:=1) sc_read_web.nd rfl (aY rfl) (VZ (Zb (pv 0)) Ys))
  (XN (Js (XJ (Vh (QE F.slot_str_endswith F.type_str_endswith Q1 Q3 Sh (Zt (Zb (pv 1)) Zf) Ys))) (RI (Sl F.excBase_ValueError Q.t.ex rfl Q.t.mgo Q.t.no rfl XC (Zb (pv 0)))) S0) (Yl (XJ (Vh (QE F.slot_str_endswith F.type_str_endswith Q1 Q3 Sh (Zt (Zb (pv 1)) Zf) Ys))) (Zj (YB (W:=[]))) ZA)
  (XN (Kn (i:=2) sc_read_web.nd rfl (aY rfl) (RN X_read_small (hr.mono (by decide)) rfl (Zc (ZY (Zt (Zb (pv 1)) Zf) Yy (Z8 (SN Zf))) Zi) XC)) (Zq (i:=2) sc_read_web.nd rfl (aY rfl) (Zx C_read_small (hr.mono (by decide)) rfl (Zc (ZY (Zt (Zb (pv 1)) Zf) Yy (Z8 (SN Zf))) Zi)))
  (XN (Dp (["word"]:List aR) ([]:List aR) [] (i:=3) sc_read_web.nd rfl rfl XC rfl (T8 (T9 (Zb (pv 1)) (Z8 Zf) Yy)) (by kernel_rfl) (λ_ _ _ _ _=>(ZG (i:=0) (show((["word"]:List aR)++([]:List aR)).Nodup by decide +kernel) rfl (aY rfl) (.inr rfl))) (λ_ _ _ _ _=>WL) (λ_ _ _ _ _=>(VM.ve (Zx C_read_tie (hr.mono (by decide)) rfl (Zc (Zb (pv 0)) Zi)))) (GQ X_read_tie (hr.mono (by decide)) (λ_ _ _ _ _=>rfl) (λ_ _ _ _ _=>(Zc (Zb (pv 0)) Zi)))) (YB (W:=[])) S0)))))
theorem Ma{Ct Cw Ca Cb:aH}(Df:Def K mg "read_web" V6)(B:R1 mg)(Q:VX.Q6 P w K mg base Ct Cw Ca Cb)(C_read_small:WD P w K mg base "read_small" (["word"]:List aR) (X9 K Zn 1) 3)(C_read_tie:WD P w K mg base "read_tie" (["word"]:List aR) (X9 K ZD 1) 5)(XY_web_of:VX.CalX P w K mg base "web_of" (["many","ties"]:List aR) (VX.spY K Wh 2) 3):VX.CalX P w K mg base "read_web" (["text"]:List aR) (VX.spY K Xc 1) 6:=
 VX.def_y (O:=[]) (k:=5) 4 (Xo S1 (Zl 1 (Zh Xb (Za 0) (eC (.str " "))))
  (Xo S1 (YF (YY (xB (Zh Vr (Zh ZK (Za 1) (eC (.int 0))) (eC (.str ":"))))) ZO Zs)
  (Xo S1 (Zl 2 (Ze Zn [Xm ZU (Zh ZK (Za 1) (eC (.int 0))) XZ (Y4 (Pq V8 (eC (.int 1))))]))
  (Xo S1 (Zl 3 (Yg 1 [] (VU (Xm Sv (Za 1) (Y4 (eC (.int 1))) XZ)) (.one 0) Yi (Ze ZD [Za 0])))
  (JC Wh [Za 2,Za 3]))))) Df sc_read_web (λ_ _ _ _ _ _ us hl=>match us,hl with | [_],_=>rfl) rfl rfl (by decide) (λfa cdv A outer s H E hr=>
  (XQ PY (Zq (i:=1) sc_read_web.nd rfl (aY rfl) (VZ (Zb (pv 0)) Ys))
  (XQ PY (Yl (XJ (Vh (QE F.slot_str_endswith F.type_str_endswith Q1 Q3 Sh (Zt (Zb (pv 1)) Zf) Ys))) (Zj (YB (W:=[]))) ZA)
  (XQ PY (Zq (i:=2) sc_read_web.nd rfl (aY rfl) (Zx C_read_small (hr.mono (by decide)) rfl (Zc (ZY (Zt (Zb (pv 1)) Zf) Yy (Z8 (SN Zf))) Zi)))
  (XQ PY (Rz (["word"]:List aR) ([]:List aR) [] (i:=3) sc_read_web.nd rfl rfl rfl (T8 (T9 (Zb (pv 1)) (Z8 Zf) Yy)) (by kernel_rfl) (λ_ _ _ _ _=>(ZG (i:=0) (show((["word"]:List aR)++([]:List aR)).Nodup by decide +kernel) rfl (aY rfl) (.inr rfl))) (λ_ _ _ _ _=>WL) (λ_ _ _ _ _=>(Zx C_read_tie (hr.mono (by decide)) rfl (Zc (Zb (pv 0)) Zi))))
  (Q8 (BM XY_web_of (hr.mono (by decide)) rfl (Zc (Zb (pv 2)) (Zc (Zb (pv 3)) Zi)) XC)))))))
abbrev P9:bj:=P4 40
theorem sc_l_told:Z6 (["_law_text","_law_caught","_law_found","_law_e","_law_kind_here"]:List aR) (["_law_text"]:List aR) (Zp P9):=⟨rfl,rfl,rfl,by decide +kernel,rfl,by decide +kernel,by decide +kernel⟩
theorem He(Df:Def K mg "_law_told" P9)(B:R1 mg)(C_read_web:WD P w K mg base "read_web" (["text"]:List aR) (X9 K W3 1) 6)(C_l_kind:WD P w K mg base "_law_kind" (["_law_e"]:List aR) (X9 K Xj 1) 1){Ct Cw Ca Cb:aH}(Q:VX.Q6 P w K mg base Ct Cw Ca Cb)(X_read_web:VX.CalX P w K mg base "read_web" (["text"]:List aR) (VX.spX K Yu 1) 6)(XY_read_web:VX.CalX P w K mg base "read_web" (["text"]:List aR) (VX.spY K Xc 1) 6):WD P w K mg base "_law_told" (["_law_text"]:List aR) (X9 K YR 1) 7:=
 Xf (O:=[]) (k:=6) 5 Wi Df sc_l_told (λ_ _ _ _ _ _ us hl=>match us,hl with | [_],_=>rfl) rfl rfl (by decide) (λfa cdv A outer s H E hr=>
  (Zg (Zq (i:=1) sc_l_told.nd rfl (aY rfl) (VE.pure WE))
  (Zg (Zq (i:=2) sc_l_told.nd rfl (aY rfl) (VE.pure WE))
  (Zg (Ck (GR Q.t X_read_web OG (hr.mono (by decide)) rfl (Zc (Zb (pv 0)) Zi) rfl rfl rfl sc_l_told.nd rfl rfl rfl (λ_=>(Zj (Zq (i:=1) sc_l_told.nd rfl (aY rfl) (VE.pure (Zb (pv 3)))))) (by decide)) (Ck (IW Q.q XY_read_web OH (hr.mono (by decide)) rfl (Zc (Zb (pv 0)) Zi) rfl rfl rfl sc_l_told.nd rfl rfl rfl (λ_=>(Zj (Zq (i:=1) sc_l_told.nd rfl (aY rfl) (VE.pure (Zb (pv 3)))))) (by decide)) (Dd (Zj (Zq (i:=2) sc_l_told.nd rfl (aY rfl) (Zx C_read_web (hr.mono (by decide)) rfl (Zc (Zb (pv 0)) Zi)))))))
  (Zg (Yl (HY (Zb (pv 1))) (Zj (Z5 (VE.pure (Y5 (Zc WE (Zc (Zb (pv 2)) Zi)))))) ZA)
  (Zg (Zq (i:=4) sc_l_told.nd rfl (aY rfl) (Zx C_l_kind (hr.mono (by decide)) rfl (Zc (Zb (pv 1)) Zi)))
  (Zg (Yl (UJ hr.units (Zb (pv 4)) Zf) (Zj (Z5 (HZ (Xu (VE.pure Zf) (Xu (VE.pure (JA Q.q.w.fl (Zb (pv 1)))) Vx))))) ZA)
  (Zg (Yl (UJ hr.units (Zb (pv 4)) Zf) (Zj (Z5 (HZ (Xu (VE.pure Zf) (Xu (VE.pure (JA Q.q.a.fl (Zb (pv 1)))) Vx))))) ZA)
  (Zj (Z5 (VE.pure (Y5 (Zc (Zb (pv 4)) (Zc WE Zi))))))))))))))
end
end PW
namespace VL
open PySem L2
structure WM(X:Cx)(e:aw)(f:XE):Prop where
 h:VM X e f
structure WMA(X:Cx)(es:List aw)(fs:List XE):Prop where
 h:B8 X es fs
structure WA(X:Cx)(es:List aw)(fs:List XE):Prop where
 h:VA X es fs
structure WS(X:Cx)(O W:List Nat)(st:bj)(f:XS):Prop where
 h:VS X O W st f
structure WSs(X:Cx)(O W:List Nat)(st:List bj)(f:XS):Prop where
 h:NN X O W st f
section
variable {X:Cx} {c:aR} {j:Nat} {p pos:dm} {a:aw} {fa:XE} {es:List aw} {fs:List XE} {O W1 W2:List Nat} {st:bj} {m6:List bj} {f g:XS}
theorem Ds:WMA X [] []:=⟨Vx⟩
theorem X4(hr:WMA X es fs):WMA X (.Constant (.str c) j p::es) (eP (eC (.str c))::fs):=⟨Xu (VE.pure Ys) hr.h⟩
theorem BN(h:WMA X es fs)(hl:fs.length<=1000:=by decide):WM X (.List es pos) (YO fs):=⟨SO h.h hl⟩
theorem BO:WA X [] []:=⟨Zi⟩
theorem TZ(hr:WA X es fs):WA X (.Constant (.str c) j p::es) (eC (.str c)::fs):=⟨Zc Ys hr.h⟩
theorem Dt{p2:dm}(ha:VE X a fa)(h:WA X es fs)(hl:fs.length<=1000:=by decide):WM X (.BinOp a .Add (.List es p2) pos) (Zh TF fa (YO fs)):=⟨QY ha (Uw h.h hl)⟩
theorem GZ{i:Nat}{x:aR}{e:aw}{fe:XE}{pos':dm}(hN:X.N.Nodup)(hi:X.N[i]?=aA x)(hx:DN X.env.scope x)(he:WM X e fe)(hs:dX e (aA (.Name x pos')) pos.line X.env=pure aB:=by rfl)(hf:X.fn x=aC\/X.env.scope.names.lookup x=aA .local:=by first | exact .inl rfl | exact .inr rfl | assumption):WS X O [i] (.Assign [.Name x pos'] e pos) (Zl i fe):=⟨Zq hN hi hx he.h hs hf⟩
theorem G0(h1:WS X O W1 st f)(h2:NN X O W2 m6 g):WSs X O (W1++W2) (st::m6) (Zk f g):=⟨Zg h1.h h2⟩
theorem Hf(h1:WS X O W1 st f)(h2:WSs X O W2 m6 g):WSs X O (W1++W2) (st::m6) (Zk f g):=⟨Zg h1.h h2.h⟩
theorem BP{c:aw}{a b:List bj}{fc:XT}(hc:VT X c fc)(ha:WSs X O W1 a f)(hb:NN X O W2 b g):VS X O (W1++W2) (.If c a b pos) (YF fc f g):=Yl hc ha.h hb
end
end VL
namespace PW
open PySem L2 VL VX
section
variable {P:bC} {w:b6} {K:aG} {mg:aR->Option aE} {base:bV}
abbrev G1:bj:=P4 41
theorem sc_law:Z6 (["_law_script","_law_many","_law_times_here","_law_text","_law_one","_law_other","_law_good","_law_k","_law_some","_law_reading_here","_law_due_here"]:List aR) (["_law_script"]:List aR) (Zp G1):=⟨rfl,rfl,rfl,by decide +kernel,rfl,by decide +kernel,by decide +kernel⟩
theorem BQ{ff:aH}{fd:dy}(Fn:Fun K "law" "law" G1 ff fd)(B:R1 mg)(C_l_cell:WD P w K mg base "_law_cell" (["_law_script","_law_k"]:List aR) (X9 K Zw 2) 1)(C_l_times:WD P w K mg base "_law_times" (["_law_script","_law_at","_law_many"]:List aR) (X9 K WZ 3) 2)(C_l_changed:WD P w K mg base "_law_changed" (["_law_text","_law_cell_here","_law_other"]:List aR) (X9 K Wz 3) 1)(C_l_reading:WD P w K mg base "_law_reading" (["_law_text"]:List aR) (X9 K Wy 1) 3)(C_l_due:WD P w K mg base "_law_due" (["_law_many","_law_pairs"]:List aR) (X9 K Vz 2) 2)(C_l_told:WD P w K mg base "_law_told" (["_law_text"]:List aR) (X9 K YR 1) 7)(C_l_square:WD P w K mg base "_law_square" (["_law_times_here","_law_many"]:List aR) (X9 K Y1 2) 1):Tq P w K mg base Mz 8 ff fd (["_law_script"]:List aR) (X9 K D_law 1):=
 Bs (O:=[]) (k:=7) 11 JE Fn sc_law rfl rfl (by decide) (λfa cdv A outer s H E hr=>
  (Zg (Zq (i:=1) sc_law.nd rfl (aY rfl) (VE.pure (Xe Zf (Wr (VM.ve (Zx C_l_cell (hr.mono (by decide)) rfl (Zc (Zb (pv 0)) (Zc Zf Zi)))) Zf))))
  (Zg (Zq (i:=2) sc_law.nd rfl (aY rfl) (Zx C_l_times (hr.mono (by decide)) rfl (Zc (Zb (pv 0)) (Zc Zf (Zc (Zb (pv 1)) Zi)))))
  (Zg (Zq (i:=3) sc_law.nd rfl (aY rfl) (VE.pure (WG Yr XA (YE Vu Q4 rfl B.str (by decide +kernel) (Zc (Zb (pv 1)) Zi)) Ys)))
  (Zg (NQ (SJ b8 rfl (Rk (pv 2)) (Ut (n:=2) rfl (Yo (ZG (i:=4) sc_law.nd rfl (aY rfl)) (Yo (ZG (i:=5) sc_law.nd rfl (aY rfl)) W5))) (Zg (Zq (i:=3) sc_law.nd rfl (aY rfl) (VE.pure (WG Yr XA (WG Yr XA (WG Yr XA (WG Yr XA (Zb (pv 3)) Ys) (YE Vu Q4 rfl B.str (by decide +kernel) (Zc (Zb (pv 4)) Zi))) Ys) (YE Vu Q4 rfl B.str (by decide +kernel) (Zc (Zb (pv 5)) Zi)))))
  (Zj (Yl (SA (Rx (Td hr) (Zb (pv 2)) (Y5 (Zc (Zb (pv 4)) (Zc (Zb (pv 5)) Zi)))) Zf) (Zj (Zq (i:=3) sc_law.nd rfl (aY rfl) (VE.pure (WG Yr XA (WG Yr XA (Zb (pv 3)) Ys) (YE Vu Q4 rfl B.str (by decide +kernel) (Zc (Rx (Td hr) (Zb (pv 2)) (Y5 (Zc (Zb (pv 4)) (Zc (Zb (pv 5)) Zi)))) Zi)))))) ZA)))))
  (Zg (Zq (i:=6) sc_law.nd rfl (aY rfl) (VE.pure (Zb (pv 3))))
  (Zg (Vj b8 rfl (Xx rfl B.range (Zc (Wr (VM.ve (Zx C_l_cell (hr.mono (by decide)) rfl (Zc (Zb (pv 0)) (Zc Zf Zi)))) Zf) Zi)) (ZG (i:=7) sc_law.nd rfl (aY rfl)) (Zj (Zq (i:=3) sc_law.nd rfl (aY rfl) (Zx C_l_changed (hr.mono (by decide)) rfl (Zc (Zb (pv 3)) (Zc (VM.ve (Zx C_l_cell (hr.mono (by decide)) rfl (Zc (Zb (pv 0)) (Zc (Xe Zf (LQ Zf (Zb (pv 7)))) Zi)))) (Zc (VM.ve (Zx C_l_cell (hr.mono (by decide)) rfl (Zc (Zb (pv 0)) (Zc (Xe Zf (LQ Zf (Zb (pv 7)))) Zi)))) Zi)))))))
  (Zg (BP (UJ hr.units (Wr (VM.ve (Zx C_l_cell (hr.mono (by decide)) rfl (Zc (Zb (pv 0)) (Zc Zf Zi)))) Zf) Zf) (Hf (GZ (i:=8) sc_law.nd rfl (aY rfl) (BN (X4 (X4 (X4 (X4 (X4 (X4 (X4 (X4 (X4 (X4 (X4 (X4 (X4 Ds)))))))))))))))
  (G0 (GZ (i:=8) sc_law.nd rfl (aY rfl) (Dt (Zb (pv 8)) (TZ (TZ (TZ (TZ (TZ (TZ (TZ (TZ BO))))))))))
  (Zj (Zq (i:=3) sc_law.nd rfl (aY rfl) (VE.pure (Zt (Zb (pv 8)) (Wr (WH (VM.ve (Zx C_l_cell (hr.mono (by decide)) rfl (Zc (Zb (pv 0)) (Zc Zf Zi)))) Zf) Zf))))))) ZA)
  (Zg (Zq (i:=9) sc_law.nd rfl (aY rfl) (Zx C_l_reading (hr.mono (by decide)) rfl (Zc (Zb (pv 3)) Zi)))
  (Zg (Zq (i:=10) sc_law.nd rfl (aY rfl) (VE.pure (Y5 (Zc Zf (Zc WE Zi)))))
  (Zg (Yl (K7 (Zb (pv 9))) (Zj (Zq (i:=10) sc_law.nd rfl (aY rfl) (Zx C_l_due (hr.mono (by decide)) rfl (Zc (Zt (Zb (pv 9)) Zf) (Zc (Zt (Zb (pv 9)) Zf) Zi))))) ZA)
  (Zj (Z5 (VE.pure (LS (MM hr.units (VM.ve (Zx C_l_told (hr.mono (by decide)) rfl (Zc (Zb (pv 3)) Zi))) (Zb (pv 10))) (NK (MM hr.units (VM.ve (Zx C_l_told (hr.mono (by decide)) rfl (Zc (Zb (pv 6)) Zi))) (Y5 (Zc WE (Zc (VM.ve (Zx C_l_square (hr.mono (by decide)) rfl (Zc (Zb (pv 2)) (Zc (Zb (pv 1)) Zi)))) Zi))))))))))))))))))))
end
end PW
namespace PW
open L2 VL
theorem G3(l:List PV)(lo hi:Option Int):(SQ l lo hi).length<=l.length:=by unfold SQ;rw[br,dD];omega
theorem Hg(ns:List Int)(k:Nat):Vv (SQ (iL ns) (aA (k:Int)) (aA ((k:Int)+1))++[PV.int 0]) 0=aA (.int (Xn ns k)):=by
 have e1:((k:Int)+1)=((k+1:Nat):Int):=by omega
 rw[e1];refine Xy (j:=0) ?_;unfold SQ;rw[HT.sIx_nat,HT.sIx_nat,aN];by_cases h:k<ns.length
 ·rw[jf (by omega),jf (by omega),show k+1-k=1 by omega];rw[eU (by rw[aN];exact h)];simp[Xn,aU,aK h]
 ·rw[lI (by omega),gZ (by rw[aN];omega)];simp[Xn,aU,fV (Nat.not_lt.mp h)]
theorem Ur{ns:List Int}(h:ns.length<=63)(k:Nat):Zw [.cst (iL ns),.int (k:Int)]=aA (.int (Xn ns k)):=by
 have hl:=G3 (iL ns) (aA (k:Int)) (aA ((k:Int)+1));rw[aN] at hl;have hp:ZZ (SQ (iL ns) (aA (k:Int)) (aA ((k:Int)+1)))=aC:=Im _ _ (Xw ns);have c:(SQ (iL ns) (aA (k:Int)) (aA ((k:Int)+1))).length+1<=10000:=by omega
 simp[Zw,PM,WC,YT,Y4,Sv,TF,hp,c,Hg]
theorem Du(l:List Int):X5 (iL l)=(bN l.length).map λ(i:Nat)=>.tup [.int (i:Int),.int (Xn l i)]:=by rw[Xq,aN];apply cu;intro i hi;rw[EU l i (bX.mp hi)]
def tk(e:Z9):List Xp:=[.inl (e.1:Int),.inl (e.2.1:Int)]
def dP(ts:List Z9):PV:=.dT (ts.map tk) (ts.map λe=>.int e.2.2)
theorem Nj(ts:List Z9):ZZ (ts.map λe=>PV.int e.2.2)=aC:=O8 λ_ _=>rfl
theorem Oa(a b:Int):PD (.tup [.int a,.int b])=aA [.inl a,.inl b]:=rfl
theorem Ku{e:Z9}{a b:Nat}(h:tk e=[.inl (a:Int),.inl (b:Int)]):e.1=a/\e.2.1=b:=NJ h
theorem Ob(ts:List Z9):(ts.map tk).zip (ts.map λe=>PV.int e.2.2)=ts.map λe=>(tk e,PV.int e.2.2):=by
 induction ts with
 | nil=>rfl
 | cons e r ih=>rw[aW,aW,dB,ih];rfl
theorem JF{n:Nat}{ts:List Z9}(ok:DictOk n ts){a b:Nat}{t:Int}(h:(a,b,t)∈ts):Vk (ts.map tk) (ts.map λe=>PV.int e.2.2) [.inl (a:Int),.inl (b:Int)]=aA (.int t):=by
 unfold Vk;rw[Ob];have nd:=ok.nd;clear ok
 induction ts with
 | nil=>simp at h
 | cons e r ih=>
  rw[aW,dW];rw[aW,bP] at nd;rcases aV.mp h with q | q
  ·subst q;have:decide (tk (a,b,t)=[dI (a:Int),dI (b:Int)])=aC:=decide_eq_true rfl;simp only[this,av]
  ·have:decide (tk e=[dI (a:Int),dI (b:Int)])=aB:=decide_eq_false λz=>by obtain⟨h1,h2⟩:=Ku z;exact nd.1 (ah.mpr ⟨_,q,by simp[h1,h2]⟩)
   simp only[this];exact ih q nd.2
theorem Oc{n:Nat}{ts:List Z9}(ok:DictOk n ts){a b:Nat}{t:Int}(h:(a,b,t)∈ts):XM (dP ts) (.tup [.int (a:Int),.int (b:Int)])=aA (.int t):=by show(PD (.tup [.int (a:Int),.int (b:Int)])).bind (λk=>Vk (ts.map tk) (ts.map λe=>PV.int e.2.2) k)=_;rw[Oa];exact JF ok h
theorem key_mem{ts:List Z9}{a b:Nat}:[dI (a:Int),dI (b:Int)]∈ts.map tk↔∃t,(a,b,t)∈ts:=by
 rw[ah];constructor
 ·rintro⟨e,he,z⟩;obtain⟨h1,h2⟩:=Ku z;exact⟨e.2.2,by rw[<-h1,<-h2];exact he⟩
 ·rintro⟨t,ht⟩;exact⟨_,ht,rfl⟩
def LD(ts:List Z9)(a b:Nat):Prop:=∃t,(a,b,t)∈ts
def Ext(ts ts':List Z9):Prop:=∀c d,LD ts c d->LD ts' c d
theorem Ext.refl(ts:List Z9):Ext ts ts:=λ_ _ h=>h
theorem Ext.trans{a b c:List Z9}(h:Ext a b)(g:Ext b c):Ext a c:=λx y z=>g x y (h x y z)
def Vn(ts:List Z9):Int:=(ts.map λe=>e.2.2).sum
theorem Nk(e:Z9)(r:List Z9):Vn (e::r)=e.2.2+Vn r:=by unfold Vn;rw[aW,List.sum_cons]
theorem Lf(l:List Z9)(a b:Nat)(t:Int):Vn (l++[(a,b,t)])=Vn l+t:=by unfold Vn;rw[bt,lY];simp
theorem JG(a b:Nat){t:Int}(h0:0<=t):∀ts:List Z9,(ts.map λe=>(e.1,e.2.1)).Nodup->(∀e∈ts,1<=e.2.2)->Vn (ts.map λe=>if(e.1,e.2.1)=(a,b) then(e.1,e.2.1,t) else e)<=Vn ts+t
 | [],_,_=>by show(0:Int)<=0+t;omega
 | e::r,nd,h=>by
  rw[aW,bP] at nd;have h1:=h e (by simp);rw[aW,Nk,Nk];by_cases q:(e.1,e.2.1)=(a,b)
  ·rw[mZ q]
   have:(r.map λe=>if(e.1,e.2.1)=(a,b) then((e.1,e.2.1,t):Z9) else e)=r:=by
    conv=>rhs;rw[<-List.map_id r]
    refine cu λx hx=>?_;rw[ma (λz=>nd.1 (ah.mpr ⟨x,hx,z.trans q.symm⟩))];rfl
   rw[this];show t+Vn r<=_;omega
  ·rw[ma q];have:=JG a b h0 r nd.2 λx hx=>h x (by simp[hx]);omega
theorem Od{n:Nat}{ts:List Z9}{a b:Nat}{t:Int}(ok:DictOk n ts)(hab:a<b)(hb:b<n)(h1:1<=t)(h9:t<=9)(hl:ts.length<=10000) :
  ∃ts',LZ (dP ts) (.tup [.int (a:Int),.int (b:Int)]) (.int t)=aA (dP ts')/\DictOk n ts'/\ts'.length<=ts.length+1/\LD ts' a b/\Ext ts ts'/\Vn ts'<=Vn ts+t:=by
 have c:(ZZ (ts.map λe=>PV.int e.2.2)&&Yc (.int t)&&decide ((ts.map tk).length<=10000))=aC:=by rw[Nj,aN,decide_eq_true hl];rfl
 have e0:LZ (dP ts) (.tup [.int (a:Int),.int (b:Int)]) (.int t)=aA (.dT (UH (ts.map tk) [.inl (a:Int),.inl (b:Int)]) (UI (ts.map tk) (ts.map λe=>PV.int e.2.2) [.inl (a:Int),.inl (b:Int)] (.int t))):=by show(gd _).bind _=_;rw[Sf c,Oa];rfl
 rw[e0];obtain⟨ts',p1,p2,p3⟩:=Bk ok hab hb h1 h9;by_cases hm:∃t',(a,b,t')∈ts
 ·refine⟨ts.map λe=>if(e.1,e.2.1)=(a,b) then(e.1,e.2.1,t) else e,?_,⟨?_,?_⟩,by simp,?_,?_,JG a b (by omega) ts ok.nd λe he=>(ok.ok e he).2.2.1⟩
  ·unfold UH UI dP;rw[mZ (key_mem.mpr hm),mZ (key_mem.mpr hm),Ob,cO,cO,cO];congr 2
   ·apply cu;intro e _;show tk e=tk (if(e.1,e.2.1)=(a,b) then(e.1,e.2.1,t) else e);split<;>rfl
   ·apply cu;intro e _;show(if tk e=[dI (a:Int),dI (b:Int)] then PV.int t else PV.int e.2.2)=PV.int (if(e.1,e.2.1)=(a,b) then((e.1,e.2.1,t):Z9) else e).2.2;by_cases q:(e.1,e.2.1)=(a,b)
    ·rw[mZ q,mZ (by have:=gu q;show [dI (e.1:Int),dI (e.2.1:Int)]=_;rw[this.1,this.2])]
    ·rw[ma q,ma (λz=>q (by obtain⟨h1,h2⟩:=Ku z;rw[h1,h2]))]
  ·intro e he;obtain⟨e',he',rfl⟩:=ah.mp he;have:=ok.ok e' he';split
   ·exact⟨this.1,this.2.1,h1,h9⟩
   ·exact this
  ·rw[cO]
   have e:((λe:Z9=>(e.1,e.2.1)) ∘ λe:Z9=>if(e.1,e.2.1)=(a,b) then(e.1,e.2.1,t) else e)=λe:Z9=>(e.1,e.2.1):=by
    funext e;show((if(e.1,e.2.1)=(a,b) then((e.1,e.2.1,t):Z9) else e).1,(if(e.1,e.2.1)=(a,b) then((e.1,e.2.1,t):Z9) else e).2.1)=_;split<;>rfl
   rw[e];exact ok.nd
  ·obtain⟨t',ht'⟩:=hm;exact⟨t,ah.mpr ⟨(a,b,t'),ht',mZ rfl⟩⟩
  ·rintro c d ⟨u,hu⟩;by_cases q:(c,d)=(a,b)
   ·exact⟨t,ah.mpr ⟨(c,d,u),hu,mZ q⟩⟩
   ·exact⟨u,ah.mpr ⟨(c,d,u),hu,ma q⟩⟩
 ·have hn:∀t',(a,b,t')∉ts:=λt' h=>hm ⟨t',h⟩;refine⟨ts++[(a,b,t)],?_,⟨?_,?_⟩,by simp,⟨t,by simp⟩,λc d ⟨u,hu⟩=>⟨u,bG _ hu⟩,by rw[Lf];exact kF _⟩
  ·unfold UH UI dP;rw[ma (λz=>hm (key_mem.mp z)),ma (λz=>hm (key_mem.mp z)),bt,bt];rfl
  ·intro e he;rcases au.mp he with q | q
   ·exact ok.ok e q
   ·rw[aP.mp q];exact⟨hab,hb,h1,h9⟩
  ·rw[bt];refine NH ok.nd ?_;rw[ah];rintro⟨e,he,q⟩;have:=gu q;obtain⟨a',b',t'⟩:=e;simp only at this;rw[this.1,this.2] at he;exact hn t' he
theorem JH{n:Nat}{ts:List Z9}{a b:Nat}{t:Int}(ok:DictOk n ts)(hab:a<b)(hb:b<n)(h1:1<=t)(h9:t<=9)(hl:ts.length<=10000) :
  ∃ts',LZ (dP ts) (.tup [.int (a:Int),.int (b:Int)]) (.int t)=aA (dP ts')/\DictOk n ts'/\ts'.length<=ts.length+1/\LD ts' a b/\Ext ts ts':=by
 obtain⟨ts',h2,h3,h4,h5,h6,_⟩:=Od ok hab hb h1 h9 hl;exact⟨ts',h2,h3,h4,h5,h6⟩
theorem T1{i:Nat}{fk fv:XE}{s:ZS}{d k v d':PV}(hv:fv s=aA v)(hk:fk s=aA k)(hd:(s[i]?).join=aA d)(hp:LZ d k v=aA d'):VL.sDPut i fk fv s=aA (.nx (s.set i (aA d'))):=by unfold VL.sDPut;rw[hv,hk];simp only[aD,hd,hp,av]
theorem RU(ts:List Z9):QD (dP ts)=aA (ts.map λe=>.tup [.int (e.1:Int),.int (e.2.1:Int)]):=by show aA ((ts.map tk).map EO)=_;rw[cO];rfl
def Cl(ts:List Z9)(P:Nat->Prop):Prop:=∀a b,LD ts a b->(P a↔P b)
def Hang(n:Nat)(ts:List Z9):Prop:=∀P:Nat->Prop,Cl ts P->∀i j,i<n->j<n->(P i↔P j)
def BR(W:List (List Int)):Prop:=∀P:Nat->Prop,(∀a b,a<W.length->b<W.length->0<WT W a b->(P a↔P b))->∀i j,i<W.length->j<W.length->(P i↔P j)
theorem T2{n:Nat}{M:List (List Int)}{e:Z9}(ok:MatOk n M)(h:e.1<e.2.1/\e.2.1<n/\1<=e.2.2/\e.2.2<=9)(i j:Nat):WT (ZX M e) i j=if e.2.1=i/\e.1=j then e.2.2 else if e.1=i/\e.2.1=j then e.2.2 else WT M i j:=by obtain⟨a,b,t⟩:=e;simp only at h ⊢;obtain⟨l1,r1⟩:=WX (t:=t) (b:=b) ok.len ok.row (show a<n by omega);show WT (XG (XG M a b t) b a t) i j=_;rw[Rn l1 r1 (by omega) (by omega),Rn ok.len ok.row (by omega) (by omega)]
theorem Dv{n:Nat}{ts:List Z9}(ok:DictOk n ts){a b:Nat}(h:LD ts a b):a<n/\b<n/\0<WT (Uv n ts) a b:=by
 have keep:∀(l:List Z9)(M:List (List Int)),(∀e∈l,e.1<e.2.1/\e.2.1<n/\1<=e.2.2/\e.2.2<=9)->MatOk n M->0<WT M a b->0<WT (l.foldl ZX M) a b:=by
  intro l
  induction l with
  | nil=>exact λM _ _ h=>h
  | cons e r ih=>
   intro M hl hM hp;have he:=hl e (by simp);refine ih _ (λe' h'=>hl e' (by simp[h'])) (hM.step he) ?_;rw[T2 hM he];split
   ·omega
   ·split
    ·omega
    ·exact hp
 have gen:∀(l:List Z9)(M:List (List Int)),(∀e∈l,e.1<e.2.1/\e.2.1<n/\1<=e.2.2/\e.2.2<=9)->MatOk n M->LD l a b->0<WT (l.foldl ZX M) a b:=by
  intro l
  induction l with
  | nil=>rintro M _ _ ⟨t,ht⟩;simp at ht
  | cons e r ih=>
   rintro M hl hM ⟨t,ht⟩;have he:=hl e (by simp);rcases aV.mp ht with q | q
   ·refine keep r _ (λe' h'=>hl e' (by simp[h'])) (hM.step he) ?_;rw[T2 hM he];subst q;simp only at he;split
    ·show 0<t;omega
    ·rw[mZ ⟨rfl,rfl⟩];show 0<t;omega
   ·exact ih _ (λe' h'=>hl e' (by simp[h'])) (hM.step he) ⟨t,q⟩
 obtain⟨t,ht⟩:=id h;have:=ok.ok _ ht;simp only at this;exact⟨by omega,by omega,gen ts _ ok.ok (MatOk.zero n) h⟩
theorem Hang.conn{n:Nat}{ts:List Z9}(h:Hang n ts)(ok:DictOk n ts):BR (Uv n ts):=by intro P hP i j hi hj;have hl:=(VQ ok).len;refine h P (λa b hab=>?_) i j (by omega) (by omega);obtain⟨ha,hb,hp⟩:=Dv ok hab;exact hP a b (by omega) (by omega) hp
theorem T4:∀{l m:List Int},l.Nodup->(∀x∈l,x∈m)->l.length<=m.length
 | [],m,_,_=>gC _
 | x::r,m,nd,h=>by have hx:x∈m:=h x (by simp);have nd':=bP.mp nd;have:=T4 (l:=r) (m:=m.erase x) nd'.2 λy hy=>(List.mem_erase_of_ne (show y≠x from λz=>nd'.1 (by rw[<-z];exact hy))).mpr (h y (by simp[hy]));rw[List.length_erase_of_mem hx] at this;have hp:=List.length_pos_of_mem hx;rw[bK];omega
theorem Zai{n:Nat}{l:List Int}(nd:l.Nodup)(h:∀x∈l,∃k:Nat,k<n/\x=(k:Int))(hl:l.length=n){j:Nat}(hj:j<n):(j:Int)∈l:=by
 by_cases q:(j:Int)∈l
 ·exact q
 ·have:=T4 (l:=(j:Int)::l) (m:=(bN n).map λ(k:Nat)=>(k:Int)) (bP.mpr ⟨q,nd⟩) (λx hx=>by
   rcases aV.mp hx with rfl | hx
   ·exact ah.mpr ⟨j,bX.mpr hj,rfl⟩
   ·obtain⟨k,hk,rfl⟩:=h x hx;exact ah.mpr ⟨k,bX.mpr hk,rfl⟩)
  rw[bK,aN,bb] at this;omega
def rL(M:List (List Int)):List PV:=M.map λr=>.lst (iL r)
theorem S5{M:List (List Int)}{a:Nat}(h:a<M.length):(rL M)[a]?=aA (.lst (iL (Yk M a))):=by unfold rL;rw[aS,MC h];rfl
theorem Qv{M:List (List Int)}{a b:Nat}{t:Int}:(rL M).set a (.lst ((iL (Yk M a)).set b (.int t)))=rL (XG M a b t):=by unfold rL XG;rw[List.map_set];show _=(List.map (λr=>PV.lst (iL r)) M).set a (PV.lst (((Yk M a).set b t).map PV.int));rw[List.map_set]
theorem Nl{n:Nat}{ts:List Z9}(ok:DictOk n ts)(hn:n<=7):Y1 [dP ts,.int (n:Int)]=aA (wP (Uv n ts)):=by
 have hc:Yg 1 [1] (YG [Za 1]) (.one 0) Yi (Zh SR (YO [eC (.int 0)]) (Za 1)) [aA (dP ts),aA (.int (n:Int)),none,none,none]=aA (.lst (rL (aJ n (aJ n 0)))):=by
  rw[Wx (bN n) (λ(i:Nat)=>.int (i:Int)) (λ_=>.lst (iL (aJ n 0))) (Xh (by simp) (by omega)) (by simp;omega) (λi _=>⟨_,rfl,rfl,?_⟩)]
  ·unfold rL;rw[ji,bb,iV]
  ·have e:SR (.lst [.int 0]) (.int (n:Int))=aA (.lst (iL (aJ n 0))):=by show(if ZZ [PV.int 0]=aC/\(-1000000:Int)<=(n:Int)/\(n:Int)<=1000000/\[PV.int 0].length*((n:Int)).toNat<=10000 then aA (PV.lst (aJ ((n:Int)).toNat [PV.int 0]).flatten) else none)=_;rw[mZ ⟨rfl,by omega,by omega,by simp;omega⟩,cK,HU];simp
   simp[Z7,e]
 have mat:∀i,MatOk n ((ts.take i).foldl ZX (aJ n (aJ n 0))):=λi=>VQ (ts:=ts.take i) ⟨λe he=>ok.ok e (bz he),by rw[gk];exact ok.nd.sublist (fX _ _)⟩
 obtain⟨s',h1,x,y,h2⟩:=Yz (T:=.many [3,4]) (fb:=Zk (Ym 2 (Za 3) (Za 4) (Zh XM (Za 0) (Yf [Za 3,Za 4]))) (Ym 2 (Za 4) (Za 3) (Zh XM (Za 0) (Yf [Za 3,Za 4])))) (ls:=ts.map λe=>.tup [.int (e.1:Int),.int (e.2.1:Int)]) (s:=[aA (dP ts),aA (.int (n:Int)),aA (.lst (rL (aJ n (aJ n 0)))),none,none])
  (λi st=>∃x y,st=[aA (dP ts),aA (.int (n:Int)),aA (.lst (rL ((ts.take i).foldl ZX (aJ n (aJ n 0))))),x,y]) ⟨none,none,rfl⟩ (λi l st hl hJ=>by
   obtain⟨x,y,rfl⟩:=hJ;rw[aS] at hl
   cases he:ts[i]? with
   | none=>rw[he] at hl;cases hl
   | some e=>
    rw[he] at hl;cases hl;obtain⟨a,b,t⟩:=e;have hmem:(a,b,t)∈ts:=b7 he;obtain⟨hab,hbn,t1,t9⟩:=ok.ok _ hmem;simp only at hab hbn t1 t9;have mi:=mat i;have hg:=Oc ok hmem;refine⟨_,_,rfl,?_,aA (.int (a:Int)),aA (.int (b:Int)),rfl⟩;show Zk _ _ [aA (dP ts),aA (.int (n:Int)),aA (.lst (rL ((ts.take i).foldl ZX (aJ n (aJ n 0))))),aA (.int (a:Int)),aA (.int (b:Int))]=_;have sh:=WX (t:=t) (b:=b) mi.len mi.row (show a<n by omega);have lenM:(rL ((ts.take i).foldl ZX (aJ n (aJ n 0)))).length=n:=by unfold rL;rw[aN];exact mi.len
    have lenM2:(rL (XG ((ts.take i).foldl ZX (aJ n (aJ n 0))) a b t)).length=n:=by unfold rL;rw[aN];exact sh.1
    rw[ZI,WY (l:=.int t) (a:=(a:Int)) (b:=(b:Int)) (j:=a) (c:=b) (m:=rL ((ts.take i).foldl ZX (aJ n (aJ n 0)))) (n:=iL (Yk ((ts.take i).foldl ZX (aJ n (aJ n 0))) a)) (by simp[hg]) rfl rfl rfl (Wm (by rw[lenM];omega)) (S5 (by rw[mi.len];omega)) (Xw _) rfl (Wm (by rw[aN,mi.row a (by omega)];omega))];simp only[aD,Qv];show Ym _ _ _ _ [aA (dP ts),aA (.int (n:Int)),aA (.lst (rL (XG ((ts.take i).foldl ZX (aJ n (aJ n 0))) a b t))),aA (.int (a:Int)),aA (.int (b:Int))]=_;rw[WY (l:=.int t) (a:=(b:Int)) (b:=(a:Int)) (j:=b) (c:=a) (m:=rL (XG ((ts.take i).foldl ZX (aJ n (aJ n 0))) a b t)) (n:=iL (Yk (XG ((ts.take i).foldl ZX (aJ n (aJ n 0))) a b t) b)) (by simp[hg]) rfl rfl rfl (Wm (by rw[lenM2];omega)) (S5 (by rw[sh.1];omega)) (Xw _) rfl (Wm (by rw[aN,sh.2 b (by omega)];omega)),Qv];have e5:(ts.take (i+1)).foldl ZX (aJ n (aJ n 0))=ZX ((ts.take i).foldl ZX (aJ n (aJ n 0))) (a,b,t):=UU _ _ he;rw[e5];rfl)
 rw[aN,dF] at h2;have hsq:(ts.foldl ZX (aJ n (aJ n 0)))=Uv n ts:=rfl;rw[hsq] at h2;have hc2:Yg 1 [] (VU (Za 2)) (.one 0) Yi (Ze Y6 [Za 0]) [aA (dP ts),aA (.int (n:Int)),aA (.lst (rL (Uv n ts))),x,y]=aA (.lst ((Uv n ts).map pP)):=by rw[Wx (Uv n ts) (λr=>.lst (iL r)) pP (by simp[rL]) (by rw[(VQ ok).len];omega) (λr _=>⟨_,rfl,rfl,by simp[Z7]⟩)]
 show WC 5 U0 [dP ts,.int (n:Int)]=_;unfold U0;simp only[WC,YT,aW,dZ,bK,fK,ZI,Zv];show(((Yg 1 [1] (YG [Za 1]) (.one 0) Yi (Zh SR (YO [eC (.int 0)]) (Za 1)) [aA (dP ts),aA (.int (n:Int)),none,none,none]).map _).bind _).bind Xv=_;rw[hc];simp only[av,aD];show((SE 0 _ _ [aA (dP ts),aA (.int (n:Int)),aA (.lst (rL (aJ n (aJ n 0)))),none,none]).bind _).bind Xv=_;unfold SE;show(((QD (dP ts)).bind λls=>We _ _ ls [aA (dP ts),aA (.int (n:Int)),aA (.lst (rL (aJ n (aJ n 0)))),none,none]).bind _).bind Xv=_;rw[RU];simp only[aD];rw[h1,h2];simp[hc2]
theorem BS(l:List Int)(k:Nat)(x:Int):(iL l).take k++PV.int x::(iL l).drop k=iL (l.take k++x::l.drop k):=by show(l.map PV.int).take k++PV.int x::(l.map PV.int).drop k=(l.take k++x::l.drop k).map PV.int;rw[bt,aW,gk,List.map_drop]
theorem Lg{n:Nat}{ts:List Z9}(ok:DictOk n ts)(hn:n<=7)(hl:ts.length<=1000)(c:Int):∃ts',Vf [dP ts,.int c,.int (n:Int)]=aA (dP ts')/\DictOk n ts'/\ts'.length<=ts.length/\(Hang n ts->Hang n ts')/\Vn ts'<=Vn ts:=by
 obtain⟨s1,h1,c1,x1,l1,e1,nk⟩:=Yz (T:=.one 4) (fb:=Zk (Se 3 (Zh YS (Za 1) (Zh Yp (Za 4) (eC (.int 1)))) (Za 4)) (Zl 1 (eP (Zh X8 (Za 1) (Zh Yp (Za 4) (eC (.int 1))))))) (ls:=Xs n) (s:=[aA (dP ts),aA (.int c),aA (.int (n:Int)),aA (.lst []),none,none,none,none,none])
  (λi st=>∃(c':Int) (x:Option PV) (l:List Int),st=[aA (dP ts),aA (.int c'),aA (.int (n:Int)),aA (.lst (iL l)),x,none,none,none,none]/\NamesOk i l) ⟨c,none,[],rfl,NamesOk.nil⟩ (λi l st hl hJ=>by
   obtain⟨hi,rfl⟩:=VV hl;obtain⟨c',x,nl,rfl,nk⟩:=hJ;have hd:0<(i:Int)+1:=by omega
   have hm0:=h8 c' (show(i:Int)+1≠0 by omega);have hm1:=gR c' hd;refine⟨_,_,rfl,?_,c'/((i:Int)+1),aA (.int (i:Int)),nl.take (c'%((i:Int)+1)).toNat++(i:Int)::nl.drop (c'%((i:Int)+1)).toNat,rfl,nk.ins _⟩;show Zk _ _ [aA (dP ts),aA (.int c'),aA (.int (n:Int)),aA (.lst (iL nl)),aA (.int (i:Int)),none,none,none,none]=_;rw[ZI,L7 (k:=c'%((i:Int)+1)) (l:=.int (i:Int)) (m:=iL nl) (by simp[hd]) rfl rfl (Xw nl) rfl hm0 (by omega) (by rw[aN,nk.len];omega),BS];have hcd:R4 c' ((i:Int)+1):=Qm hd (by omega);simp[hcd])
 have nkn:=nk;rw[RD] at nkn
 obtain⟨s2,h2,x6,x7,x8,ts',e2,ok',hle,hsu,hall⟩:=Yz (T:=.many [6,7]) (fb:=Zk (Zl 8 (eP (Yf [Ze Te [Zh ZK (Za 3) (Za 6),Zh ZK (Za 3) (Za 7)],Ze OZ [Zh ZK (Za 3) (Za 6),Zh ZK (Za 3) (Za 7)]]))) (VL.sDPut 5 (Za 8) (Zh XM (Za 0) (Yf [Za 6,Za 7])))) (ls:=ts.map λe=>.tup [.int (e.1:Int),.int (e.2.1:Int)])
  (s:=[aA (dP ts),aA (.int c1),aA (.int (n:Int)),aA (.lst (iL l1)),x1,aA (dP []),none,none,none])
  (λi st=>∃(x6 x7 x8:Option PV) (ts':List Z9),st=[aA (dP ts),aA (.int c1),aA (.int (n:Int)),aA (.lst (iL l1)),x1,aA (dP ts'),x6,x7,x8]/\DictOk n ts'/\ts'.length<=i/\Vn ts'<=Vn (ts.take i)/\∀(j:Nat)(e:Z9),j<i->ts[j]?=aA e->LD ts' (Xn l1 e.1).toNat (Xn l1 e.2.1).toNat\/LD ts' (Xn l1 e.2.1).toNat (Xn l1 e.1).toNat) ⟨none,none,none,[],rfl,DictOk.nil n,ar _,kF _,λj e hj _=>by omega⟩ (λi l st hl' hJ=>by
   obtain⟨x6,x7,x8,ts',rfl,ok',hle,hsu,hall⟩:=hJ;rw[aS] at hl'
   cases he:ts[i]? with
   | none=>rw[he] at hl';cases hl'
   | some e=>
    rw[he] at hl';cases hl';obtain⟨a,b,t⟩:=e;have hil:=(aL.mp he).1;have hmem:(a,b,t)∈ts:=b7 he;obtain⟨hab,hbn,t1,t9⟩:=ok.ok _ hmem;simp only at hab hbn t1 t9;have hg:=Oc ok hmem;rw[RD] at nk;have na:=nk.at (x:=a) (by omega);have nb:=nk.at (x:=b) (by omega);have ne:=nk.ne (x:=a) (y:=b) (by omega) (by omega) (by omega)
    -- the pair
    obtain⟨p,q,ep,eq,hpq,hqn⟩:∃p q:Nat,(if Xn l1 b<Xn l1 a then Xn l1 b else Xn l1 a)=(p:Int)/\(if Xn l1 b>Xn l1 a then Xn l1 b else Xn l1 a)=(q:Int)/\p<q/\q<n:=by refine⟨(if Xn l1 b<Xn l1 a then Xn l1 b else Xn l1 a).toNat,(if Xn l1 b>Xn l1 a then Xn l1 b else Xn l1 a).toNat,?_,?_,?_,?_⟩<;>split<;>(try split)<;>omega
    obtain⟨ts2,pe,ok2,hle2,hh2,hx2,hs2⟩:=Od (t:=t) ok' hpq hqn t1 t9 (by omega);have ia:=NS (l:=l1) (k:=a) (by rw[nk.len];omega);have ib:=NS (l:=l1) (k:=b) (by rw[nk.len];omega)
    refine⟨_,_,rfl,?_,aA (.int (a:Int)),aA (.int (b:Int)),aA (.tup [.int (p:Int),.int (q:Int)]),ts2,rfl,ok2,by omega,by rw[ij,he];show _<=Vn (ts.take i++[(a,b,t)]);rw[Lf];omega,λj e hj hje=>by
     by_cases hji:j<i
     ·exact(hall j e hji hje).imp (hx2 _ _) (hx2 _ _)
     ·have hj':j=i:=by omega
      subst hj';rw[he] at hje;cases hje;show LD ts2 (Xn l1 a).toNat (Xn l1 b).toNat\/LD ts2 (Xn l1 b).toNat (Xn l1 a).toNat;by_cases hlt:Xn l1 b<Xn l1 a
      ·rw[mZ hlt] at ep;rw[ma (by omega)] at eq;exact .inr (by rw[ep,eq];exact hh2)
      ·rw[ma hlt] at ep;rw[mZ (by omega)] at eq;exact .inl (by rw[ep,eq];exact hh2)⟩
    show Zk _ _ [aA (dP ts),aA (.int c1),aA (.int (n:Int)),aA (.lst (iL l1)),x1,aA (dP ts'),aA (.int (a:Int)),aA (.int (b:Int)),x8]=_;have hset:Zl 8 (eP (Yf [Ze Te [Zh ZK (Za 3) (Za 6),Zh ZK (Za 3) (Za 7)],Ze OZ [Zh ZK (Za 3) (Za 6),Zh ZK (Za 3) (Za 7)]])) [aA (dP ts),aA (.int c1),aA (.int (n:Int)),aA (.lst (iL l1)),x1,aA (dP ts'),aA (.int (a:Int)),aA (.int (b:Int)),x8]=aA (.nx [aA (dP ts),aA (.int c1),aA (.int (n:Int)),aA (.lst (iL l1)),x1,aA (dP ts'),aA (.int (a:Int)),aA (.int (b:Int)),aA (.tup [.int (p:Int),.int (q:Int)])]):=by simp[ia,ib,ep,eq]
    rw[ZI,hset];simp only[aD];rw[T1 (v:=.int t) (k:=.tup [.int (p:Int),.int (q:Int)]) (d:=dP ts') (by simp[hg]) rfl rfl pe];rfl)
 rw[aN] at hle hall hsu;rw[dF] at hsu;refine⟨ts',?_,ok',hle,λhg P hP i j hi hj=>?_,hsu⟩;rotate_left
 ·have sur:∀k,k<n->∃x,x<n/\(Xn l1 x).toNat=k:=λk hk=>by have hm:=Zai nkn.nd (λx hx=>⟨x.toNat,by have:=nkn.lo x hx;have:=nkn.hi x hx;omega,by have:=nkn.lo x hx;omega⟩) nkn.len hk;obtain⟨x,hx,ex⟩:=dU hm;refine⟨x,by rw[<-nkn.len];exact hx,?_⟩;unfold Xn;rw[aU,aK hx,ex];rfl
  obtain⟨x,hx,rfl⟩:=sur i hi;obtain⟨y,hy,rfl⟩:=sur j hj;refine hg (λk=>P (Xn l1 k).toNat) (λa b hab=>?_) x y hx hy;obtain⟨t,ht⟩:=hab;obtain⟨k,hk,ek⟩:=dU ht;rcases hall k (a,b,t) hk (by rw[aK hk,ek]) with q | q
  ·exact hP _ _ q
  ·exact(hP _ _ q).symm
 show WC 9 Uk [dP ts,.int c,.int (n:Int)]=_;unfold Uk;simp only[WC,YT,aW,dZ,bK,fK,ZI,Zv];have hr:YG [Za 2] (Ya [3,5] [aA (dP ts),aA (.int c),aA (.int (n:Int)),aA (.lst []),none,none,none,none,none])=aA (Xs n):=Xh (by simp[Ya]) (by omega);show((Wt [3,5] (YG [Za 2]) (.one 4) _ [aA (dP ts),aA (.int c),aA (.int (n:Int)),aA (.lst []),none,none,none,none,none]).bind _).bind Xv=_;rw[Xg,hr];simp only[aD];rw[show(We (.one 4) (Zk (Se 3 (Zh YS (Za 1) (Zh Yp (Za 4) (eC (.int 1)))) (Za 4)) (Zl 1 (eP (Zh X8 (Za 1) (Zh Yp (Za 4) (eC (.int 1))))))) (Xs n) [aA (dP ts),aA (.int c),aA (.int (n:Int)),aA (.lst []),none,none,none,none,none])=aA (.nx s1) from h1,e1];show((SE 0 _ _ [aA (dP ts),aA (.int c1),aA (.int (n:Int)),aA (.lst (iL l1)),x1,aA (dP []),none,none,none]).bind _).bind Xv=_;unfold SE;show(((QD (dP ts)).bind λls=>We _ _ ls [aA (dP ts),aA (.int c1),aA (.int (n:Int)),aA (.lst (iL l1)),x1,aA (dP []),none,none,none]).bind _).bind Xv=_;rw[RU];simp only[aD];rw[h2,e2];rfl
theorem Kv{n:Nat}{ts:List Z9}(ok:DictOk n ts)(hn:n<=7)(hl:ts.length<=1000)(c:Int):∃ts',Vf [dP ts,.int c,.int (n:Int)]=aA (dP ts')/\DictOk n ts'/\ts'.length<=ts.length/\(Hang n ts->Hang n ts'):=by obtain⟨ts',h2,h3,h4,h5,_⟩:=Lg ok hn hl c;exact⟨ts',h2,h3,h4,h5⟩
theorem G4{r m:Int}(h1:1<=m)(h9:m<=9):0<=r%2*(1+r/2%m)/\r%2*(1+r/2%m)<=9:=by
 have a1:=h8 (r/2) (show m≠0 by omega);have a2:=gR (r/2) (show 0<m by omega);have a3:r%2=0\/r%2=1:=by omega
 rcases a3 with e | e<;>rw[e]<;>omega
theorem Zb2{x y:PV}(c:Int):Vv [x,y] (c%2)=aA (if c%2=0 then x else y):=by
 have h:c%2=0\/c%2=1:=by omega
 rcases h with h | h<;>rw[h]<;>rfl
theorem G5(neg:Bool)(a:Int)(l:List Int):Rr neg (.int a) (.lst (iL l))=aA (.bl (if neg then !decide (a∈l) else decide (a∈l))):=by
 unfold Rr;have c:((iL l).all λz=>Wc 8 z (.int a))=aC:=by rw[iI,bB];intro x _;rfl
 show(aA (iL l)).bind _=_;simp only[aD,mZ c]
 have:decide (PV.int a∈iL l)=decide (a∈l):=decide_eq_decide.mpr (by
  rw[ah];constructor
  ·rintro⟨x,hx,e⟩;cases e;exact hx
  ·intro h;exact⟨a,h,rfl⟩)
 rw[this]
def Cp:XS:=(Zk (Zl 8 (eP (Ze Te [Zh Pn (Zh YS (Za 0) (eC (.int 2))) (Zh Yp (eC (.int 1)) (Zh YS (Zh X8 (Za 0) (eC (.int 2))) (Za 3))),Za 2])))
  (Zk (Zl 0 (eP (Zh ZK (YO [Zh X8 (Za 0) (eC (.int 2)),Zh X8 (Zh X8 (Za 0) (eC (.int 2))) (Za 3)]) (Zh YS (Za 0) (eC (.int 2))))))
  (YF (xB (Zh T7 (Za 8) (eC (.int 0)))) (Zk (VL.sDPut 4 (Yf [Za 6,Za 7]) (Za 8))
  (Zl 2 (eP (Zh Su (Za 2) (Za 8))))) Zs)))
def Vo(n:Nat)(most:Int)(ts:List Z9)(m6 m5:Int)(x6 x7 x8:Option Int)(x9:Option Int)(met:List Int):ZS:=
 [aA (.int m6),aA (.int (n:Int)),aA (.int m5),aA (.int most),aA (dP ts),aA (.lst (iL met)),x6.map PV.int,x7.map PV.int,x8.map PV.int,x9.map PV.int]
theorem BU{n:Nat}{most:Int}{ts:List Z9}{m6 m5:Int}{a b:Nat}{x8 x9:Option Int}{met:List Int}(h1:1<=most)(h9:most<=9)(ok:DictOk n ts)(hl:ts.length<=1000)(hab:a<b)(hb:b<n) :
  ∃ts' mV m9 x8',Cp (Vo n most ts m6 m5 (aA (a:Int)) (aA (b:Int)) x8 x9 met)=aA (.nx (Vo n most ts' mV m9 (aA (a:Int)) (aA (b:Int)) (aA x8') x9 met))/\DictOk n ts'/\ts'.length<=ts.length+1/\(0<=m5->0<=m9/\Vn ts'+m9<=Vn ts+m5):=by
 obtain⟨d0,d9⟩:=G4 (r:=m6) h1 h9;have cm:CMul (m6%2) (1+m6/2%most):=Bv (by omega) (by omega);have cd:R4 m6 2:=Qm (by omega) (by omega);have cd2:R4 (m6/2) most:=Qm (by omega) (by omega);have hm:0<most:=by omega
 generalize hdp:(if m5<m6%2*(1+m6/2%most) then m5 else m6%2*(1+m6/2%most))=dp;have hdp9:dp<=9:=by rw[<-hdp];split<;>omega
 have hdpr:dp<=m5:=by rw[<-hdp];split<;>omega
 generalize hrs:(if m6%2=0 then m6/2 else m6/2/most)=rs;have hif:(if m6%2=0 then PV.int (m6/2) else PV.int (m6/2/most))=PV.int rs:=by rw[<-hrs];split<;>rfl
 have first:(Zk (Zl 8 (eP (Ze Te [Zh Pn (Zh YS (Za 0) (eC (.int 2))) (Zh Yp (eC (.int 1)) (Zh YS (Zh X8 (Za 0) (eC (.int 2))) (Za 3))),Za 2]))) (Zl 0 (eP (Zh ZK (YO [Zh X8 (Za 0) (eC (.int 2)),Zh X8 (Zh X8 (Za 0) (eC (.int 2))) (Za 3)]) (Zh YS (Za 0) (eC (.int 2)))))))
   (Vo n most ts m6 m5 (aA (a:Int)) (aA (b:Int)) x8 x9 met)=aA (.nx (Vo n most ts rs m5 (aA (a:Int)) (aA (b:Int)) (aA dp) x9 met)):=by
  simp[Vo,cm,cd,cd2,hm,Zb2,hif,hdp]
 have split3:∀(f g h:XS)(s s1:ZS),Zk f g s=aA (.nx s1)->Zk f (Zk g h) s=h s1:=λf g h s s1 e=>by
  simp only[ZI] at e ⊢
  cases q:f s with
  | none=>rw[q] at e;cases e
  | some o=>
   rw[q] at e
   cases o with
   | nx s2=>
    simp only[aD] at e ⊢;rw[e];rfl
   | _=>cases e
 by_cases hpos:0<dp
 ·obtain⟨ts2,pe,ok2,hle2,_,_,hs2⟩:=Od (t:=dp) ok hab hb (by omega) hdp9 (by omega);refine⟨ts2,rs,m5-dp,dp,?_,ok2,hle2,λ_=>⟨by omega,by omega⟩⟩;unfold Cp;rw[split3 _ _ _ _ _ first];have hput:=T1 (i:=4) (fk:=Yf [Za 6,Za 7]) (fv:=Za 8) (s:=Vo n most ts rs m5 (aA (a:Int)) (aA (b:Int)) (aA dp) x9 met) (v:=.int dp) (k:=.tup [.int (a:Int),.int (b:Int)]) (d:=dP ts) rfl (by simp[Vo]) rfl pe;have ht:xB (Zh T7 (Za 8) (eC (.int 0))) (Vo n most ts rs m5 (aA (a:Int)) (aA (b:Int)) (aA dp) x9 met)=aA aC:=by simp[Vo,hpos]
  rw[Zu,ht];simp only[aD,if_true];rw[ZI,hput];simp[Vo]
 ·refine⟨ts,rs,m5,dp,?_,ok,by omega,λh=>⟨h,kF _⟩⟩;unfold Cp;rw[split3 _ _ _ _ _ first];have ht:xB (Zh T7 (Za 8) (eC (.int 0))) (Vo n most ts rs m5 (aA (a:Int)) (aA (b:Int)) (aA dp) x9 met)=aA aB:=by simp[Vo,hpos]
  rw[Zu,ht];simp
theorem G6{n:Nat}{most:Int}{a:Nat}{ts:List Z9}{m6 m5:Int}{x7 x8 x9:Option Int}{met:List Int}(h1:1<=most)(h9:most<=9)(ok:DictOk n ts)(hl:ts.length<=100)(ha:a<n)(hn:n<=7) :
  ∃ts' mV m9 y7 y8,We (.one 7) Cp (Ux ((a:Int)+1) (n-(a+1))) (Vo n most ts m6 m5 (aA (a:Int)) x7 x8 x9 met)=aA (.nx (Vo n most ts' mV m9 (aA (a:Int)) y7 y8 x9 met))/\DictOk n ts'/\ts'.length<=ts.length+7/\(0<=m5->0<=m9/\Vn ts'+m9<=Vn ts+m5):=by
 obtain⟨s',h,ts',mV,m9,y7,y8,e,ok',hle,hsu⟩:=Yz (T:=.one 7) (fb:=Cp) (ls:=Ux ((a:Int)+1) (n-(a+1))) (s:=Vo n most ts m6 m5 (aA (a:Int)) x7 x8 x9 met)
  (λj st=>∃ts' mV m9 y7 y8,st=Vo n most ts' mV m9 (aA (a:Int)) y7 y8 x9 met/\DictOk n ts'/\ts'.length<=ts.length+j/\(0<=m5->0<=m9/\Vn ts'+m9<=Vn ts+m5)) ⟨ts,m6,m5,x7,x8,rfl,ok,by omega,λh=>⟨h,kF _⟩⟩ (λj l st hl' hJ=>by
   obtain⟨hj,rfl⟩:=PK hl';obtain⟨ts',mV,m9,y7,y8,rfl,ok',hle,hsu⟩:=hJ;have e1:(a:Int)+1+(j:Int)=((a+1+j:Nat):Int):=by omega
   rw[e1];obtain⟨ts2,r2,m2,z8,e2,ok2,hle2,hs2⟩:=BU (m6:=mV) (m5:=m9) (x8:=y8) (x9:=x9) (met:=met) h1 h9 ok' (by omega) (show a<a+1+j by omega) (by omega);exact⟨_,_,rfl,e2,ts2,r2,m2,aA ((a+1+j:Nat):Int),aA z8,rfl,ok2,by omega,λh=>by have a1:=hsu h;have a2:=hs2 a1.1;exact⟨a2.1,by omega⟩⟩)
 rw[PL] at hle;exact⟨ts',mV,m9,y7,y8,by rw[h,e],ok',by omega,hsu⟩
theorem G7{n:Nat}{most:Int}{m6 m5:Int}{met:List Int}(h1:1<=most)(h9:most<=9)(hn:n<=7) :
  ∃ts' mV m9 y6 y7 y8,We (.one 6) (Wt [4,5] (WU [Zh Yp (Za 6) (eC (.int 1)),Za 1]) (.one 7) Cp) (Xs n) (Vo n most [] m6 m5 none none none none met)=aA (.nx (Vo n most ts' mV m9 y6 y7 y8 none met))/\DictOk n ts'/\ts'.length<=49/\(0<=m5->Vn ts'<=m5):=by
 obtain⟨s',h,ts',mV,m9,y6,y7,y8,e,ok',hle,hsu⟩:=Yz (T:=.one 6) (fb:=Wt [4,5] (WU [Zh Yp (Za 6) (eC (.int 1)),Za 1]) (.one 7) Cp) (ls:=Xs n) (s:=Vo n most [] m6 m5 none none none none met)
  (λi st=>∃ts' mV m9 y6 y7 y8,st=Vo n most ts' mV m9 y6 y7 y8 none met/\DictOk n ts'/\ts'.length<=7*i/\(0<=m5->0<=m9/\Vn ts'+m9<=m5)) ⟨[],m6,m5,none,none,none,rfl,DictOk.nil n,by simp,λh=>⟨h,by show(0:Int)+m5<=m5;omega⟩⟩ (λi l st hl' hJ=>by
   obtain⟨hi,rfl⟩:=VV hl';obtain⟨ts',mV,m9,y6,y7,y8,rfl,ok',hle,hsu⟩:=hJ;obtain⟨ts2,r2,m2,z7,z8,e2,ok2,hle2,hs2⟩:=G6 (m6:=mV) (m5:=m9) (x7:=y7) (x8:=y8) (x9:=none) (met:=met) h1 h9 ok' (by omega) hi hn;refine⟨_,_,rfl,?_,ts2,r2,m2,aA (i:Int),z7,z8,rfl,ok2,by omega,λh=>by have a1:=hsu h;have a2:=hs2 a1.1;exact⟨a2.1,by omega⟩⟩;have hr:WU [Zh Yp (Za 6) (eC (.int 1)),Za 1] (Ya [4,5] (Vo n most ts' mV m9 (aA (i:Int)) y7 y8 none met))=aA (Ux ((i:Int)+1) (n-(i+1))):=by rw[Ql (i:=(i:Int)+1) (j:=(n:Int)) (by simp[Ya,Vo]) (by simp[Ya,Vo]) ⟨by omega,by omega⟩ ⟨by omega,by omega⟩];congr 2;omega
   show Wt _ _ _ _ (Vo n most ts' mV m9 (aA (i:Int)) y7 y8 none met)=_;rw[Xg,hr];exact e2)
 rw[RD] at hle;exact⟨ts',mV,m9,y6,y7,y8,by rw[h,e],ok',by omega,λh=>by have:=hsu h;omega⟩
def Kw:XS:=(Zk (YF (Vi (xB (Zh (Rr aB) (Za 6) (Za 5))) (xB (Zh (Rr aC) (Za 7) (Za 5)))) (XB 5 (eP (Za 7))) Zs)
  (YF (Vi (xB (Zh (Rr aB) (Za 7) (Za 5))) (xB (Zh (Rr aC) (Za 6) (Za 5)))) (XB 5 (eP (Za 6))) Zs))
structure MetOk(n:Nat)(ts:List Z9)(met:List Int):Prop where
 nd:met.Nodup
 ok:∀m∈met,∃k:Nat,k<n/\m=(k:Int)/\∀P:Nat->Prop,Cl ts P->(P k↔P 0)
theorem MetOk.add{n:Nat}{ts:List Z9}{met:List Int}{a b:Nat}(h:MetOk n ts met)(hab:LD ts a b\/LD ts b a)(hb:b<n)(ha:(a:Int)∈met)(hnb:(b:Int)∉met):MetOk n ts (met++[(b:Int)]):=by
 refine⟨?_,λm hm=>?_⟩
 ·rw[cX];refine⟨h.nd,by simp,λx hx y hy z=>?_⟩;rw[aP.mp hy] at z;exact hnb (z▸hx)
 ·rcases au.mp hm with hm | hm
  ·exact h.ok m hm
  ·refine⟨b,hb,aP.mp hm,λP hP=>?_⟩;obtain⟨k,hk,e,q⟩:=h.ok _ ha;have:a=k:=by omega
   subst this;rcases hab with z | z
   ·exact(hP _ _ z).symm.trans (q P hP)
   ·exact(hP _ _ z).trans (q P hP)
theorem MetOk.hang{n:Nat}{ts:List Z9}{met:List Int}(h:MetOk n ts met)(hl:met.length=n):Hang n ts:=by
 have all:∀P,Cl ts P->∀i,i<n->(P i↔P 0):=λP hP i hi=>by
  have hm:=Zai h.nd (λx hx=>by obtain⟨k,hk,e,_⟩:=h.ok x hx;exact⟨k,hk,e⟩) hl hi;obtain⟨k,hk,e,q⟩:=h.ok _ hm;have:i=k:=by omega
  subst this;exact q P hP
 exact λP hP i j hi hj=>(all P hP i hi).trans (all P hP j hj).symm
theorem Lh{n:Nat}{most:Int}{ts:List Z9}{m6 m5:Int}{a b:Int}{x8 x9:Option Int}{met:List Int}(hl:met.length<=5000)(f g:Nat)(va vb:Int)(hf:∀met,(Vo n most ts m6 m5 (aA a) (aA b) x8 x9 met)[f]?=aA (aA (.int va)))(hg:∀met,(Vo n most ts m6 m5 (aA a) (aA b) x8 x9 met)[g]?=aA (aA (.int vb))) :
  ∃met',YF (Vi (xB (Zh (Rr aB) (Za f) (Za 5))) (xB (Zh (Rr aC) (Za g) (Za 5)))) (XB 5 (eP (Za g))) Zs (Vo n most ts m6 m5 (aA a) (aA b) x8 x9 met)=aA (.nx (Vo n most ts m6 m5 (aA a) (aA b) x8 x9 met'))/\met'.length<=met.length+1/\(met'=met\/(va∈met/\vb∉met/\met'=met++[vb])):=by
 have h5:(Vo n most ts m6 m5 (aA a) (aA b) x8 x9 met)[5]?=aA (aA (.lst (iL met))):=rfl
 have t:Vi (xB (Zh (Rr aB) (Za f) (Za 5))) (xB (Zh (Rr aC) (Za g) (Za 5))) (Vo n most ts m6 m5 (aA a) (aA b) x8 x9 met)=aA (decide (va∈met)&&!decide (vb∈met)):=by
  simp only[UK,Yq,ZH,YQ,hf,hg,h5,gi,aD,G5,UZ];by_cases h:va∈met<;>simp[h]
 rw[Zu,t];simp only[aD];split
 ·rename_i hc;refine⟨met++[vb],?_,by simp,.inr ⟨by simp at hc;exact hc.1,by simp at hc;exact hc.2,rfl⟩⟩;rw[SW (l:=.int vb) (m:=iL met) (by simp only[Wa,YQ,hg,gi,aD,Iw,if_true]) rfl (by rw[aN];omega)];simp[Vo]
 ·exact⟨met,rfl,by omega,.inl rfl⟩
theorem Dw{n:Nat}{most:Int}{ts:List Z9}{m6 m5:Int}{a b:Int}{x8 x9:Option Int}{met:List Int}(hl:met.length<=4000) :
  ∃met',Kw (Vo n most ts m6 m5 (aA a) (aA b) x8 x9 met)=aA (.nx (Vo n most ts m6 m5 (aA a) (aA b) x8 x9 met'))/\met'.length<=met.length+2/\(∀a' b':Nat,a=a'->b=b'->LD ts a' b'->a'<n->b'<n->MetOk n ts met->MetOk n ts met'):=by
 obtain⟨m1,e1,l1,o1⟩:=Lh (n:=n) (most:=most) (ts:=ts) (m6:=m6) (m5:=m5) (a:=a) (b:=b) (x8:=x8) (x9:=x9) (met:=met) (by omega) 6 7 a b (λ_=>rfl) (λ_=>rfl);obtain⟨m2,e2,l2,o2⟩:=Lh (n:=n) (most:=most) (ts:=ts) (m6:=m6) (m5:=m5) (a:=a) (b:=b) (x8:=x8) (x9:=x9) (met:=m1) (by omega) 7 6 b a (λ_=>rfl) (λ_=>rfl);refine⟨m2,?_,by omega,λa' b' ha hb hab han hbn mk=>?_⟩;rotate_left
 ·subst ha hb
  have k1:MetOk n ts m1:=by
   rcases o1 with rfl | ⟨u,v,rfl⟩
   ·exact mk
   ·exact mk.add (.inl hab) hbn u v
  rcases o2 with rfl | ⟨u,v,rfl⟩
  ·exact k1
  ·exact k1.add (.inr hab) han u v
 unfold Kw;rw[ZI,e1];exact e2
theorem Hh{n:Nat}{most:Int}{ts:List Z9}{m6 m5:Int}{x6 x7 x8 x9:Option Int}{met:List Int}:SU [4,5] (.nx (Vo n most ts m6 m5 x6 x7 x8 x9 met)) = .nx (Vo n most ts m6 m5 x6 x7 x8 x9 met):=by cases x6<;>cases x7<;>cases x8<;>cases x9<;>rfl
theorem G8{n:Nat}{most:Int}{ts:List Z9}{m6 m5:Int}{x6 x7 x8 x9:Option Int}{met:List Int}(hl:met.length<=2000)(ht:ts.length<=49)(ok:DictOk n ts)(mk:MetOk n ts met) :
  ∃y6 y7 met',Vl [4,5] 4 (.many [6,7]) Kw (Vo n most ts m6 m5 x6 x7 x8 x9 met)=aA (.nx (Vo n most ts m6 m5 y6 y7 x8 x9 met'))/\met'.length<=met.length+98/\MetOk n ts met':=by
 obtain⟨s',h,y6,y7,met',e,hle,mk'⟩:=Yz (T:=.many [6,7]) (fb:=Kw) (ls:=ts.map λe=>.tup [.int (e.1:Int),.int (e.2.1:Int)]) (s:=Vo n most ts m6 m5 x6 x7 x8 x9 met)
  (λj st=>∃y6 y7 met',st=Vo n most ts m6 m5 y6 y7 x8 x9 met'/\met'.length<=met.length+2*j/\MetOk n ts met') ⟨x6,x7,met,rfl,by omega,mk⟩ (λj l st hl' hJ=>by
   obtain⟨y6,y7,met',rfl,hle,mk'⟩:=hJ;rw[aS] at hl'
   cases he:ts[j]? with
   | none=>rw[he] at hl';cases hl'
   | some e=>
    rw[he] at hl';cases hl';have hj:=(aL.mp he).1;have hmem:=b7 he;have hoe:=ok.ok e hmem;obtain⟨m2,e2,l2,o2⟩:=Dw (n:=n) (most:=most) (ts:=ts) (m6:=m6) (m5:=m5) (a:=(e.1:Int)) (b:=(e.2.1:Int)) (x8:=x8) (x9:=x9) (met:=met') (by omega);exact⟨_,_,rfl,e2,aA (e.1:Int),aA (e.2.1:Int),m2,rfl,by omega,o2 e.1 e.2.1 rfl rfl ⟨e.2.2,hmem⟩ (by omega) (by omega) mk'⟩)
 rw[aN] at hle;refine⟨y6,y7,met',?_,by omega,mk'⟩;unfold Vl;show((QD (dP ts)).bind λls=>(We _ _ ls _).map (SU [4,5]))=_;rw[RU];simp only[aD];rw[h,e,av,Hh]
theorem Dx{n:Nat}{most:Int}{ts:List Z9}{m6 m5:Int}{x6 x7 x8:Option Int}(ht:ts.length<=49)(hn:n<=7)(ok:DictOk n ts)(hn1:1<=n) :
  ∃y6 y7 y9 met',We (.one 9) (Vl [4,5] 4 (.many [6,7]) Kw) (Xs n) (Vo n most ts m6 m5 x6 x7 x8 none [0])=aA (.nx (Vo n most ts m6 m5 y6 y7 x8 y9 met'))/\MetOk n ts met':=by
 obtain⟨s',h,y6,y7,y9,met',e,hle,mk⟩:=Yz (T:=.one 9) (fb:=Vl [4,5] 4 (.many [6,7]) Kw) (ls:=Xs n) (s:=Vo n most ts m6 m5 x6 x7 x8 none [0])
  (λi st=>∃y6 y7 y9 met',st=Vo n most ts m6 m5 y6 y7 x8 y9 met'/\met'.length<=1+98*i/\MetOk n ts met') ⟨x6,x7,none,[0],rfl,by simp,⟨by simp,λm hm=>⟨0,by omega,aP.mp hm,λP _=>Iff.rfl⟩⟩⟩ (λi l st hl' hJ=>by
   obtain⟨hi,rfl⟩:=VV hl';obtain⟨y6,y7,y9,met',rfl,hle,mk⟩:=hJ;obtain⟨z6,z7,m2,e2,l2,mk2⟩:=G8 (n:=n) (most:=most) (ts:=ts) (m6:=m6) (m5:=m5) (x6:=y6) (x7:=y7) (x8:=x8) (x9:=aA (i:Int)) (met:=met') (by omega) ht ok mk;exact⟨_,_,rfl,e2,z6,z7,aA (i:Int),m2,rfl,by omega,mk2⟩)
 exact⟨y6,y7,y9,met',by rw[h,e],mk⟩
theorem Oe{n:Nat}{most m6 m5:Int}(h1:1<=most)(h9:most<=9)(hn:n<=7)(hn1:1<=n):∃r,Y0 [.int m6,.int (n:Int),.int m5,.int most]=aA r/\(r = .non\/∃ts,r=dP ts/\DictOk n ts/\ts.length<=49/\Hang n ts/\(0<=m5->Vn ts<=m5)):=by
 obtain⟨ts,mV,m9,y6,y7,y8,e1,ok,hle,hsu⟩:=G7 (n:=n) (m6:=m6) (m5:=m5) (met:=[0]) h1 h9 hn;obtain⟨z6,z7,z9,met,e2,mk⟩:=Dx (n:=n) (most:=most) (ts:=ts) (m6:=mV) (m5:=m9) (x6:=y6) (x7:=y7) (x8:=y8) hle hn ok hn1;refine⟨if met.length=n then dP ts else .non,?_,?_⟩
 ·show WC 10 WO [.int m6,.int (n:Int),.int m5,.int most]=_;have r1:YG [Za 1] (Ya [4,5] (Vo n most [] m6 m5 none none none none [0]))=aA (Xs n):=Xh (by simp[Ya,Vo]) (by omega);have r2:YG [Za 1] (Ya [4,5] (Vo n most ts mV m9 y6 y7 y8 none [0]))=aA (Xs n):=Xh (by simp[Ya,Vo]) (by omega);unfold WO;simp only[WC,YT,aW,dZ,bK,fK,ZI,Zv];show((Wt [4,5] (YG [Za 1]) (.one 6) (Wt [4,5] (WU [Zh Yp (Za 6) (eC (.int 1)),Za 1]) (.one 7) Cp) (Vo n most [] m6 m5 none none none none [0])).bind _).bind Xv=_;rw[Xg,r1];simp only[aD];rw[e1];simp only[aD];show((Wt [4,5] (YG [Za 1]) (.one 9) (Vl [4,5] 4 (.many [6,7]) Kw) (Vo n most ts mV m9 y6 y7 y8 none [0])).bind _).bind Xv=_;rw[Xg,r2];simp only[aD];rw[e2];simp only[aD];unfold NR;by_cases h:met.length=n
  ·simp[Vo,h]
  ·have h':¬((met.length:Int)=(n:Int)):=by omega
   simp[Vo,h,h']
 ·by_cases h:met.length=n
  ·rw[mZ h];exact .inr ⟨ts,rfl,ok,hle,mk.hang h,hsu⟩
  ·rw[ma h];exact .inl rfl
theorem OK{n:Nat}{most m6 m5:Int}(h1:1<=most)(h9:most<=9)(hn:n<=7)(hn1:1<=n):∃r,Y0 [.int m6,.int (n:Int),.int m5,.int most]=aA r/\(r = .non\/∃ts,r=dP ts/\DictOk n ts/\ts.length<=49/\Hang n ts):=by obtain⟨r,h2,h3⟩:=Oe (m6:=m6) (m5:=m5) h1 h9 hn hn1;exact⟨r,h2,h3.imp_right λ⟨ts,a,b,c,d,_⟩=>⟨ts,a,b,c,d⟩⟩
theorem Zb3(c:Int):∃v:Int,1<=v/\v<=9/\Vv [PV.int 1,PV.int 1,PV.int 1,PV.int 2,PV.int 3,PV.int 9] (c%6)=aA (.int v):=by
 have h:c%6=0\/c%6=1\/c%6=2\/c%6=3\/c%6=4\/c%6=5:=by omega
 rcases h with h | h | h | h | h | h<;>rw[h]
 ·exact⟨1,by decide,by decide,rfl⟩
 ·exact⟨1,by decide,by decide,rfl⟩
 ·exact⟨1,by decide,by decide,rfl⟩
 ·exact⟨2,by decide,by decide,rfl⟩
 ·exact⟨3,by decide,by decide,rfl⟩
 ·exact⟨9,by decide,by decide,rfl⟩
theorem Zb4(c:Int):∃v:Int,0<=v/\v<=9/\Vv [PV.int 0,PV.int 0,PV.int 0,PV.int 1,PV.int 1,PV.int 2,PV.int 4,PV.int 9] (c%8)=aA (.int v):=by
 have h:c%8=0\/c%8=1\/c%8=2\/c%8=3\/c%8=4\/c%8=5\/c%8=6\/c%8=7:=by omega
 rcases h with h | h | h | h | h | h | h | h<;>rw[h]
 ·exact⟨0,by decide,by decide,rfl⟩
 ·exact⟨0,by decide,by decide,rfl⟩
 ·exact⟨0,by decide,by decide,rfl⟩
 ·exact⟨1,by decide,by decide,rfl⟩
 ·exact⟨1,by decide,by decide,rfl⟩
 ·exact⟨2,by decide,by decide,rfl⟩
 ·exact⟨4,by decide,by decide,rfl⟩
 ·exact⟨9,by decide,by decide,rfl⟩
theorem BV(ts:List Z9)(a b:Int):∃c,Aa (dP ts) (.tup [.int a,.int b])=aA c:=⟨_,rfl⟩
def WR(ns:List Int)(XW n:Nat)(first:Int)(ts:List Z9)(m5:Int)(x6 x7 x8 x9 x10 x11:Option Int):ZS:=
 [aA (.cst (iL ns)),aA (.int (XW:Int)),aA (.int (n:Int)),aA (.int first),aA (dP ts),aA (.int m5),x6.map PV.int,x7.map PV.int,x8.map PV.int,x9.map PV.int,x10.map PV.int,x11.map PV.int]
def bT1:XS:=(Zk (Zl 7 (Ze Zw [Za 0,Zh Yp (Za 1) (Za 6)]))
  (Zk (Zl 8 (eP (Ze Te [Zh ZK (YO [eC (.int 1),eC (.int 1),eC (.int 1),eC (.int 2),eC (.int 3),eC (.int 9)]) (Zh YS (Zh X8 (Za 7) (Za 6)) (eC (.int 6))),Zh Su (Za 5) (Zh Su (Zh Su (Za 2) (eC (.int 1))) (Za 6))])))
  (Zk (VL.sDPut 4 (Yf [Zh YS (Za 7) (Za 6),Za 6]) (Za 8))
  (Zl 5 (eP (Zh Su (Za 5) (Za 8)))))))
theorem Zak{f g h k:XS}{s s1 s2 s3:ZS}(e1:f s=aA (.nx s1))(e2:g s1=aA (.nx s2))(e3:h s2=aA (.nx s3)):Zk f (Zk g (Zk h k)) s=k s3:=by simp only[ZI,e1,e2,e3,aD]
theorem ZE{f g:XS}{s s1:ZS}(e1:f s=aA (.nx s1)):Zk f g s=g s1:=by simp only[ZI,e1,aD]
theorem BW{ns:List Int}{XW n:Nat}{first:Int}{ts:List Z9}{m5:Int}{x7 x8 x9 x10 x11:Option Int}{h:Nat}(hns:ns.length<=63)(ok:DictOk n ts)(hl:ts.length<=1000)(h1:1<=h)(hh:h<n)(hn:n<=7)(hr:(n:Int)-(h:Int)<=m5) :
  ∃ts' m9 y7 y8,bT1 (WR ns XW n first ts m5 (aA (h:Int)) x7 x8 x9 x10 x11)=aA (.nx (WR ns XW n first ts' m9 (aA (h:Int)) (aA y7) (aA y8) x9 x10 x11))/\DictOk n ts'/\ts'.length<=ts.length+1/\(n:Int)-((h:Int)+1)<=m9/\Ext ts ts'/\∃c,c<h/\LD ts' c h:=by
 generalize hc:Xn ns (XW+h)=c
 have e1:Zl 7 (Ze Zw [Za 0,Zh Yp (Za 1) (Za 6)]) (WR ns XW n first ts m5 (aA (h:Int)) x7 x8 x9 x10 x11)=aA (.nx (WR ns XW n first ts m5 (aA (h:Int)) (aA c) x8 x9 x10 x11)):=by
  have z:(XW:Int)+(h:Int)=((XW+h:Nat):Int):=by omega
  have q:=Ur hns (XW+h);rw[hc] at q;have q:Zw [PV.cst (ns.map PV.int),PV.int ((XW:Int)+(h:Int))]=aA (PV.int c):=by rw[z];exact q
  simp[WR,q]
 obtain⟨v,v1,v9,ev⟩:=Zb3 (c/(h:Int));have cd:R4 c (h:Int):=Qm (by omega) (by omega);have hp:(0:Int)<(h:Int):=by omega
 generalize hd:(if m5-((n:Int)-1-(h:Int))<v then m5-((n:Int)-1-(h:Int)) else v)=dp;have d1:1<=dp:=by rw[<-hd];split<;>omega
 have d9:dp<=9:=by rw[<-hd];split<;>omega
 have dr:dp<=m5-((n:Int)-1-(h:Int)):=by rw[<-hd];split<;>omega
 have e2:Zl 8 (eP (Ze Te [Zh ZK (YO [eC (.int 1),eC (.int 1),eC (.int 1),eC (.int 2),eC (.int 3),eC (.int 9)]) (Zh YS (Zh X8 (Za 7) (Za 6)) (eC (.int 6))),Zh Su (Za 5) (Zh Su (Zh Su (Za 2) (eC (.int 1))) (Za 6))])) (WR ns XW n first ts m5 (aA (h:Int)) (aA c) x8 x9 x10 x11)=aA (.nx (WR ns XW n first ts m5 (aA (h:Int)) (aA c) (aA dp) x9 x10 x11)):=by simp[WR,cd,ev,hd]
 have m0:=h8 c (show(h:Int)≠0 by omega);have m1:=gR c hp;obtain⟨ts2,pe,ok2,hle2,hh2,hx2⟩:=JH (a:=(c%(h:Int)).toNat) (b:=h) (t:=dp) ok (by omega) hh d1 d9 (by omega);have hcast:(((c%(h:Int)).toNat:Nat):Int)=c%(h:Int):=by omega
 rw[hcast] at pe;have e3:VL.sDPut 4 (Yf [Zh YS (Za 7) (Za 6),Za 6]) (Za 8) (WR ns XW n first ts m5 (aA (h:Int)) (aA c) (aA dp) x9 x10 x11)=aA (.nx (WR ns XW n first ts2 m5 (aA (h:Int)) (aA c) (aA dp) x9 x10 x11)):=by rw[T1 (v:=.int dp) (k:=.tup [.int (c%(h:Int)),.int (h:Int)]) (d:=dP ts) rfl (by simp[WR,show 0<h by omega]) rfl pe];rfl
 refine⟨ts2,m5-dp,c,dp,?_,ok2,hle2,by omega,hx2,(c%(h:Int)).toNat,by omega,hh2⟩;unfold bT1;rw[Zak e1 e2 e3];simp[WR]
def Ad:XS:=(Zk (Zl 8 (eP (Zh ZK (YO [eC (.int 0),eC (.int 0),eC (.int 0),eC (.int 1),eC (.int 1),eC (.int 2),eC (.int 4),eC (.int 9)]) (Zh YS (Ze Zw [Za 0,Za 9]) (eC (.int 8))))))
  (Zk (Zl 9 (eP (Zh Yp (Za 9) (eC (.int 1)))))
  (YF (Vi (xB (Qj aC (Yf [Za 10,Za 11]) (Za 4))) (xB (Tf Wb Sz (eC (.int 0)) (Za 8) (Za 5)))) (Zk (VL.sDPut 4 (Yf [Za 10,Za 11]) (Za 8))
  (Zl 5 (eP (Zh Su (Za 5) (Za 8))))) Zs)))
theorem G9{f g h:XS}{s s1 s2:ZS}(e1:f s=aA (.nx s1))(e2:g s1=aA (.nx s2)):Zk f (Zk g h) s=h s2:=by simp only[ZI,e1,e2,aD]
theorem BX{ns:List Int}{XW n:Nat}{first:Int}{ts:List Z9}{m5:Int}{x6 x7 x8:Option Int}{k a b:Nat}(hns:ns.length<=63)(ok:DictOk n ts)(hl:ts.length<=1000)(hab:a<b)(hb:b<n) :
  ∃ts' m9 y8,Ad (WR ns XW n first ts m5 x6 x7 x8 (aA (k:Int)) (aA (a:Int)) (aA (b:Int)))=aA (.nx (WR ns XW n first ts' m9 x6 x7 (aA y8) (aA ((k+1:Nat):Int)) (aA (a:Int)) (aA (b:Int))))/\DictOk n ts'/\ts'.length<=ts.length+1/\Ext ts ts':=by
 obtain⟨v,v0,v9,ev⟩:=Zb4 (Xn ns k);have e1:Zl 8 (eP (Zh ZK (YO [eC (.int 0),eC (.int 0),eC (.int 0),eC (.int 1),eC (.int 1),eC (.int 2),eC (.int 4),eC (.int 9)]) (Zh YS (Ze Zw [Za 0,Za 9]) (eC (.int 8))))) (WR ns XW n first ts m5 x6 x7 x8 (aA (k:Int)) (aA (a:Int)) (aA (b:Int)))=aA (.nx (WR ns XW n first ts m5 x6 x7 (aA v) (aA (k:Int)) (aA (a:Int)) (aA (b:Int)))):=by have q:Zw [PV.cst (ns.map PV.int),PV.int (k:Int)]=aA (PV.int (Xn ns k)):=Ur hns k;simp[WR,q,ev]
 have e2:Zl 9 (eP (Zh Yp (Za 9) (eC (.int 1)))) (WR ns XW n first ts m5 x6 x7 (aA v) (aA (k:Int)) (aA (a:Int)) (aA (b:Int)))=aA (.nx (WR ns XW n first ts m5 x6 x7 (aA v) (aA ((k+1:Nat):Int)) (aA (a:Int)) (aA (b:Int)))):=by simp[WR]
 obtain⟨cc,ec⟩:=BV ts (a:Int) (b:Int);unfold Ad;rw[G9 e1 e2]
 have tst:∃q:Bool,Vi (xB (Qj aC (Yf [Za 10,Za 11]) (Za 4))) (xB (Tf Wb Sz (eC (.int 0)) (Za 8) (Za 5))) (WR ns XW n first ts m5 x6 x7 (aA v) (aA ((k+1:Nat):Int)) (aA (a:Int)) (aA (b:Int)))=aA q/\(q=aC->0<v):=by
  have t1:xB (Qj aC (Yf [Za 10,Za 11]) (Za 4)) (WR ns XW n first ts m5 x6 x7 (aA v) (aA ((k+1:Nat):Int)) (aA (a:Int)) (aA (b:Int)))=aA !cc:=by simp[WR,Qj,ec]
  have t2:xB (Tf Wb Sz (eC (.int 0)) (Za 8) (Za 5)) (WR ns XW n first ts m5 x6 x7 (aA v) (aA ((k+1:Nat):Int)) (aA (a:Int)) (aA (b:Int)))=aA (decide (0<v)&&decide (v<=m5)):=by
   by_cases hv:0<v
   ·simp[WR,Tf,hv]
   ·simp[WR,Tf,hv]
  rw[UK,t1,t2]
  cases cc with
  | true=>exact⟨aB,rfl,λz=>by cases z⟩
  | false=>exact⟨_,rfl,λz=>by
    rw[bE] at z;exact of_decide_eq_true z.1⟩
 obtain⟨q,eq,hq⟩:=tst;rw[Zu,eq];simp only[aD]
 cases q with
 | false=>exact⟨ts,m5,v,rfl,ok,by omega,Ext.refl ts⟩
 | true=>
  have hv:=hq rfl;obtain⟨ts2,pe,ok2,hle2,_,hx2⟩:=JH (t:=v) ok hab hb (by omega) v9 (by omega);refine⟨ts2,m5-v,v,?_,ok2,hle2,hx2⟩;rw[mZ rfl];have e3:VL.sDPut 4 (Yf [Za 10,Za 11]) (Za 8) (WR ns XW n first ts m5 x6 x7 (aA v) (aA ((k+1:Nat):Int)) (aA (a:Int)) (aA (b:Int)))=aA (.nx (WR ns XW n first ts2 m5 x6 x7 (aA v) (aA ((k+1:Nat):Int)) (aA (a:Int)) (aA (b:Int)))):=by rw[T1 (v:=.int v) (k:=.tup [.int (a:Int),.int (b:Int)]) (d:=dP ts) rfl (by simp[WR]) rfl pe];rfl
  rw[ZE e3];simp[WR]
theorem Fb{ns:List Int}{XW n:Nat}(hns:ns.length<=63)(h1:1<=n)(hn:n<=7):∃ts,WZ [.cst (iL ns),.int (XW:Int),.int (n:Int)]=aA (dP ts)/\DictOk n ts/\Hang n ts:=by
 generalize hf:Xn ns XW=first
 have hcell:Zw [PV.cst (ns.map PV.int),PV.int (XW:Int)]=aA (PV.int first):=by rw[<-hf];exact Ur hns XW
 obtain⟨r,er,alt⟩:=OK (n:=n) (most:=9) (m6:=first/2) (m5:=30) (by omega) (by omega) hn h1;have cd2:R4 first 2:=Qm (by omega) (by omega)
 -- the first test
 have hstart:Zl 3 (Ze Zw [Za 0,Za 1]) [aA (.cst (iL ns)),aA (.int (XW:Int)),aA (.int (n:Int)),none,none,none,none,none,none,none,none,none]=aA (.nx [aA (.cst (iL ns)),aA (.int (XW:Int)),aA (.int (n:Int)),aA (.int first),none,none,none,none,none,none,none,none]):=by simp[hcell]
 have htest:Vi (xB (Zh (YJ aB) (Zh YS (Za 3) (eC (.int 2))) (eC (.int 1)))) (xB (Vc aC (Ze Y0 [Zh X8 (Za 3) (eC (.int 2)),Za 2,eC (.int 30),eC (.int 9)]))) [aA (.cst (iL ns)),aA (.int (XW:Int)),aA (.int (n:Int)),aA (.int first),none,none,none,none,none,none,none,none]=aA (decide (first%2=1)&&!Qf r):=by
  have eb:Bm aC r=aA (.bl (!Qf r)):=by cases r<;>rfl
  by_cases h:first%2=1
  ·simp[h,cd2,er,eb]
  ·simp[h]
 show ∃ts,WC 12 Sg [.cst (iL ns),.int (XW:Int),.int (n:Int)]=aA (dP ts)/\DictOk n ts/\Hang n ts;unfold Sg;simp only[WC,YT,aW,dZ,bK,fK];show ∃ts,(Zk (Zl 3 (Ze Zw [Za 0,Za 1])) _ [aA (.cst (iL ns)),aA (.int (XW:Int)),aA (.int (n:Int)),none,none,none,none,none,none,none,none,none]).bind Xv=aA (dP ts)/\DictOk n ts/\Hang n ts;rw[ZE hstart,ZI,Zu,htest];simp only[aD];by_cases hc:(decide (first%2=1)&&!Qf r)=aC
 ·rw[mZ hc];rw[bE] at hc;rcases alt with rfl | ⟨ts,rfl,ok,_,hg⟩
  ·exact absurd hc.2 (by decide)
  ·exact⟨ts,by simp[cd2,er],ok,hg⟩
 ·rw[ma hc];simp only[Iv,aD]
  -- the dict,the m5
  have e45:∀g:XS,Zk (Zl 4 (eC (.dT [] []))) (Zk (Zl 5 (eP (eC (.int 30)))) g) [aA (.cst (iL ns)),aA (.int (XW:Int)),aA (.int (n:Int)),aA (.int first),none,none,none,none,none,none,none,none]=g (WR ns XW n first [] 30 none none none none none none):=λg=>by rw[G9 (s1:=[aA (.cst (iL ns)),aA (.int (XW:Int)),aA (.int (n:Int)),aA (.int first),aA (dP []),none,none,none,none,none,none,none]) (s2:=WR ns XW n first [] 30 none none none none none none) (by simp;rfl) (by simp[WR])]
  rw[e45]
  -- the first loop
  obtain⟨s1,l1,ts1,room1,y6,y7,y8,es1,ok1,hle1,_,tree⟩:=Yz (T:=.one 6) (fb:=bT1) (ls:=Ux 1 (n-1)) (s:=WR ns XW n first [] 30 none none none none none none)
   (λi st=>∃ts m5 y6 y7 y8,st=WR ns XW n first ts m5 y6 y7 y8 none none none/\DictOk n ts/\ts.length<=i/\(n:Int)-((i:Int)+1)<=m5/\∀h,1<=h->h<=i->∃c,c<h/\LD ts c h) ⟨[],30,none,none,none,rfl,DictOk.nil n,ar _,by omega,λh h1 h2=>by omega⟩ (λi l st hl' hJ=>by
    obtain⟨hi,rfl⟩:=PK hl';obtain⟨ts,m5,y6,y7,y8,rfl,ok,hle,hroom,tree⟩:=hJ;have z:(1:Int)+(i:Int)=((i+1:Nat):Int):=by omega
    rw[z];obtain⟨ts2,room2,z7,z8,e2,ok2,hle2,hr2,hx2,hc2⟩:=BW (XW:=XW) (first:=first) (m5:=m5) (x7:=y7) (x8:=y8) (x9:=none) (x10:=none) (x11:=none) (h:=i+1) hns ok (by omega) (by omega) (by omega) hn (by omega)
    exact⟨_,_,rfl,e2,ts2,room2,aA ((i+1:Nat):Int),aA z7,aA z8,rfl,ok2,by omega,by omega,λh h1 h2=>by
     by_cases q:h<=i
     ·obtain⟨c,a,b⟩:=tree h h1 q;exact⟨c,a,hx2 _ _ b⟩
     ·have:h=i+1:=by omega
      subst this;exact hc2⟩)
  rw[PL] at hle1 tree;have r1:WU [eC (.int 1),Za 2] (Ya [4] (WR ns XW n first [] 30 none none none none none none))=aA (Ux 1 (n-1)):=by rw[Ql (i:=1) (j:=(n:Int)) rfl (by simp[Ya,WR]) ⟨by omega,by omega⟩ ⟨by omega,by omega⟩];congr 2;omega
  have f1:Wt [4] (WU [eC (.int 1),Za 2]) (.one 6) bT1 (WR ns XW n first [] 30 none none none none none none)=aA (.nx (WR ns XW n first ts1 room1 y6 y7 y8 none none none)):=by rw[Xg,r1];exact l1.trans (by rw[es1])
  have e9:Zl 9 (eP (Zh Yp (Za 1) (eC (.int 7)))) (WR ns XW n first ts1 room1 y6 y7 y8 none none none)=aA (.nx (WR ns XW n first ts1 room1 y6 y7 y8 (aA ((XW+7:Nat):Int)) none none)):=by simp[WR]
  -- the second loops
  have inner:∀(a:Nat)(ts:List Z9)(m5:Int)(x8:Option Int)(k:Nat)(x11:Option Int),a<n->DictOk n ts->ts.length<=500->∃ts' m9 y8 k' y11,We (.one 11) Ad (Ux ((a:Int)+1) (n-(a+1))) (WR ns XW n first ts m5 y6 y7 x8 (aA (k:Int)) (aA (a:Int)) x11)=aA (.nx (WR ns XW n first ts' m9 y6 y7 y8 (aA ((k':Nat):Int)) (aA (a:Int)) y11))/\DictOk n ts'/\ts'.length<=ts.length+7/\Ext ts ts':=by
   intro a ts m5 x8 k x11 ha ok hl
   obtain⟨s',h,ts',m9,z8,k',z11,e,ok',hle,hx⟩:=Yz (T:=.one 11) (fb:=Ad) (ls:=Ux ((a:Int)+1) (n-(a+1))) (s:=WR ns XW n first ts m5 y6 y7 x8 (aA (k:Int)) (aA (a:Int)) x11)
    (λj st=>∃ts' m9 z8 k' z11,st=WR ns XW n first ts' m9 y6 y7 z8 (aA ((k':Nat):Int)) (aA (a:Int)) z11/\DictOk n ts'/\ts'.length<=ts.length+j/\Ext ts ts') ⟨ts,m5,x8,k,x11,rfl,ok,by omega,Ext.refl ts⟩ (λj l st hl' hJ=>by
     obtain⟨hj,rfl⟩:=PK hl';obtain⟨ts',m9,z8,k',z11,rfl,ok',hle,hx⟩:=hJ;have z:(a:Int)+1+(j:Int)=((a+1+j:Nat):Int):=by omega
     rw[z];obtain⟨ts2,room2,w8,e2,ok2,hle2,hx2⟩:=BX (XW:=XW) (first:=first) (m5:=m9) (x6:=y6) (x7:=y7) (x8:=z8) (k:=k') hns ok' (by omega) (show a<a+1+j by omega) (by omega);exact⟨_,_,rfl,e2,ts2,room2,aA w8,k'+1,aA ((a+1+j:Nat):Int),rfl,ok2,by omega,hx.trans hx2⟩)
   rw[PL] at hle;exact⟨ts',m9,z8,k',z11,by rw[h,e],ok',by omega,hx⟩
  obtain⟨s2,l2,ts2,room2,w8,w9,w10,w11,es2,ok2,hle2,hx2⟩:=Yz (T:=.one 10) (fb:=Wt [4] (WU [Zh Yp (Za 10) (eC (.int 1)),Za 2]) (.one 11) Ad) (ls:=Xs n) (s:=WR ns XW n first ts1 room1 y6 y7 y8 (aA ((XW+7:Nat):Int)) none none)
   (λi st=>∃ts m5 w8 k w10 w11,st=WR ns XW n first ts m5 y6 y7 w8 (aA ((k:Nat):Int)) w10 w11/\DictOk n ts/\ts.length<=7+7*i/\Ext ts1 ts) ⟨ts1,room1,y8,XW+7,none,none,rfl,ok1,by omega,Ext.refl ts1⟩ (λi l st hl' hJ=>by
    obtain⟨hi,rfl⟩:=VV hl';obtain⟨ts,m5,w8,k,w10,w11,rfl,ok,hle,hx⟩:=hJ;obtain⟨ts',m9,z8,k',z11,e2,ok',hle',hx'⟩:=inner i ts m5 w8 k w11 hi ok (by omega);refine⟨_,_,rfl,?_,ts',m9,z8,k',aA (i:Int),z11,rfl,ok',by omega,hx.trans hx'⟩;have hr:WU [Zh Yp (Za 10) (eC (.int 1)),Za 2] (Ya [4] (WR ns XW n first ts m5 y6 y7 w8 (aA (k:Int)) (aA (i:Int)) w11))=aA (Ux ((i:Int)+1) (n-(i+1))):=by rw[Ql (i:=(i:Int)+1) (j:=(n:Int)) (by simp[Ya,WR]) (by simp[Ya,WR]) ⟨by omega,by omega⟩ ⟨by omega,by omega⟩];congr 2;omega
    show Wt _ _ _ _ (WR ns XW n first ts m5 y6 y7 w8 (aA (k:Int)) (aA (i:Int)) w11)=_;rw[Xg,hr];exact e2)
  rw[RD] at hle2;have r2:YG [Za 2] (Ya [4] (WR ns XW n first ts1 room1 y6 y7 y8 (aA ((XW+7:Nat):Int)) none none))=aA (Xs n):=Xh (by simp[Ya,WR]) (by omega);have f2:Wt [4] (YG [Za 2]) (.one 10) (Wt [4] (WU [Zh Yp (Za 10) (eC (.int 1)),Za 2]) (.one 11) Ad) (WR ns XW n first ts1 room1 y6 y7 y8 (aA ((XW+7:Nat):Int)) none none)=aA (.nx (WR ns XW n first ts2 room2 y6 y7 w8 (aA ((w9:Nat):Int)) w10 w11)):=by rw[Xg,r2];exact l2.trans (by rw[es2])
  have hg:Hang n ts2:=by
   have all:∀P,Cl ts2 P->∀i,i<n->(P i↔P 0):=by
    intro P hP i
    induction i using Nat.strongRecOn with
    | _ i ih=>
     intro hi;by_cases h0:i=0
     ·subst h0;exact Iff.rfl
     ·obtain⟨c,hc,hb⟩:=tree i (by omega) (by omega);exact(hP _ _ (hx2 _ _ hb)).symm.trans (ih c hc (by omega))
   exact λP hP i j hi hj=>(all P hP i hi).trans (all P hP j hj).symm
  obtain⟨ts',eR,okR,_,hgR⟩:=Kv ok2 hn (by omega) (first/7);have cd7:R4 first 7:=Qm (by omega) (by omega)
  refine⟨ts',?_,okR,hgR hg⟩;refine Eq.trans (congrArg (λo=>eK o Xv) (Zak (f:=Wt [4] (WU [eC (.int 1),Za 2]) (.one 6) bT1) f1 e9 f2)) ?_;simp[WR,hcell,cd7,eR]
theorem Fc(n:Nat)(c:Int):(aJ n [PV.int c]).flatten=iL (aJ n c):=by
 induction n with
 | zero=>rfl
 | succ n ih=>rw[cC,dJ,ih,cC];rfl
end PW
namespace VL
open PySem
def Zy(x:aR):List Nat:=x.cps.toList
theorem RV{x y:aR}(h:Zy x=Zy y):x=y:=by cases x;cases y;unfold Zy at h;simp only at h;rw[aR.mk.injEq];exact Array.toList_inj.mp h
theorem Mb(x y:aR):Zy (x++y)=Zy x++Zy y:=by show(x.cps++y.cps).toList=_;rw[Array.toList_append];rfl
theorem RW{c:Nat}:∀{x y u v:List Nat},c∉x->c∉y->x++c::u=y++c::v->x=y/\u=v
 | [],[],u,v,_,_,h=>⟨rfl,by simpa using h⟩
 | [],b::y,u,v,_,hy,h=>by simp only[gO,fF,fM] at h;exact absurd (by rw[h.1];simp) hy
 | a::x,[],u,v,hx,_,h=>by simp only[gO,fF,fM] at h;exact absurd (by rw[h.1];simp) hx
 | a::x,b::y,u,v,hx,hy,h=>by simp only[fF,fM] at h;obtain⟨e1,e2⟩:=RW (λz=>hx (by simp[z])) (λz=>hy (by simp[z])) h.2;exact⟨by rw[h.1,e1],e2⟩
theorem VJ(c:Nat)(x y:aR)(r:List aR):Zy (iU ⟨#[c]⟩ (x::y::r))=Zy x++c::Zy (iU ⟨#[c]⟩ (y::r)):=by show Zy (x++⟨#[c]⟩++iU ⟨#[c]⟩ (y::r))=_;rw[Mb,Mb,dM];rfl
theorem Li{c:Nat}:∀{ps qs:List aR},ps≠[]->qs≠[]->(∀p∈ps,c∉Zy p)->(∀p∈qs,c∉Zy p)->iU ⟨#[c]⟩ ps=iU ⟨#[c]⟩ qs->ps=qs
 | [],_,h,_,_,_,_=>absurd rfl h
 | _,[],_,h,_,_,_=>absurd rfl h
 | [x],[y],_,_,_,_,h=>by rw[show x=y from h]
 | [x],y::z::r,_,_,hx,_,h=>by
  have e:=congrArg Zy h;rw[VJ] at e;have:c∈Zy x:=by rw[show Zy x=_ from e];simp
  exact absurd this (hx x (by simp))
 | x::z::r,[y],_,_,_,hy,h=>by
  have e:=congrArg Zy h;rw[VJ] at e;have:c∈Zy y:=by rw[show Zy y=_ from e.symm];simp
  exact absurd this (hy y (by simp))
 | x::x2::r,y::y2::q,_,_,hx,hy,h=>by have e:=congrArg Zy h;rw[VJ,VJ] at e;obtain⟨e1,e2⟩:=RW (hx x (by simp)) (hy y (by simp)) e;rw[RV e1,Li (by simp) (by simp) (λp hp=>hx p (by simp[hp])) (λp hp=>hy p (by simp[hp])) (RV e2)]
theorem XD(x:aR):x.length=(Zy x).length:=by show x.cps.size=_;unfold Zy;rw[dw]
def dg(a:Nat):aR:=(toString ((a:Nat):Int):String)
theorem Zal:∀a,a<10->dg a=⟨#[48+a]⟩:=by decide +kernel
theorem Kx{i:Int}(h:i.natAbs<1000):i.natAbs.log2<1920:=by have:i.natAbs.log2<=i.natAbs:=lN _;omega
end VL
namespace PW
open PySem L2 VL VX
theorem vP(h1:f s=aA (.int a)):eP f s=aA (.int a):=by rw[Wa,h1];rfl
theorem Hi{v:PV}(h1:f s=aA v):Yd f s=aA (.rt v):=by rw[Wf,h1];rfl
theorem vI(h1:f s=aA (.int a))(h2:g s=aA (.int b)):Zh (gI op) f g s=aA (.int (op a b)):=by rw[ZH,h1,h2];rfl
structure Small(n:Nat)(x:aR):Prop where
 len:x.length<=n
 asc:∀c∈Zy x,c<128
theorem Small.mono{m n:Nat}{x:aR}(h:Small m x)(hmn:m<=n):Small n x:=⟨bu h.len hmn,h.asc⟩
abbrev ZW(l:List Nat):aR:=⟨l.toArray⟩
theorem Zr(l:List Nat):Zy (ZW l)=l:=by unfold Zy;simp
theorem Small.of{n:Nat}{x:aR}{l:List Nat}(hl:Zy x=l)(h1:l.length<=n)(h2:∀c∈l,c<128):Small n x:=⟨by rw[XD,hl];exact h1,by rw[hl];exact h2⟩
theorem Small.ls{n:Nat}{x:aR}(h:Small n x):(Zy x).length<=n:=by rw[<-XD];exact h.len
theorem Small.sub{n:Nat}{x y:aR}(h:Small n x)(hy:∀c∈Zy y,c∈Zy x)(hl:(Zy y).length<=(Zy x).length):Small n y:=⟨by rw[XD];exact bu hl h.ls,λc hc=>h.asc c (hy c hc)⟩
theorem U9{n:Nat}{x:aR}(h:Small n x)(hn:n<=1000):(jS x).length<=100000:=by
 have:=StrLaws.reprText_len x λc hc=>by
  have:=h.asc c hc;have:(128:Nat)<=16^8:=by decide
  omega
 have:=h.len;omega
theorem Of{x:aR}{l:List Nat}(y:aR)(hy:Zy y=l):decide (x=y)=decide (Zy x=l):=by
 by_cases q:x=y
 ·rw[decide_eq_true q,decide_eq_true (by rw[q,hy])]
 ·rw[decide_eq_false q,decide_eq_false (λz=>q (RV (by rw[z,hy])))]
theorem Og(neg:Bool)(a b:aR):YJ neg (.str a) (.str b)=aA (.bl (if neg then !decide (a=b) else decide (a=b))):=by unfold YJ;rw[mZ (show Wc 8 (.str a) (.str b)=aC from rfl)];have:decide (PV.str a=PV.str b)=decide (a=b):=decide_eq_decide.mpr (by rw[PV.str.injEq]);rw[this]
theorem Oh{x:aR}(h:x.length<=1000):ZR [.str x]=aA (.int ((Zy x).length:Int)):=by
 have:(1000:Nat)<=sizeLine:=by decide
 unfold ZR;simp only;rw[mZ (by omega),XD]
theorem W4{x:aR}(h:x.length<=1000)(lo hi:Option Int):ZU (.str x) lo hi=aA (.str (dH x lo hi)):=by
 have:(1000:Nat)<=sizeLine:=by decide
 unfold ZU;simp only;rw[mZ (by omega)]
theorem JI{x:aR}{k:Nat}(h:k<=(Zy x).length):dH x none (aA (k:Int))=ZW ((Zy x).take k):=by have e:dH x none (aA (k:Int))=ip x none (aA (k:Int)):=rfl;rw[e,StrLaws.sliceText_to ⟨by omega,by show(k:Int)<=((Zy x).length:Int);omega⟩];show ZW (List.take ((k:Int)-0).toNat (Zy x))=_;rw[show((k:Int)-0).toNat=k by omega]
theorem Sn{x:aR}{k:Nat}(h:k<=(Zy x).length):dH x (aA (k:Int)) none=ZW ((Zy x).drop k):=by have e:dH x (aA (k:Int)) none=ip x (aA (k:Int)) none:=rfl;rw[e,StrLaws.sliceText_from ⟨by omega,by show(k:Int)<=((Zy x).length:Int);omega⟩];show ZW _=ZW _;congr 1;show List.take (((Zy x).length:Int)-(k:Int)).toNat (List.drop (k:Int).toNat (Zy x))=_;rw[cK];exact eI (by rw[dD];omega)
theorem Mc{x:aR}{a b:Nat}(hab:a<=b)(hb:b<=(Zy x).length):dH x (aA (a:Int)) (aA (b:Int))=ZW (((Zy x).drop a).take (b-a)):=by have e:dH x (aA (a:Int)) (aA (b:Int))=ip x (aA (a:Int)) (aA (b:Int)):=rfl;rw[e,StrLaws.sliceText_nat x hab (by rw[XD];exact hb)];rfl
theorem at_iff{x:aR}{c i:Nat}:mU x ⟨#[c]⟩ x.length i↔(Zy x)[i]?=aA c:=by
 unfold mU Builtin.Str.subAt;have hl:(⟨#[c]⟩:aR).length=1:=rfl;rw[hl];constructor
 ·rintro⟨h1,h2⟩;have hi:i<x.cps.size:=by have:x.length=x.cps.size:=rfl;omega
  have e:x.cps.extract i (i+1) = #[x.cps[i]]:=by
   apply Array.ext
   ·simp;omega
   ·intro k h1 h2;have:k=0:=by simp at h2;exact h2
    subst this;simp
  rw[e] at h2;have:x.cps[i]=c:=by simpa using h2
  unfold Zy;rw[jt,iY hi,this]
 ·intro h;unfold Zy at h;rw[jt] at h;obtain⟨hi,hc⟩:=bZ.mp h;refine⟨by have:x.length=x.cps.size:=rfl;omega,?_⟩
  have e:x.cps.extract i (i+1) = #[x.cps[i]]:=by
   apply Array.ext
   ·simp;omega
   ·intro k h1 h2;have:k=0:=by simp at h2;exact h2
    subst this;simp
  rw[e,hc];simp
theorem Wj(x:aR)(c:Nat):(c∉Zy x/\cj x ⟨#[c]⟩ = -1)\/∃p q,Zy x=p++c::q/\c∉p/\cj x ⟨#[c]⟩=(p.length:Int):=by
 unfold cj;rcases StrLaws.occ_head x ⟨#[c]⟩ 1 (by omega) with⟨e,hn⟩ | ⟨i,r,e,hA,hn⟩
 ·rw[e];refine .inl ⟨λhc=>?_,rfl⟩;obtain⟨i,hi⟩:=kG hc;exact hn i (at_iff.mpr hi)
 ·rw[e];have hi:=at_iff.mp hA;have hil:=(aL.mp hi).1;refine .inr ⟨(Zy x).take i,(Zy x).drop (i+1),?_,λhc=>?_,?_⟩
  ·conv=>lhs;rw[<-jo i (Zy x)]
   congr 1;rw[eU hil];congr 1;exact(aL.mp hi).2
  ·obtain⟨k,hk⟩:=kG hc;have hkl:=(aL.mp hk).1;rw[br] at hkl;rw[jA (by omega)] at hk;exact hn k (by omega) (at_iff.mpr hk)
  ·show(i:Int)=_;rw[br];omega
def Zm(c:Nat):List Nat->List (List Nat)
 | []=>[[]]
 | a::r=>if a=c then []::Zm c r else(match Zm c r with | []=>[[a]] | p::ps=>(a::p)::ps)
theorem Xk(c:Nat):∀l,Zm c l≠[]
 | []=>by simp[Zm]
 | a::r=>by
  unfold Zm;split
  ·simp
  ·split<;>simp
theorem Us(c:Nat):∀l,∀p∈Zm c l,c∉p
 | [],p,h=>by simp[Zm] at h;rw[h];simp
 | a::r,p,h=>by
  unfold Zm at h;split at h
  ·rcases aV.mp h with rfl | h
   ·simp
   ·exact Us c r p h
  ·rename_i ha;split at h
   ·rename_i e;exact absurd e (Xk c r)
   ·rename_i q qs e;rcases aV.mp h with rfl | h
    ·have:=Us c r q (by rw[e];simp);intro z;rcases aV.mp z with z | z
     ·exact ha z.symm
     ·exact this z
    ·exact Us c r p (by rw[e];simp[h])
theorem Y7{c:Nat}:∀{l:List Nat},c∉l->Zm c l=[l]
 | [],_=>rfl
 | a::r,h=>by have h1:¬a=c:=λz=>h (by simp[z]);unfold Zm;rw[ma h1,Y7 (l:=r) λz=>h (by simp[z])]
theorem Y3{c:Nat}:∀{p q:List Nat},c∉p->Zm c (p++c::q)=p::Zm c q
 | [],q,_=>by show Zm c (c::q)=_;rw[Zm,mZ rfl]
 | a::p,q,h=>by have h1:¬a=c:=λz=>h (by simp[z]);show Zm c (a::(p++c::q))=_;rw[Zm,ma h1,Y3 (p:=p) (q:=q) λz=>h (by simp[z])]
theorem S6(c:Nat):∀l,∀p∈Zm c l,(∀a∈p,a∈l)/\p.length<=l.length
 | [],p,h=>by simp[Zm] at h;rw[h];simp
 | a::r,p,h=>by
  have ih:=S6 c r;unfold Zm at h;split at h
  ·rcases aV.mp h with rfl | h
   ·simp
   ·exact⟨λb hb=>aQ _ ((ih p h).1 b hb),by have:=(ih p h).2;simp;omega⟩
  ·split at h
   ·simp at h;rw[h];simp
   ·rename_i q qs e;rcases aV.mp h with rfl | h
    ·have:=ih q (by rw[e];simp)
     exact⟨λb hb=>by
      rcases aV.mp hb with z | z
      ·rw[z];simp
      ·exact aQ _ (this.1 b z),by simp;exact this.2⟩
    ·have:=ih p (by rw[e];simp[h]);exact⟨λb hb=>aQ _ (this.1 b hb),by simp;omega⟩
theorem Oi(c:Nat):∀l,(Zm c l).length<=l.length+1
 | []=>by simp[Zm]
 | a::r=>by
  have ih:=Oi c r;unfold Zm;split
  ·simp;exact ih
  ·split
   ·simp
   ·rename_i q qs e;rw[e] at ih;simp at ih ⊢;omega
theorem QJ(c:Nat):∀l,Zy (iU ⟨#[c]⟩ ((Zm c l).map ZW))=l
 | []=>rfl
 | a::r=>by
  have ih:=QJ c r;unfold Zm;split
  ·rename_i ha;subst ha
   cases e:Zm a r with
   | nil=>exact absurd e (Xk a r)
   | cons q qs=>
    rw[e] at ih;rw[aW,aW,VJ,<-aW,ih,Zr];rfl
  ·split
   ·rename_i e;exact absurd e (Xk c r)
   ·rename_i q qs e;rw[e] at ih
    cases qs with
    | nil=>
     have:Zy (ZW q)=r:=ih;rw[Zr] at this;show Zy (ZW (a::q))=_;rw[Zr,this]
    | cons q2 qs=>
     rw[aW,aW,VJ] at ih ⊢;rw[Zr] at ih ⊢;rw[fF,ih]
theorem Fe(x:aR)(c:Nat):iM x ⟨#[c]⟩=(Zm c (Zy x)).map ZW:=by
 refine Li (c:=c) (λz=>?_) (λz=>?_) (λp hp=>StrLaws.split_free _ c p hp) (λp hp=>?_) ?_
 ·have:=PyProof.Rows.split_pos x ⟨#[c]⟩;rw[z] at this;simp at this
 ·exact Xk c (Zy x) (by simpa using z)
 ·obtain⟨l,hl,rfl⟩:=ah.mp hp;rw[Zr];exact Us c _ l hl
 ·rw[StrLaws.join_split];exact RV (QJ c (Zy x)).symm
theorem Oj{x:aR}(h:Small 1000 x)(c:Nat):Xb (.str x) (.str ⟨#[c]⟩)=aA (.lst ((Zm c (Zy x)).map λl=>.str (ZW l))):=by
 have:(2000:Nat)<=sizeLine:=by decide
 have:=h.len;unfold Xb;simp only;rw[mZ ⟨rfl,by omega⟩,Fe,cO];rfl
end PW
set_option maxHeartbeats 1000000
namespace PW
open PySem L2 VL VX
def Ta(c:Nat):Bool:=decide (48<=c/\c<=57)
def ZL(l:List Nat):Bool:=decide (1<=l.length)&&decide (l.length<=2)&&l.all Ta&&(decide (l=[48]) || !decide (l.head?=aA 48))
def YC(l:List Nat):Nat:=lC l
abbrev QR:aR:=("NoText" : String)
theorem Ff(c:Nat):Zy (⟨#[c]⟩:aR)=[c]:=rfl
theorem Lj:∀c,c<128->(!(cF ("0123456789" : String) (⟨#[c]⟩:aR) 0 (aR.length ("0123456789" : String)) 1).isEmpty)=Ta c:=by decide +kernel
theorem Hj:∀c,c<128->(!decide ((⟨#[c]⟩:aR).cps.toList<(cN "0").cps.toList))=decide (48<=c)/\(!decide ((cN "9").cps.toList<(⟨#[c]⟩:aR).cps.toList))=decide (c<=57):=by decide +kernel
theorem Lk{y:aR}(h:Small 1000 y):YN [.str y,.int 2]=aA (.bl (ZL (Zy y))):=by
 have gl:=Oh h.len;let st:ZS:=[aA (.str y),aA (.int 2)]
 have c0:Tf Sz Sz (eC (.int 1)) (Ze ZR [Za 0]) (Za 1) st=aA (.bl (decide (1<=(Zy y).length)&&decide ((Zy y).length<=2))):=by
  unfold Tf;simp only[SV,ZC,ZM,Ji,YQ,st,gU,gi,aD,av,gl,jO,A5,UZ];by_cases q:1<=(Zy y).length
  ·have:(1:Int)<=((Zy y).length:Int):=by omega
   simp only[decide_eq_true q,decide_eq_true this,if_true,jF];congr 2;exact decide_eq_decide.mpr (by omega)
  ·have:¬(1:Int)<=((Zy y).length:Int):=by omega
   simp only[decide_eq_false q,decide_eq_false this,bS,if_false,jw]
 show WC 2 U4 _=_;unfold U4;show(Zk _ _ st).bind Xv=_;unfold ZL
 cases q:(decide (1<=(Zy y).length)&&decide ((Zy y).length<=2)) with
 | false=>
  rw[q] at c0;rw[ZI,Zu,Ve,Yq,c0];rfl
 | true=>
  rw[q] at c0;have e1:YF (YY (xB (Tf Sz Sz (eC (.int 1)) (Ze ZR [Za 0]) (Za 1)))) (Yd (eP (eC (.bl aB)))) Zs st=aA (.nx st):=by rw[Zu,Ve,Yq,c0];rfl
  rw[ZE e1];have hl:(Zy y).length<=1000:=by rw[<-XD];exact h.len
  have cc:Yg 1 [] (PR (Za 0)) (.one 0) Yi (Zh (Kb aB) (Za 0) (eC (.str "0123456789"))) st=aA (.lst (((Zy y).map Ta).map PV.bl)):=by
   rw[Wx (Zy y) (λc=>.str ⟨#[c]⟩) (λc=>.bl (Ta c)) (show PR (Za 0) st=aA ((Zy y).map λc=>.str ⟨#[c]⟩) from rfl) (by omega) λc hc=>⟨[aA (.str ⟨#[c]⟩)],rfl,rfl,?_⟩]
   ·rw[cO];rfl
   ·have d:=Lj c (h.asc c hc);show Kb aB (.str ⟨#[c]⟩) (.str "0123456789")=_;unfold Kb;simp only;rw[d];simp
  have ga:OC [.lst (((Zy y).map Ta).map PV.bl)]=aA (.bl ((Zy y).all Ta)):=by rw[Gq,iI];rfl
  rw[Wf,Wa,MS,Yq,ZC,ZM,cc];simp only[Ji,aD,av,ga,UZ]
  cases qa:(Zy y).all Ta with
  | false=>rfl
  | true=>
   simp only[if_true,jF]
   obtain⟨c,r,hy⟩:∃c r,Zy y=c::r:=by
    cases hy:Zy y with
    | nil=>rw[hy] at q;simp at q
    | cons c r=>exact⟨c,r,rfl⟩
   have gx:ZK (.str y) (.int 0)=aA (.str ⟨#[c]⟩):=by
    have:(1000:Nat)<=sizeLine:=by decide
    have:=h.len;unfold ZK;simp only;rw[mZ (by omega)];have:Vv y.cps.toList ((0:Nat):Int)=aA c:=Xy (by rw[show y.cps.toList=Zy y from rfl,hy];rfl);rw[show(0:Int)=((0:Nat):Int) from rfl,this];rfl
   have g1:=Og aB y ("0" : String);have g2:=Og aC (⟨#[c]⟩:aR) ("0" : String);have d1:decide (y=(cN "0"))=decide (Zy y=[48]):=Of _ rfl;have d2:decide ((⟨#[c]⟩:aR)=(cN "0"))=decide (Zy (⟨#[c]⟩:aR)=[48]):=Of _ rfl;simp only[ER,Yq,ZH,YQ,SV,st,gU,gi,aD,gx,g1,g2,UZ,if_false,if_true,bS,d1,d2];rw[hy];by_cases z:(c::r)=[48]
   ·simp[z]
   ·rw[decide_eq_false z];simp only[bS,if_false,gj,List.head?_cons,kq,Ff,fM,and_true];rfl
theorem Dy{l:List Nat}(h:l.all Ta=aC):NumText.AllDigits l:=λc hc=>by have:=bB.mp h c hc;exact of_decide_eq_true this
theorem Nm{l:List Nat}(h:ZL l=aC):l.all Ta=aC/\1<=l.length/\l.length<=2:=by unfold ZL at h;simp only[bE,decide_eq_true_eq] at h;exact⟨h.1.2,h.1.1.1,h.1.1.2⟩
theorem T5{l:List Nat}{c:Nat}(hc:Ta c=aB)(h:c∈l):ZL l=aB:=by
 cases q:ZL l with
 | false=>rfl
 | true=>
  have:=bB.mp (Nm q).1 c h;rw[hc] at this;cases this
theorem Ll{w:aR}(ok:ZL (Zy w)=aC):Na [.str w]=aA (.int (YC (Zy w):Int)):=by
 obtain⟨h3,h1,h2⟩:=Nm ok;have ad:=Dy h3;have hn:Zy w≠[]:=λz=>by rw[z] at h1;simp at h1
 have hlen:=XD w;have iv:iT w=aA ((lC (Zy w):Nat):Int):=intText_digits ad hn (by omega);unfold Na;simp only;rw[mZ (by omega),iv];rfl
theorem Ol{w:aR}(h:Small 1000 w){s:ZS}{f:XE}(hf:f s=aA (.str w)):xB (Ze YN [f,eC (.int 2)]) s=aA (ZL (Zy w)):=by rw[Yq,ZC,ZM,hf];show(YN [.str w,.int 2]).bind _=_;rw[Lk h];rfl
theorem YX{w:aR}(h:Small 1000 w)(ok:ZL (Zy w)=aC):Zn [.str w]=aA (.int (YC (Zy w):Int))/\Zo [.str w]=none:=by
 have c:YY (xB (Ze YN [Za 0,eC (.int 2)])) [aA (.str w)]=aA aB:=by rw[Ve,Ol h rfl,ok];rfl
 constructor
 ·show WC 1 VB _=_;unfold VB;show(Zk _ _ [aA (.str w)]).bind Xv=_;have e1:YF (YY (xB (Ze YN [Za 0,eC (.int 2)]))) ZO Zs [aA (.str w)]=aA (.nx [aA (.str w)]):=by rw[Zu,c];rfl
  rw[ZE e1,Hi (v:=.int (YC (Zy w):Int)) (vP (Ll ok))];rfl
 ·unfold Zo Kf;show Y2 _ _ _ [aA (.str w)]=_;unfold Y2 Nf;rw[c];rfl
theorem W6{w:aR}(h:Small 1000 w)(ok:ZL (Zy w)=aB):Zo [.str w]=aA QR:=by
 have c:YY (xB (Ze YN [Za 0,eC (.int 2)])) [aA (.str w)]=aA aC:=by rw[Ve,Ol h rfl,ok];rfl
 have m:Vg "NoText" (Za 0) [aA (.str w)]=aA QR:=by show(if(jS w).length<=100000 then aA _ else none)=_;rw[mZ (U9 h (by omega))]
 unfold Zo Kf;show Y2 _ _ _ [aA (.str w)]=_;unfold Y2 Nf;rw[c];simp only[aD,if_true];rw[m]
theorem Om{w:aR}(h:Small 1000 w)(ok:ZL (Zy w)=aC)(h2:2<=YC (Zy w)):YI [.str w]=aA (.int (YC (Zy w):Int))/\ZV [.str w]=none:=by
 obtain⟨d,r⟩:=YX h ok;have e1:Zl 1 (Ze Zn [Za 0]) [aA (.str w),none]=aA (.nx [aA (.str w),aA (.int (YC (Zy w):Int))]):=by have:Ze Zn [Za 0] [aA (.str w),none]=aA (.int (YC (Zy w):Int)):=d;rw[Zv,this];rfl
 have c:xB (Zh Wb (Za 1) (eC (.int 2))) [aA (.str w),aA (.int (YC (Zy w):Int))]=aA aB:=by show aA (decide ((YC (Zy w):Int)<2))=_;rw[decide_eq_false (by omega)]
 constructor
 ·show WC 2 VC _=_;unfold VC;show(Zk _ _ [aA (.str w),none]).bind Xv=_;have e2:YF (xB (Zh Wb (Za 1) (eC (.int 2)))) ZO Zs [aA (.str w),aA (.int (YC (Zy w):Int))]=aA (.nx [aA (.str w),aA (.int (YC (Zy w):Int))]):=by rw[Zu,c];rfl
  rw[ZE e1,ZE e2];rfl
 ·unfold ZV Kf;show Y2 _ _ _ [aA (.str w),none]=_;have z:Yn Zo [Za 0] [aA (.str w),none]=none:=r;unfold Y2;rw[z];simp only;rw[e1];simp only;unfold Nf;rw[c];rfl
theorem OL{w:aR}(h:Small 1000 w)(ok:¬(ZL (Zy w)=aC/\2<=YC (Zy w))):ZV [.str w]=aA QR:=by
 unfold ZV Kf;show Y2 _ _ _ [aA (.str w),none]=_
 cases q:ZL (Zy w) with
 | false=>
  have z:Yn Zo [Za 0] [aA (.str w),none]=aA QR:=W6 h q;unfold Y2;rw[z]
 | true=>
  obtain⟨d,r⟩:=YX h q;have z:Yn Zo [Za 0] [aA (.str w),none]=none:=r;have e1:Zl 1 (Ze Zn [Za 0]) [aA (.str w),none]=aA (.nx [aA (.str w),aA (.int (YC (Zy w):Int))]):=by have:Ze Zn [Za 0] [aA (.str w),none]=aA (.int (YC (Zy w):Int)):=d;rw[Zv,this];rfl
  have c:xB (Zh Wb (Za 1) (eC (.int 2))) [aA (.str w),aA (.int (YC (Zy w):Int))]=aA aC:=by show aA (decide ((YC (Zy w):Int)<2))=_;rw[decide_eq_true (by have:¬2<=YC (Zy w):=λy=>ok ⟨q,y⟩;omega)]
  have m:Vg "NoText" (Za 0) [aA (.str w),aA (.int (YC (Zy w):Int))]=aA QR:=by show(if(jS w).length<=100000 then aA _ else none)=_;rw[mZ (U9 h (by omega))]
  unfold Y2;rw[z];simp only;rw[e1];simp only;unfold Nf;rw[c];simp only[aD,if_true];rw[m]
def Wk(p:List Nat)(t:Nat):Option (Nat×Nat×Nat):=match Zm 45 p with
 | [a,b]=>if ZL a=aC/\ZL b=aC then aA (YC a,YC b,t) else none
 | _=>none
def Xd(l:List Nat):Option (Nat×Nat×Nat):=match Zm 42 l with
 | [p]=>Wk p 1
 | [p,q]=>if ZL q=aC/\2<=YC q then Wk p (YC q) else none
 | _=>none
def zT(z:Nat×Nat×Nat):PV:=.tup [.int (z.1:Int),.int (z.2.1:Int),.int (z.2.2:Int)]
abbrev hP(Hs:List (List Nat)):PV:=.lst (Hs.map λl=>.str (ZW l))
theorem Wu{n:Nat}{x:aR}(h:Small n x){c:Nat}{p:List Nat}(hp:p∈Zm c (Zy x)):Small n (ZW p):=by obtain⟨h1,h2⟩:=S6 c _ p hp;exact h.sub (by rw[Zr];exact h1) (by rw[Zr];exact h2)
theorem Y8{f1:XR}{f:XS}{g:XR}{s s1:ZS}(h1:f1 s=none)(h2:f s=aA (.nx s1)):Y2 f1 f g s=g s1:=by unfold Y2;rw[h1];simp only;rw[h2]
theorem UN{f1:XR}{f:XS}{g:XR}{s:ZS}{m:aR}(h1:f1 s=aA m):Y2 f1 f g s=aA m:=by unfold Y2;rw[h1]
section
variable {w:aR}
def UO(w:aR)(x1 x2 x3:Option PV):ZS:=[aA (.str w),x1,x2,x3]
theorem Zam(h:Small 1000 w):Zl 1 (Zh Xb (Za 0) (eC (.str "*"))) (UO w none none none)=aA (.nx (UO w (aA (hP (Zm 42 (Zy w)))) none none)):=by have:Zh Xb (Za 0) (eC (.str "*")) (UO w none none none)=aA (hP (Zm 42 (Zy w))):=Oj h 42;rw[Zv,this];rfl
theorem BY{p:List Nat}{r:List (List Nat)}{s:ZS}{k:Nat}(hs:s[k]?=aA (aA (hP (p::r)))):Zh ZK (Za k) (eC (.int 0)) s=aA (.str (ZW p)):=by rw[ZH,YQ,hs];show Vv (((p::r)).map λl=>PV.str (ZW l)) ((0:Nat):Int)=_;exact Xy rfl
theorem Zan{p q:List Nat}{r:List (List Nat)}{s:ZS}{k:Nat}(hs:s[k]?=aA (aA (hP (p::q::r)))):Zh ZK (Za k) (eC (.int 1)) s=aA (.str (ZW q)):=by rw[ZH,YQ,hs];show Vv (((p::q::r)).map λl=>PV.str (ZW l)) ((1:Nat):Int)=_;exact Xy rfl
theorem Fg{Hs:List (List Nat)}{s:ZS}{k:Nat}(hs:s[k]?=aA (aA (hP Hs))):Ze ZR [Za k] s=aA (.int (Hs.length:Int)):=by rw[ZC,ZM,YQ,hs];show ZR [hP Hs]=_;show aA (PV.int ((Hs.map λl=>PV.str (ZW l)).length:Int))=_;rw[aN]
theorem Zao(h:Small 1000 w){p:List Nat}{r:List (List Nat)}(e:Zm 42 (Zy w)=p::r):Zl 2 (Zh Xb (Zh ZK (Za 1) (eC (.int 0))) (eC (.str "-"))) (UO w (aA (hP (Zm 42 (Zy w)))) none none)=aA (.nx (UO w (aA (hP (Zm 42 (Zy w)))) (aA (hP (Zm 45 p))) none)):=by
 have sp:Small 1000 (ZW p):=Wu h (c:=42) (by rw[e];simp);have i0:Zh ZK (Za 1) (eC (.int 0)) (UO w (aA (hP (Zm 42 (Zy w)))) none none)=aA (.str (ZW p)):=BY (r:=r) (by rw[<-e];rfl);have:Zh Xb (Zh ZK (Za 1) (eC (.int 0))) (eC (.str "-")) (UO w (aA (hP (Zm 42 (Zy w)))) none none)=aA (hP (Zm 45 p)):=by rw[ZH,i0];have:=Oj sp 45;rw[Zr] at this;exact this
 rw[Zv,this];rfl
theorem Zap{p:List Nat}{r:List (List Nat)}:Ue (xB (Zh T7 (Ze ZR [Za 1]) (eC (.int 2)))) (xB (Zh (YJ aC) (Ze ZR [Za 2]) (eC (.int 2)))) (UO w (aA (hP r)) (aA (hP (Zm 45 p))) none)=aA (decide (2<r.length) || !decide ((Zm 45 p).length=2)):=by
 have a1:xB (Zh T7 (Ze ZR [Za 1]) (eC (.int 2))) (UO w (aA (hP r)) (aA (hP (Zm 45 p))) none)=aA (decide (2<r.length)):=by rw[Yq,ZH,Fg (Hs:=r) rfl];show aA (decide ((2:Int)<(r.length:Int)))=_;congr 1;exact decide_eq_decide.mpr (by omega)
 have a2:xB (Zh (YJ aC) (Ze ZR [Za 2]) (eC (.int 2))) (UO w (aA (hP r)) (aA (hP (Zm 45 p))) none)=aA (!decide ((Zm 45 p).length=2)):=by rw[Yq,ZH,Fg (Hs:=Zm 45 p) rfl];show(YJ aC (.int ((Zm 45 p).length:Int)) (.int 2)).bind MN=_;have:decide (((Zm 45 p).length:Int)=2)=decide ((Zm 45 p).length=2):=decide_eq_decide.mpr (by omega);simp[this]
 rw[Xa,a1,a2];cases decide (2<r.length)<;>rfl
theorem Zaq(h:Small 1000 w)(x1 x2 x3:Option PV):Vg "NoText" (Za 0) (UO w x1 x2 x3)=aA QR:=by show(if(jS w).length<=100000 then aA _ else none)=_;rw[mZ (U9 h (by omega))]
end
theorem Lm{α:Type}(l:List α)(h:l≠[]):(∃p,l=[p])\/(∃p q,l=[p,q])\/(∃p q r s,l=p::q::r::s):=by
 match l,h with
 | [p],_=>exact .inl ⟨p,rfl⟩
 | [p,q],_=>exact .inr (.inl ⟨p,q,rfl⟩)
 | p::q::r::s,_=>exact .inr (.inr ⟨p,q,r,s,rfl⟩)
theorem Hk{w:aR}(h:Small 1000 w){p a b:List Nat}{r:List (List Nat)}{t:Int}(hp:Small 1000 (ZW p))(e:Zm 45 p=[a,b]) :
  (ZL a=aC/\ZL b=aC->Yd (eP (Yf [Ze Zn [Zh ZK (Za 2) (eC (.int 0))],Ze Zn [Zh ZK (Za 2) (eC (.int 1))],Za 3])) (UO w (aA (hP r)) (aA (hP (Zm 45 p))) (aA (.int t)))=aA (.rt (.tup [.int (YC a:Int),.int (YC b:Int),.int t]))/\
   P2 (Yn Zo [Zh ZK (Za 2) (eC (.int 0))]) (RM (Ze Zn [Zh ZK (Za 2) (eC (.int 0))]) (Yn Zo [Zh ZK (Za 2) (eC (.int 1))])) (UO w (aA (hP r)) (aA (hP (Zm 45 p))) (aA (.int t)))=none)/\
  (¬(ZL a=aC/\ZL b=aC)->P2 (Yn Zo [Zh ZK (Za 2) (eC (.int 0))]) (RM (Ze Zn [Zh ZK (Za 2) (eC (.int 0))]) (Yn Zo [Zh ZK (Za 2) (eC (.int 1))])) (UO w (aA (hP r)) (aA (hP (Zm 45 p))) (aA (.int t)))=aA QR):=by
 have sa:Small 1000 (ZW a):=by have:=Wu hp (c:=45) (p:=a) (by rw[Zr,e];simp);exact this
 have sb:Small 1000 (ZW b):=by have:=Wu hp (c:=45) (p:=b) (by rw[Zr,e];simp);exact this
 generalize hst:UO w (aA (hP r)) (aA (hP (Zm 45 p))) (aA (.int t))=st;have s2:st[2]?=aA (aA (hP (a::b::[]))):=by rw[<-hst,<-e];rfl
 have s3:st[3]?=aA (aA (.int t)):=by rw[<-hst];rfl
 have i0:=BY s2;have i1:=Zan s2;have da:ZL a=aC->Ze Zn [Zh ZK (Za 2) (eC (.int 0))] st=aA (.int (YC a:Int)):=λq=>by rw[ZC,ZM,i0];have:=(YX sa (by rw[Zr];exact q)).1;rw[Zr] at this;exact this
 have db:ZL b=aC->Ze Zn [Zh ZK (Za 2) (eC (.int 1))] st=aA (.int (YC b:Int)):=λq=>by rw[ZC,ZM,i1];have:=(YX sb (by rw[Zr];exact q)).1;rw[Zr] at this;exact this
 have ra:Yn Zo [Zh ZK (Za 2) (eC (.int 0))] st=Zo [.str (ZW a)]:=by unfold Yn;rw[ZM,i0];rfl
 have rb:Yn Zo [Zh ZK (Za 2) (eC (.int 1))] st=Zo [.str (ZW b)]:=by unfold Yn;rw[ZM,i1];rfl
 refine⟨λ⟨qa,qb⟩=>⟨?_,?_⟩,λq=>?_⟩
 ·rw[Wf,Wa,TH,ZM,ZM,ZM,da qa,db qb,YQ,s3];rfl
 ·unfold P2 RM;rw[ra,(YX sa (by rw[Zr];exact qa)).2];simp only;rw[da qa,aD,rb,(YX sb (by rw[Zr];exact qb)).2]
 ·unfold P2 RM;rw[ra]
  cases qa:ZL a with
  | false=>rw[W6 sa (by rw[Zr];exact qa)]
  | true=>
   rw[(YX sa (by rw[Zr];exact qa)).2];simp only
   have qb:ZL b=aB:=by
    cases z:ZL b with
    | false=>rfl
    | true=>exact absurd ⟨qa,z⟩ q
   rw[da qa,aD,rb,W6 sb (by rw[Zr];exact qb)]
theorem Ln{w:aR}(h:Small 1000 w):(∃z,Xd (Zy w)=aA z/\ZD [.str w]=aA (zT z)/\ZP [.str w]=none)\/(Xd (Zy w)=none/\ZP [.str w]=aA QR):=by
 obtain⟨p,r,e⟩:∃p r,Zm 42 (Zy w)=p::r:=by
  cases e:Zm 42 (Zy w) with
  | nil=>exact absurd e (Xk _ _)
  | cons p r=>exact⟨p,r,rfl⟩
 have sp:Small 1000 (ZW p):=Wu h (c:=42) (by rw[e];simp);have e1:=Zam h;have e2:=Zao h e;have cc:=Zap (w:=w) (p:=p) (r:=Zm 42 (Zy w));let st3:=UO w (aA (hP (Zm 42 (Zy w)))) (aA (hP (Zm 45 p))) none;let cnd:XT:=Ue (xB (Zh T7 (Ze ZR [Za 1]) (eC (.int 2)))) (xB (Zh (YJ aC) (Ze ZR [Za 2]) (eC (.int 2))))
 -- a fault in the form
 have bad:(decide (2<(Zm 42 (Zy w)).length) || !decide ((Zm 45 p).length=2))=aC->ZP [.str w]=aA QR:=λq=>by rw[q] at cc;unfold ZP Kf;show Y2 _ _ _ (UO w none none none)=_;rw[Y8 rfl e1,Y8 rfl e2,UN];unfold Nf;rw[cc];exact Zaq h (aA (hP (Zm 42 (Zy w)))) (aA (hP (Zm 45 p))) none
 -- the form is right
 have good:(decide (2<(Zm 42 (Zy w)).length) || !decide ((Zm 45 p).length=2))=aB->∀t:Option Nat,
   (∀u,t=aA u->Zl 3 (eP (D2 (xB (Zh (YJ aB) (Ze ZR [Za 1]) (eC (.int 2)))) (Ze YI [Zh ZK (Za 1) (eC (.int 1))]) (eC (.int 1)))) st3=aA (.nx (UO w (aA (hP (Zm 42 (Zy w)))) (aA (hP (Zm 45 p))) (aA (.int (u:Int)))))/\OE (xB (Zh (YJ aB) (Ze ZR [Za 1]) (eC (.int 2)))) (Yn ZV [Zh ZK (Za 1) (eC (.int 1))]) (λ_=>none) st3=none)->
   (t=none->OE (xB (Zh (YJ aB) (Ze ZR [Za 1]) (eC (.int 2)))) (Yn ZV [Zh ZK (Za 1) (eC (.int 1))]) (λ_=>none) st3=aA QR)->
   Xd (Zy w)=t.bind (Wk p)->(∃z,Xd (Zy w)=aA z/\ZD [.str w]=aA (zT z)/\ZP [.str w]=none)\/(Xd (Zy w)=none/\ZP [.str w]=aA QR):=λq t ht hn hz=>by
  rw[q] at cc
  have l2:(Zm 45 p).length=2:=by
   cases d:decide ((Zm 45 p).length=2) with
   | true=>exact of_decide_eq_true d
   | false=>rw[d] at q;simp at q
  obtain⟨a,b,eab⟩:∃a b,Zm 45 p=[a,b]:=by
   match hs:Zm 45 p,l2 with
   | [a,b],_=>exact⟨a,b,rfl⟩
  have e3:YF cnd ZO Zs st3=aA (.nx st3):=by rw[Zu];show(cnd st3).bind _=_;rw[show cnd st3=aA aB from cc];rfl
  have r3:Nf cnd (Vg "NoText" (Za 0)) QG st3=none:=by unfold Nf;rw[show cnd st3=aA aB from cc];rfl
  have pre:ZP [.str w]=Y2 (OE (xB (Zh (YJ aB) (Ze ZR [Za 1]) (eC (.int 2)))) (Yn ZV [Zh ZK (Za 1) (eC (.int 1))]) (λ_=>none)) (Zl 3 (eP (D2 (xB (Zh (YJ aB) (Ze ZR [Za 1]) (eC (.int 2)))) (Ze YI [Zh ZK (Za 1) (eC (.int 1))]) (eC (.int 1))))) (P2 (Yn Zo [Zh ZK (Za 2) (eC (.int 0))]) (RM (Ze Zn [Zh ZK (Za 2) (eC (.int 0))]) (Yn Zo [Zh ZK (Za 2) (eC (.int 1))]))) st3:=by unfold ZP Kf;show Y2 _ _ _ (UO w none none none)=_;rw[Y8 rfl e1,Y8 rfl e2,Y8 r3 e3]
  cases t with
  | none=>
   right;refine⟨hz,?_⟩;rw[pre,UN (hn rfl)]
  | some u=>
   obtain⟨e4,r4⟩:=ht u rfl;obtain⟨g1,g2⟩:=Hk h (r:=Zm 42 (Zy w)) (t:=(u:Int)) sp eab;have ez:Xd (Zy w)=if ZL a=aC/\ZL b=aC then aA (YC a,YC b,u) else none:=by rw[hz];show Wk p u=_;unfold Wk;rw[eab]
   by_cases qq:ZL a=aC/\ZL b=aC
   ·left;rw[mZ qq] at ez;refine⟨_,ez,?_,?_⟩
    ·show WC 4 U6 _=_;unfold U6;show(Zk _ _ (UO w none none none)).bind Xv=_;rw[ZE e1,ZE e2,ZE e3,ZE e4,(g1 qq).1];rfl
    ·rw[pre,Y8 r4 e4,(g1 qq).2]
   ·right;rw[ma qq] at ez;refine⟨ez,?_⟩;rw[pre,Y8 r4 e4,g2 qq]
 by_cases fm:(decide (2<(Zm 42 (Zy w)).length) || !decide ((Zm 45 p).length=2))=aC
 ·right;refine⟨?_,bad fm⟩;unfold Xd;rcases Lm _ (Xk 42 (Zy w)) with⟨p',e'⟩ | ⟨p',q',e'⟩ | ⟨p',q',r',s',e'⟩
  ·have:p'=p:=by rw[e] at e';cases e';rfl
   subst this;rw[e'];show Wk p' 1=none;rw[e'] at fm;have fm:¬(Zm 45 p').length=2:=by simpa using fm
   unfold Wk
   match hs:Zm 45 p' with
   | [a,b]=>rw[hs] at fm;simp at fm
   | []=>rfl
   | [a]=>rfl
   | a::b::c::d=>rfl
  ·have:p'=p:=by rw[e] at e';cases e';rfl
   subst this;rw[e'];show(if ZL q'=aC/\2<=YC q' then Wk p' (YC q') else none)=none;rw[e'] at fm;have fm:¬(Zm 45 p').length=2:=by simpa using fm
   have:Wk p' (YC q')=none:=by
    unfold Wk
    match hs:Zm 45 p' with
    | [a,b]=>rw[hs] at fm;simp at fm
    | []=>rfl
    | [a]=>rfl
    | a::b::c::d=>rfl
   rw[this];simp
  ·rw[e']
 ·have fm:=g8.mpr fm;have i2:∀k:Nat,xB (Zh (YJ aB) (Ze ZR [Za 1]) (eC (.int 2))) st3=aA (decide ((Zm 42 (Zy w)).length=2)):=λ_=>by rw[Yq,ZH,Fg (Hs:=Zm 42 (Zy w)) rfl];show(YJ aB (.int ((Zm 42 (Zy w)).length:Int)) (.int 2)).bind MN=_;have:decide (((Zm 42 (Zy w)).length:Int)=2)=decide ((Zm 42 (Zy w)).length=2):=decide_eq_decide.mpr (by omega);simp[this]
  have i2:=i2 0;rcases Lm _ (Xk 42 (Zy w)) with⟨p',e'⟩ | ⟨p',q',e'⟩ | ⟨p',q',r',s',e'⟩
  ·have:p'=p:=by rw[e] at e';cases e';rfl
   subst this;have i2':xB (Zh (YJ aB) (Ze ZR [Za 1]) (eC (.int 2))) st3=aA aB:=by rw[i2,e'];rfl
   refine good fm (aA 1) (λu hu=>?_) (λz=>by cases z) (by unfold Xd;rw[e'];rfl);cases hu;refine⟨?_,?_⟩
   ·rw[Zv,Wa,Jj,i2'];rfl
   ·unfold OE;rw[i2'];rfl
  ·have:p'=p:=by rw[e] at e';cases e';rfl
   subst this;have i2':xB (Zh (YJ aB) (Ze ZR [Za 1]) (eC (.int 2))) st3=aA aC:=by rw[i2,e'];rfl
   have sq:Small 1000 (ZW q'):=Wu h (c:=42) (by rw[e'];simp);have ix:Zh ZK (Za 1) (eC (.int 1)) st3=aA (.str (ZW q')):=Zan (p:=p') (r:=[]) (by rw[<-e'];rfl);have rt:Yn ZV [Zh ZK (Za 1) (eC (.int 1))] st3=ZV [.str (ZW q')]:=by unfold Yn;rw[ZM,ix];rfl
   have ri:OE (xB (Zh (YJ aB) (Ze ZR [Za 1]) (eC (.int 2)))) (Yn ZV [Zh ZK (Za 1) (eC (.int 1))]) (λ_=>none) st3=ZV [.str (ZW q')]:=by unfold OE;rw[i2',<-rt];rfl
   by_cases qq:ZL q'=aC/\2<=YC q'
   ·obtain⟨d,r⟩:=Om sq (by rw[Zr];exact qq.1) (by rw[Zr];exact qq.2);rw[Zr] at d;refine good fm (aA (YC q')) (λu hu=>?_) (λz=>by cases z) (by unfold Xd;rw[e'];show(if _ then _ else _)=_;rw[mZ qq];rfl);cases hu;refine⟨?_,by rw[ri,r]⟩;have v:Ze YI [Zh ZK (Za 1) (eC (.int 1))] st3=aA (.int (YC q':Int)):=by rw[ZC,ZM,ix];exact d
    rw[Zv,Wa,Jj,i2',aD,mZ rfl,v];rfl
   ·refine good fm none (λu hu=>by cases hu) (λ_=>?_) (by unfold Xd;rw[e'];show(if _ then _ else _)=_;rw[ma qq];rfl);rw[ri];exact OL sq (by rw[Zr];exact qq)
  ·rw[e'] at fm;simp at fm
def Fh(l:List Nat):Bool:=decide (l.length<1) || (decide (2<l.length) || (decide (l.length=2)&&decide (l.head?=aA 48)))
theorem Nn(l:List Nat):ZL l=(!Fh l&&l.all Ta):=by
 unfold ZL Fh;generalize l.all Ta=a
 match l with
 | []=>simp
 | [c]=>by_cases q:c=48<;>cases a<;>simp[q]
 | [c,d]=>
  have e:(decide ([c,d]=[48]))=aB:=decide_eq_false (by simp);rw[e];by_cases q:c=48<;>cases a<;>simp[q]
 | c::d::e::r=>cases a<;>simp
def YU(l:List Nat):Int:=if ZL l=aC then(YC l:Int) else -1
theorem Lo{y:aR}{c:Nat}{r:List Nat}(h:y.length<=1000)(hy:Zy y=c::r):ZK (.str y) (.int 0)=aA (.str ⟨#[c]⟩):=by
 have:(1000:Nat)<=sizeLine:=by decide
 unfold ZK;simp only;rw[mZ (by omega)];have:Vv y.cps.toList ((0:Nat):Int)=aA c:=Xy (by rw[show y.cps.toList=Zy y from rfl,hy];rfl);rw[show(0:Int)=((0:Nat):Int) from rfl,this];rfl
theorem Ky{y:aR}(h:Small 1000 y):ZF [.str y]=aA (.int (YU (Zy y))):=by
 have gl:=Oh h.len;let st:ZS:=[aA (.str y)];have lenv:Ze ZR [Za 0] st=aA (.int ((Zy y).length:Int)):=by rw[ZC];exact gl
 have a1:xB (Zh Wb (Ze ZR [Za 0]) (eC (.int 1))) st=aA (decide ((Zy y).length<1)):=by rw[Yq,ZH,lenv];show aA (decide (((Zy y).length:Int)<1))=_;congr 1;exact decide_eq_decide.mpr (by omega)
 have a2:xB (Zh T7 (Ze ZR [Za 0]) (eC (.int 2))) st=aA (decide (2<(Zy y).length)):=by rw[Yq,ZH,lenv];show aA (decide ((2:Int)<((Zy y).length:Int)))=_;congr 1;exact decide_eq_decide.mpr (by omega)
 have a3:xB (Zh (YJ aB) (Ze ZR [Za 0]) (eC (.int 2))) st=aA (decide ((Zy y).length=2)):=by rw[Yq,ZH,lenv];show(YJ aB (.int ((Zy y).length:Int)) (.int 2)).bind MN=_;have:decide (((Zy y).length:Int)=2)=decide ((Zy y).length=2):=decide_eq_decide.mpr (by omega);simp[this]
 have a4:(Zy y).length=2->xB (Zh (YJ aB) (Zh ZK (Za 0) (eC (.int 0))) (eC (.str "0"))) st=aA (decide ((Zy y).head?=aA 48)):=λhl=>by
  obtain⟨c,r,hc⟩:∃c r,Zy y=c::r:=by
   cases hc:Zy y with
   | nil=>rw[hc] at hl;simp at hl
   | cons c r=>exact⟨c,r,rfl⟩
  rw[Yq,ZH];show((ZK (.str y) (.int 0)).bind λx=>YJ aB x (.str "0")).bind _=_;rw[Lo h.len hc];show(YJ aB (.str ⟨#[c]⟩) (.str "0")).bind _=_;rw[Og];simp only[bS,if_false,aD,UZ];rw[show decide ((⟨#[c]⟩:aR)=(cN "0"))=decide (Zy (⟨#[c]⟩:aR)=[48]) from Of _ rfl,Ff,hc];simp
 have c3:Ue (xB (Zh Wb (Ze ZR [Za 0]) (eC (.int 1)))) (Ue (xB (Zh T7 (Ze ZR [Za 0]) (eC (.int 2)))) (Vi (xB (Zh (YJ aB) (Ze ZR [Za 0]) (eC (.int 2)))) (xB (Zh (YJ aB) (Zh ZK (Za 0) (eC (.int 0))) (eC (.str "0")))))) st=aA (Fh (Zy y)):=by
  rw[Xa,a1];unfold Fh;by_cases z1:(Zy y).length<1
  ·simp[z1]
  ·rw[decide_eq_false z1];simp only[aD,bS,if_false,gj];rw[Xa,a2];by_cases z2:2<(Zy y).length
   ·simp[z2]
   ·rw[decide_eq_false z2];simp only[aD,bS,if_false,gj];rw[UK,a3];by_cases z3:(Zy y).length=2
    ·rw[decide_eq_true z3];simp only[aD,if_true,a4 z3,jF]
    ·rw[decide_eq_false z3];simp only[aD,bS,if_false,jw]
 have hl:(Zy y).length<=1000:=h.ls
 have c4:Ze OC [Yg 1 [] (PR (Za 0)) (.one 0) Yi (Tf Qo Qo (eC (.str "0")) (Za 0) (eC (.str "9")))] st=aA (.bl ((Zy y).all Ta)):=by
  have cc:Yg 1 [] (PR (Za 0)) (.one 0) Yi (Tf Qo Qo (eC (.str "0")) (Za 0) (eC (.str "9"))) st=aA (.lst (((Zy y).map Ta).map PV.bl)):=by
   rw[Wx (Zy y) (λc=>.str ⟨#[c]⟩) (λc=>.bl (Ta c)) (show PR (Za 0) st=aA ((Zy y).map λc=>.str ⟨#[c]⟩) from rfl) (by omega) λc hc=>⟨[aA (.str ⟨#[c]⟩)],rfl,rfl,?_⟩]
   ·rw[cO];rfl
   ·obtain⟨d1,d2⟩:=Hj c (h.asc c hc);unfold Tf;show(((Qo (.str "0") (.str ⟨#[c]⟩)).bind MN).bind λk=>if k=aC then Qo (.str ⟨#[c]⟩) (.str "9") else aA (.bl aB))=_;unfold Qo;simp only[aD,UZ];rw[d1,d2];unfold Ta;by_cases z:48<=c
    ·simp[z]
    ·simp[z]
  rw[ZC,ZM,cc];show OC [.lst (((Zy y).map Ta).map PV.bl)]=_;rw[Gq,iI];rfl
 have neg1:Yd (eP (Pq V8 (eC (.int 1)))) st=aA (.rt (.int (-1))):=rfl;unfold YU;rw[Nn];show WC 1 Uo _=_;unfold Uo;show(Zk _ _ st).bind Xv=_
 cases hb:Fh (Zy y) with
 | true=>
  rw[hb] at c3;rw[ZI,Zu,c3,aD,mZ rfl,neg1];rfl
 | false=>
  rw[hb] at c3;have q3:YF (Ue (xB (Zh Wb (Ze ZR [Za 0]) (eC (.int 1)))) (Ue (xB (Zh T7 (Ze ZR [Za 0]) (eC (.int 2)))) (Vi (xB (Zh (YJ aB) (Ze ZR [Za 0]) (eC (.int 2)))) (xB (Zh (YJ aB) (Zh ZK (Za 0) (eC (.int 0))) (eC (.str "0"))))))) (Yd (eP (Pq V8 (eC (.int 1))))) Zs st=aA (.nx st):=by rw[Zu,c3];rfl
  rw[ZE q3]
  cases hd:(Zy y).all Ta with
  | false=>
   rw[hd] at c4;rw[ZI,Zu,Ve,Yq,c4];show(aA (.rt (.int (-1)))).bind Xv=_;rfl
  | true=>
   rw[hd] at c4;have q4:YF (YY (xB (Ze OC [Yg 1 [] (PR (Za 0)) (.one 0) Yi (Tf Qo Qo (eC (.str "0")) (Za 0) (eC (.str "9")))]))) (Yd (eP (Pq V8 (eC (.int 1))))) Zs st=aA (.nx st):=by rw[Zu,Ve,Yq,c4];rfl
   have ok:ZL (Zy y)=aC:=by rw[Nn,hb,hd];rfl
   rw[ZE q4,Hi (v:=.int (YC (Zy y):Int)) (vP (Ll ok))];rfl
theorem RY{s:ZS}{f:XE}{y:aR}(h:Small 1000 y)(hf:f s=aA (.str y)):Ze ZF [f] s=aA (.int (YU (Zy y))):=by rw[ZC,ZM,hf];exact Ky h
theorem RZ(c:Nat)(h:c<48\/57<c):Ta c=aB:=decide_eq_false (by omega)
theorem fig_neg{l:List Nat}:YU l<0↔ZL l=aB:=by
 unfold YU;cases ZL l<;>simp
theorem fig_two{l:List Nat}:YU l<2↔¬(ZL l=aC/\2<=YC l):=by
 unfold YU
 cases ZL l with
 | false=>simp
 | true=>simp;omega
def Kz:Option (Nat×Nat×Nat)->PV
 | some z=>zT z
 | none=>.non
def Hl(w:aR)(d s deep e:Int)(x5 x6:Option PV):ZS:=[aA (.str w),aA (.int d),aA (.int s),aA (.int deep),aA (.int e),x5,x6]
theorem Lp{w:aR}(h:Small 1000 w){p r:List Nat}{s:Int}{deep:Nat}(hl:Zy w=p++r)(hd:(45∉p/\(cj w ⟨#[45]⟩<0\/(p.length:Int)<cj w ⟨#[45]⟩))\/∃a b,p=a++45::b/\45∉a/\cj w ⟨#[45]⟩=(a.length:Int)) :
  (Zk (YF (Ue (xB (Zh Wb (Za 1) (eC (.int 0)))) (xB (Zh T7 (Za 1) (Za 4)))) (Yd (eP (eC .non))) Zs)
  (Zk (Zl 5 (Ze ZF [Xm ZU (Za 0) XZ (Y4 (Za 1))]))
  (Zk (Zl 6 (Ze ZF [Xm ZU (Za 0) (Y4 (Zh Yp (Za 1) (eC (.int 1)))) (Y4 (Za 4))]))
  (Zk (YF (Ue (xB (Zh Wb (Za 5) (eC (.int 0)))) (xB (Zh Wb (Za 6) (eC (.int 0))))) (Yd (eP (eC .non))) Zs)
  (Yd (eP (Yf [Za 5,Za 6,Za 3]))))))) (Hl w (cj w ⟨#[45]⟩) s (deep:Int) (p.length:Int) none none)=aA (.rt (Kz (Wk p deep))):=by
 rcases hd with⟨hn,hf⟩ | ⟨a,b,hp,ha,hf⟩
 ·have en:Wk p deep=none:=by unfold Wk;rw[Y7 hn]
  rw[en]
  have c:Ue (xB (Zh Wb (Za 1) (eC (.int 0)))) (xB (Zh T7 (Za 1) (Za 4))) (Hl w (cj w ⟨#[45]⟩) s (deep:Int) (p.length:Int) none none)=aA aC:=by
   have c1:xB (Zh Wb (Za 1) (eC (.int 0))) (Hl w (cj w ⟨#[45]⟩) s (deep:Int) (p.length:Int) none none)=aA (decide (cj w ⟨#[45]⟩<0)):=rfl;have c2:xB (Zh T7 (Za 1) (Za 4)) (Hl w (cj w ⟨#[45]⟩) s (deep:Int) (p.length:Int) none none)=aA (decide ((p.length:Int)<cj w ⟨#[45]⟩)):=rfl;rw[Xa,c1,c2];rcases hf with hf | hf
   ·rw[decide_eq_true hf];rfl
   ·rw[decide_eq_true hf];cases decide (cj w ⟨#[45]⟩<0)<;>rfl
  rw[ZI,Zu,c];rfl
 ·rw[hf];generalize hst:(λx5 x6=>Hl w (a.length:Int) s (deep:Int) (p.length:Int) x5 x6)=st;have st_:∀x5 x6,Hl w (a.length:Int) s (deep:Int) (p.length:Int) x5 x6=st x5 x6:=λx5 x6=>by rw[<-hst]
  have pl:p.length=a.length+1+b.length:=by rw[hp];simp;omega
  have wl:(Zy w).length=p.length+r.length:=by rw[hl];simp
  have e1:YF (Ue (xB (Zh Wb (Za 1) (eC (.int 0)))) (xB (Zh T7 (Za 1) (Za 4)))) (Yd (eP (eC .non))) Zs (st none none)=aA (.nx (st none none)):=by
   have c1:xB (Zh Wb (Za 1) (eC (.int 0))) (st none none)=aA aB:=by rw[<-st_];show aA (decide ((a.length:Int)<0))=_;rw[decide_eq_false (by omega)]
   have c2:xB (Zh T7 (Za 1) (Za 4)) (st none none)=aA aB:=by rw[<-st_];show aA (decide ((p.length:Int)<(a.length:Int)))=_;rw[decide_eq_false (by omega)]
   rw[Zu,Xa,c1,c2];rfl
  have ta:(Zy w).take a.length=a:=by rw[hl,hp,dM];simp
  have tb:((Zy w).drop (a.length+1)).take (p.length-(a.length+1))=b:=by
   rw[hl,hp,dM];have:(a++(45::b++r)).drop (a.length+1)=b++r:=by rw[show a++(45::b++r)=(a++[45])++(b++r) by simp];rw[show a.length+1=(a++[45]).length by simp,iX]
   rw[this,show(a++45::b).length-(a.length+1)=b.length by simp;omega];simp
  have sa:Small 1000 (ZW a):=h.sub (by rw[Zr,hl,hp];intro c hc;simp[hc]) (by rw[Zr,wl,pl];omega);have sb:Small 1000 (ZW b):=h.sub (by rw[Zr,hl,hp];intro c hc;simp[hc]) (by rw[Zr,wl,pl];omega)
  have e2:Zl 5 (Ze ZF [Xm ZU (Za 0) XZ (Y4 (Za 1))]) (st none none)=aA (.nx (st (aA (.int (YU a))) none)):=by
   have v:Xm ZU (Za 0) XZ (Y4 (Za 1)) (st none none)=aA (.str (ZW a)):=by rw[<-st_];show ZU (.str w) none (aA (a.length:Int))=_;rw[W4 h.len,JI (by omega),ta]
   have:=RY sa v;rw[Zr] at this;rw[Zv,this,<-st_,<-st_];rfl
  have e3:Zl 6 (Ze ZF [Xm ZU (Za 0) (Y4 (Zh Yp (Za 1) (eC (.int 1)))) (Y4 (Za 4))]) (st (aA (.int (YU a))) none)=aA (.nx (st (aA (.int (YU a))) (aA (.int (YU b))))):=by
   have v:Xm ZU (Za 0) (Y4 (Zh Yp (Za 1) (eC (.int 1)))) (Y4 (Za 4)) (st (aA (.int (YU a))) none)=aA (.str (ZW b)):=by rw[<-st_];show ZU (.str w) (aA ((a.length:Int)+1)) (aA (p.length:Int))=_;rw[W4 h.len,show(a.length:Int)+1=((a.length+1:Nat):Int) by omega,Mc (by omega) (by omega),tb]
   have:=RY sb v;rw[Zr] at this;rw[Zv,this,<-st_,<-st_];rfl
  rw[st_,ZE e1,ZE e2,ZE e3];have c1:xB (Zh Wb (Za 5) (eC (.int 0))) (st (aA (.int (YU a))) (aA (.int (YU b))))=aA (decide (YU a<0)):=by rw[<-st_];rfl
  have c2:xB (Zh Wb (Za 6) (eC (.int 0))) (st (aA (.int (YU a))) (aA (.int (YU b))))=aA (decide (YU b<0)):=by rw[<-st_];rfl
  have es:Zm 45 p=a::Zm 45 b:=by rw[hp,Y3 ha]
  have bad:(YU a<0\/YU b<0)->Wk p deep=none:=λz=>by
   unfold Wk;rw[es]
   match hb:Zm 45 b with
   | []=>rfl
   | [b']=>
    show(if _ then _ else _)=_
    have hbn:45∉b:=λz45=>by
     rcases Wj (ZW b) 45 with⟨q1,_⟩ | ⟨x,y,q1,q2,_⟩
     ·rw[Zr] at q1;exact q1 z45
     ·rw[Zr] at q1;rw[q1,Y3 q2] at hb
      cases hy:Zm 45 y with
      | nil=>exact Xk _ _ hy
      | cons _ _=>rw[hy] at hb;simp at hb
    have:b'=b:=by rw[Y7 hbn] at hb;simpa using hb.symm
    subst this;rw[ma];rintro⟨z1,z2⟩;rcases z with z | z
    ·rw[fig_neg.mp z] at z1;cases z1
    ·rw[fig_neg.mp z] at z2;cases z2
   | b'::b2::r2=>rfl
  by_cases q1:YU a<0
  ·have c:Ue (xB (Zh Wb (Za 5) (eC (.int 0)))) (xB (Zh Wb (Za 6) (eC (.int 0)))) (st (aA (.int (YU a))) (aA (.int (YU b))))=aA aC:=by rw[Xa,c1,decide_eq_true q1];rfl
   rw[ZI,Zu,c,bad (.inl q1)];rfl
  by_cases q2:YU b<0
  ·have c:Ue (xB (Zh Wb (Za 5) (eC (.int 0)))) (xB (Zh Wb (Za 6) (eC (.int 0)))) (st (aA (.int (YU a))) (aA (.int (YU b))))=aA aC:=by rw[Xa,c1,decide_eq_false q1,c2,decide_eq_true q2];rfl
   rw[ZI,Zu,c,bad (.inr q2)];rfl
  have c:Ue (xB (Zh Wb (Za 5) (eC (.int 0)))) (xB (Zh Wb (Za 6) (eC (.int 0)))) (st (aA (.int (YU a))) (aA (.int (YU b))))=aA aB:=by rw[Xa,c1,decide_eq_false q1,c2,decide_eq_false q2];rfl
  have e4:YF (Ue (xB (Zh Wb (Za 5) (eC (.int 0)))) (xB (Zh Wb (Za 6) (eC (.int 0))))) (Yd (eP (eC .non))) Zs (st (aA (.int (YU a))) (aA (.int (YU b))))=aA (.nx (st (aA (.int (YU a))) (aA (.int (YU b))))):=by rw[Zu,c];rfl
  have pa:ZL a=aC:=by
   cases z:ZL a with
   | true=>rfl
   | false=>exact absurd (fig_neg.mpr z) q1
  have pb:ZL b=aC:=by
   cases z:ZL b with
   | true=>rfl
   | false=>exact absurd (fig_neg.mpr z) q2
  have hbn:45∉b:=λz45=>by rw[T5 (RZ 45 (by omega)) z45] at pb;cases pb
  have en:Wk p deep=aA (YC a,YC b,deep):=by unfold Wk;rw[es,Y7 hbn];show(if _ then _ else _)=_;rw[mZ ⟨pa,pb⟩]
  have fa:YU a=(YC a:Int):=by unfold YU;rw[mZ pa]
  have fb:YU b=(YC b:Int):=by unfold YU;rw[mZ pb]
  rw[ZE e4,en,<-st_,fa,fb];rfl
theorem BZ{w:aR}(h:Small 1000 w):U3 [.str w]=aA (Kz (Xd (Zy w))):=by
 have hw:=h.ls;let dd:=cj w ⟨#[45]⟩;let ss:=cj w ⟨#[42]⟩;let s7:Option PV->Option PV->Option PV->Option PV->ZS:=λx1 x2 x3 x4=>[aA (.str w),x1,x2,x3,x4,none,none];have e1:Zl 1 (eP (Zh V0 (Za 0) (eC (.str "-")))) (s7 none none none none)=aA (.nx (s7 (aA (.int dd)) none none none)):=rfl;have e2:Zl 2 (eP (Zh V0 (Za 0) (eC (.str "*")))) (s7 (aA (.int dd)) none none none)=aA (.nx (s7 (aA (.int dd)) (aA (.int ss)) none none)):=rfl;have e3:Zl 3 (eP (eC (.int 1))) (s7 (aA (.int dd)) (aA (.int ss)) none none)=aA (.nx (s7 (aA (.int dd)) (aA (.int ss)) (aA (.int 1)) none)):=rfl
 have e4:Zl 4 (eP (Ze ZR [Za 0])) (s7 (aA (.int dd)) (aA (.int ss)) (aA (.int 1)) none)=aA (.nx (s7 (aA (.int dd)) (aA (.int ss)) (aA (.int 1)) (aA (.int ((Zy w).length:Int))))):=by
  have:Ze ZR [Za 0] (s7 (aA (.int dd)) (aA (.int ss)) (aA (.int 1)) none)=aA (.int ((Zy w).length:Int)):=by rw[ZC];exact Oh h.len
  rw[Zv,vP this];rfl
 show WC 7 Q9 _=_;unfold Q9;show(Zk _ _ (s7 none none none none)).bind Xv=_;rw[ZE e1,ZE e2,ZE e3,ZE e4]
 -- where the dash is,for a first part p
 have dash:∀p r,Zy w=p++r->(r=[]\/∃q,r=42::q)->(45∉p/\(dd<0\/(p.length:Int)<dd))\/∃a b,p=a++45::b/\45∉a/\dd=(a.length:Int):=λp r hl hr=>by
  rcases Wj w 45 with⟨q1,q2⟩ | ⟨x,y,q1,q2,q3⟩
  ·exact .inl ⟨λz=>q1 (by rw[hl];simp[z]),.inl (by show cj w ⟨#[45]⟩<0;rw[q2];decide)⟩
  ·by_cases hp:45∈p
   ·obtain⟨a,b,hab,han⟩:∃a b,p=a++45::b/\45∉a:=by
     rcases Wj (ZW p) 45 with⟨z1,_⟩ | ⟨a,b,z1,z2,_⟩
     ·rw[Zr] at z1;exact absurd hp z1
     ·rw[Zr] at z1;exact⟨a,b,z1,z2⟩
    right;refine⟨a,b,hab,han,?_⟩;have:a++45::(b++r)=x++45::y:=by rw[<-q1,hl,hab];simp
    obtain⟨e,_⟩:=RW han q2 this;show cj w ⟨#[45]⟩=_;rw[q3,e]
   ·left;refine⟨hp,.inr ?_⟩;show _<cj w ⟨#[45]⟩;rw[q3];rcases hr with rfl | ⟨q,rfl⟩
    ·exfalso;rw[bI] at hl;exact hp (by rw[<-hl,q1];simp)
    ·have hx:¬x.length<=p.length:=λhle=>by
      have h1:(p++42::q)[x.length]?=aA 45:=by rw[<-hl,q1];simp
      by_cases hlt:x.length<p.length
      ·rw[bT hlt] at h1;exact hp (b7 h1)
      ·have:x.length=p.length:=by omega
       rw[this] at h1;simp at h1
     omega
 rcases Wj w 42 with⟨q1,q2⟩ | ⟨p,q,q1,q2,q3⟩
 ·have c:xB (Zh DZ (Za 2) (eC (.int 0))) (s7 (aA (.int dd)) (aA (.int ss)) (aA (.int 1)) (aA (.int ((Zy w).length:Int))))=aA aB:=by show aA (decide ((0:Int)<=cj w ⟨#[42]⟩))=_;rw[q2];rfl
  have tr:Xd (Zy w)=Wk (Zy w) 1:=by unfold Xd;rw[Y7 q1]
  have e5:∀f:XS,YF (xB (Zh DZ (Za 2) (eC (.int 0)))) f Zs (s7 (aA (.int dd)) (aA (.int ss)) (aA (.int 1)) (aA (.int ((Zy w).length:Int))))=aA (.nx (s7 (aA (.int dd)) (aA (.int ss)) (aA (.int 1)) (aA (.int ((Zy w).length:Int))))):=λf=>by rw[Zu,c];rfl
  rw[ZE (e5 _),tr];have:=Lp h (p:=Zy w) (r:=[]) (s:=ss) (deep:=1) (by simp) (dash _ [] (by simp) (.inl rfl));exact(congrArg (λo=>eK o Xv) this).trans rfl
 ·have sl:ss=(p.length:Int):=q3;have c:xB (Zh DZ (Za 2) (eC (.int 0))) (s7 (aA (.int dd)) (aA (.int ss)) (aA (.int 1)) (aA (.int ((Zy w).length:Int))))=aA aC:=by show aA (decide ((0:Int)<=ss))=_;rw[sl,decide_eq_true (by omega)]
  have wl:(Zy w).length=p.length+1+q.length:=by rw[q1];simp;omega
  have dq:(Zy w).drop (p.length+1)=q:=by rw[q1,show p++42::q=(p++[42])++q by simp,show p.length+1=(p++[42]).length by simp,iX]
  have sq:Small 1000 (ZW q):=h.sub (by rw[Zr,q1];intro c hc;simp[hc]) (by rw[Zr,wl];omega);have f1:Zl 4 (eP (Za 2)) (s7 (aA (.int dd)) (aA (.int ss)) (aA (.int 1)) (aA (.int ((Zy w).length:Int))))=aA (.nx (s7 (aA (.int dd)) (aA (.int ss)) (aA (.int 1)) (aA (.int ss)))):=rfl
  have f2:Zl 3 (Ze ZF [Xm ZU (Za 0) (Y4 (Zh Yp (Za 2) (eC (.int 1)))) XZ]) (s7 (aA (.int dd)) (aA (.int ss)) (aA (.int 1)) (aA (.int ss)))=aA (.nx (s7 (aA (.int dd)) (aA (.int ss)) (aA (.int (YU q))) (aA (.int ss)))):=by
   have v:Xm ZU (Za 0) (Y4 (Zh Yp (Za 2) (eC (.int 1)))) XZ (s7 (aA (.int dd)) (aA (.int ss)) (aA (.int 1)) (aA (.int ss)))=aA (.str (ZW q)):=by show ZU (.str w) (aA (ss+1)) none=_;rw[W4 h.len,sl,show(p.length:Int)+1=((p.length+1:Nat):Int) by omega,Sn (by omega),dq]
   have:=RY sq v;rw[Zr] at this;rw[Zv,this];rfl
  have c2:xB (Zh Wb (Za 3) (eC (.int 2))) (s7 (aA (.int dd)) (aA (.int ss)) (aA (.int (YU q))) (aA (.int ss)))=aA (decide (YU q<2)):=rfl;by_cases z:YU q<2
  ·have tr:Xd (Zy w)=none:=by
    unfold Xd;rw[q1,Y3 q2]
    match hq:Zm 42 q with
    | []=>exact absurd hq (Xk _ _)
    | [q']=>
     show(if _ then _ else _)=_
     have hqn:42∉q:=λz42=>by
      rcases Wj (ZW q) 42 with⟨y1,_⟩ | ⟨x,y,y1,y2,_⟩
      ·rw[Zr] at y1;exact y1 z42
      ·rw[Zr] at y1;rw[y1,Y3 y2] at hq
       cases hy:Zm 42 y with
       | nil=>exact Xk _ _ hy
       | cons _ _=>rw[hy] at hq;simp at hq
     have:q'=q:=by rw[Y7 hqn] at hq;simpa using hq.symm
     subst this;rw[ma (fig_two.mp z)]
    | q'::q2::r2=>rfl
   have b:(Zk (Zl 4 (eP (Za 2))) (Zk (Zl 3 (Ze ZF [Xm ZU (Za 0) (Y4 (Zh Yp (Za 2) (eC (.int 1)))) XZ])) (YF (xB (Zh Wb (Za 3) (eC (.int 2)))) (Yd (eP (eC .non))) Zs))) (s7 (aA (.int dd)) (aA (.int ss)) (aA (.int 1)) (aA (.int ((Zy w).length:Int))))=aA (.rt .non):=by rw[ZE f1,ZE f2,Zu,c2,decide_eq_true z];rfl
   rw[ZI,Zu,c,aD,mZ rfl,b,tr];rfl
  ·have hz:ZL q=aC/\2<=YC q:=Classical.byContradiction λy=>z (fig_two.mpr y);have hqn:42∉q:=λz42=>by have:=hz.1;rw[T5 (RZ 42 (by omega)) z42] at this;cases this
   have tr:Xd (Zy w)=Wk p (YC q):=by unfold Xd;rw[q1,Y3 q2,Y7 hqn];show(if _ then _ else _)=_;rw[mZ hz]
   have fv:YU q=(YC q:Int):=by unfold YU;rw[mZ hz.1]
   have b:YF (xB (Zh DZ (Za 2) (eC (.int 0)))) (Zk (Zl 4 (eP (Za 2))) (Zk (Zl 3 (Ze ZF [Xm ZU (Za 0) (Y4 (Zh Yp (Za 2) (eC (.int 1)))) XZ])) (YF (xB (Zh Wb (Za 3) (eC (.int 2)))) (Yd (eP (eC .non))) Zs))) Zs (s7 (aA (.int dd)) (aA (.int ss)) (aA (.int 1)) (aA (.int ((Zy w).length:Int))))=aA (.nx (s7 (aA (.int dd)) (aA (.int ss)) (aA (.int (YC q:Int))) (aA (.int (p.length:Int))))):=by rw[Zu,c,aD,mZ rfl,ZE f1,ZE f2,Zu,c2,decide_eq_false z,<-fv,<-sl];rfl
   rw[ZE b,tr];have:=Lp h (p:=p) (r:=42::q) (s:=ss) (deep:=YC q) q1 (dash p (42::q) q1 (.inr ⟨q,rfl⟩));exact(congrArg (λo=>eK o Xv) this).trans rfl
abbrev Z3:=Nat×Nat×Nat
def S7:List (List Nat)->Option (List Z3)
 | []=>aA []
 | p::ps=>(Xd p).bind λz=>(S7 ps).map (z::·)
def SI:List Nat->Option (List Z3)
 | []=>aA []
 | c::r=>if c=32 then S7 (Zm 32 r) else none
def Vp(l:List Nat):Option (Nat×List Z3):=match Zm 32 l with
 | []=>none
 | w0::ws=>if w0.getLast?=aA 58/\ZL w0.dropLast=aC then(S7 ws).map λzs=>(YC w0.dropLast,zs) else none
def KA:Option (Nat×List Z3)->PV
 | some (m,zs)=>.tup [.int (m:Int),.lst (zs.map zT)]
 | none=>.non
def S8(t:aR)(c0:Int)(m6:aR)(F:List Z3)(x4 x5:Option PV):ZS:=[aA (.str t),aA (.int c0),aA (.str m6),aA (.lst (F.map zT)),x4,x5]
def fR:XS:=(Zk (Zl 4 (eP (Zh Yp (Zh V0 (Xm ZU (Za 2) (Y4 (eC (.int 1))) XZ) (eC (.str " "))) (eC (.int 1)))))
  (Zk (YF (xB (Zh (YJ aB) (Za 4) (eC (.int 0)))) (Zl 4 (eP (Ze ZR [Za 2]))) Zs)
  (Zk (Zl 5 (Ze U3 [Xm ZU (Za 2) (Y4 (eC (.int 1))) (Y4 (Za 4))]))
  (Zk (YF (Ue (xB (Zh (YJ aC) (Zh ZK (Za 2) (eC (.int 0))) (eC (.str " ")))) (xB (Vc aB (Za 5)))) (Yd (eP (eC .non))) Zs)
  (Zk (XB 3 (eP (Za 5)))
  (Zl 2 (eP (Xm ZU (Za 2) (Y4 (Za 4)) XZ))))))))
theorem V7{f:XE}{s:ZS}{x:aR}(h:f s=aA (.str x)):eP f s=aA (.str x):=by rw[Wa,h];rfl
theorem Dz{t:aR}{c0:Int}{c:Nat}{w r2:List Nat}{F:List Z3}{x4 x5:Option PV}(h:Small 1000 (ZW (c::(w++r2))))(hw:32∉w)(hr:r2=[]\/∃r',r2=32::r')(hF:F.length<=2000) :
  fR (S8 t c0 (ZW (c::(w++r2))) F x4 x5)=if c=32 then(match Xd w with | some z=>aA (.nx (S8 t c0 (ZW r2) (F++[z]) (aA (.int ((w.length+1:Nat):Int))) (aA (zT z)))) | none=>aA (.rt .non)) else aA (.rt .non):=by
 have hx:=h.len;have ll:Zy (ZW (c::(w++r2)))=c::(w++r2):=Zr _;let X:=ZW (c::(w++r2))
 -- the blank behind the word
 have f1:dH X (aA 1) none=ZW (w++r2):=by have:=Sn (x:=X) (k:=1) (by rw[ll];simp);rw[show(aA (1:Int))=aA ((1:Nat):Int) from rfl,this,ll];rfl
 have v1:Xm ZU (Za 2) (Y4 (eC (.int 1))) XZ (S8 t c0 X F x4 x5)=aA (.str (ZW (w++r2))):=by show ZU (.str X) (aA 1) none=_;rw[W4 hx,f1]
 have s4:∃e0:Int,Zl 4 (eP (Zh Yp (Zh V0 (Xm ZU (Za 2) (Y4 (eC (.int 1))) XZ) (eC (.str " "))) (eC (.int 1)))) (S8 t c0 X F x4 x5)=aA (.nx (S8 t c0 X F (aA (.int e0)) x5))/\YF (xB (Zh (YJ aB) (Za 4) (eC (.int 0)))) (Zl 4 (eP (Ze ZR [Za 2]))) Zs (S8 t c0 X F (aA (.int e0)) x5)=aA (.nx (S8 t c0 X F (aA (.int ((w.length+1:Nat):Int))) x5)):=by
  have v2:Zh V0 (Xm ZU (Za 2) (Y4 (eC (.int 1))) XZ) (eC (.str " ")) (S8 t c0 X F x4 x5)=aA (.int (cj (ZW (w++r2)) ⟨#[32]⟩)):=by rw[ZH,v1];rfl
  have v3:Zh Yp (Zh V0 (Xm ZU (Za 2) (Y4 (eC (.int 1))) XZ) (eC (.str " "))) (eC (.int 1)) (S8 t c0 X F x4 x5)=aA (.int (cj (ZW (w++r2)) ⟨#[32]⟩+1)):=vI (op:=(· + ·)) v2 rfl;refine⟨_,by rw[Zv,vP v3];rfl,?_⟩;rcases Wj (ZW (w++r2)) 32 with⟨q1,q2⟩ | ⟨p,q,q1,q2,q3⟩
  ·rw[Zr] at q1;rcases hr with rfl | ⟨r',rfl⟩
   ·rw[q2];have c:xB (Zh (YJ aB) (Za 4) (eC (.int 0))) (S8 t c0 X F (aA (.int (-1+1))) x5)=aA aC:=by show(YJ aB (.int (-1+1)) (.int 0)).bind MN=_;simp
    have lv:Ze ZR [Za 2] (S8 t c0 X F (aA (.int (-1+1))) x5)=aA (.int ((w.length+1:Nat):Int)):=by rw[ZC];show ZR [.str X]=_;rw[Oh hx,ll];simp
    rw[Zu,c,aD,mZ rfl,Zv,vP lv];rfl
   ·exact absurd (by simp) q1
  ·rw[Zr] at q1;rcases hr with rfl | ⟨r',rfl⟩
   ·exfalso;rw[bI] at q1;exact hw (by rw[q1];simp)
   ·obtain⟨e,_⟩:=RW hw q2 q1;rw[q3,<-e]
    have c:xB (Zh (YJ aB) (Za 4) (eC (.int 0))) (S8 t c0 X F (aA (.int ((w.length:Int)+1))) x5)=aA aB:=by
     show(YJ aB (.int ((w.length:Int)+1)) (.int 0)).bind MN=_;have:¬((w.length:Int)+1=0):=by omega
     simp[this]
    rw[Zu,c];rfl
 obtain⟨e0,g1,g2⟩:=s4;have sw:Small 1000 (ZW w):=h.sub (by rw[Zr,ll];intro c hc;simp[hc]) (by rw[Zr,ll];simp;omega);let s4:=S8 t c0 X F (aA (.int ((w.length+1:Nat):Int)))
 have g3:Zl 5 (Ze U3 [Xm ZU (Za 2) (Y4 (eC (.int 1))) (Y4 (Za 4))]) (s4 x5)=aA (.nx (s4 (aA (Kz (Xd w))))):=by
  have v:Xm ZU (Za 2) (Y4 (eC (.int 1))) (Y4 (Za 4)) (s4 x5)=aA (.str (ZW w)):=by show ZU (.str X) (aA 1) (aA ((w.length+1:Nat):Int))=_;rw[W4 hx,show(aA (1:Int))=aA ((1:Nat):Int) from rfl,Mc (by omega) (by rw[ll];simp),ll];simp
  have:Ze U3 [Xm ZU (Za 2) (Y4 (eC (.int 1))) (Y4 (Za 4))] (s4 x5)=aA (Kz (Xd w)):=by rw[ZC,ZM,v];have:=BZ sw;rw[Zr] at this;exact this
  rw[Zv,this];rfl
 have c1:xB (Zh (YJ aC) (Zh ZK (Za 2) (eC (.int 0))) (eC (.str " "))) (s4 (aA (Kz (Xd w))))=aA (!decide (c=32)):=by have v:Zh ZK (Za 2) (eC (.int 0)) (s4 (aA (Kz (Xd w))))=aA (.str ⟨#[c]⟩):=Lo hx ll;rw[Yq,ZH,v];show(YJ aC (.str ⟨#[c]⟩) (.str " ")).bind _=_;rw[Og];simp only[if_true,aD,UZ];rw[show decide ((⟨#[c]⟩:aR)=(cN " "))=decide (Zy (⟨#[c]⟩:aR)=[32]) from Of _ rfl,Ff];simp
 have c2:xB (Vc aB (Za 5)) (s4 (aA (Kz (Xd w))))=aA (Xd w).isNone:=by
  cases Xd w with
  | none=>rfl
  | some z=>rfl
 unfold fR;rw[show S8 t c0 (ZW (c::(w++r2))) F x4 x5=S8 t c0 X F x4 x5 from rfl,ZE g1,ZE g2];show Zk _ _ (s4 x5)=_;rw[ZE g3];by_cases hc:c=32
 ·rw[mZ hc];rw[decide_eq_true hc] at c1
  cases htr:Xd w with
  | none=>
   rw[htr] at c1 c2;rw[ZI,Zu,Xa,c1];simp only[aD,mH,bS,if_false];rw[c2];rfl
  | some z=>
   rw[htr] at c1 c2;have g4:YF (Ue (xB (Zh (YJ aC) (Zh ZK (Za 2) (eC (.int 0))) (eC (.str " ")))) (xB (Vc aB (Za 5)))) (Yd (eP (eC .non))) Zs (s4 (aA (zT z)))=aA (.nx (s4 (aA (zT z)))):=by rw[Zu,Xa];rw[show xB (Zh (YJ aC) (Zh ZK (Za 2) (eC (.int 0))) (eC (.str " "))) (s4 (aA (zT z)))=aA aB from c1,show xB (Vc aB (Za 5)) (s4 (aA (zT z)))=aA aB from c2];rfl
   have g5:XB 3 (eP (Za 5)) (s4 (aA (zT z)))=aA (.nx (S8 t c0 X (F++[z]) (aA (.int ((w.length+1:Nat):Int))) (aA (zT z)))):=by rw[SW (l:=zT z) (m:=F.map zT) rfl rfl (by rw[aN];omega)];show aA (Out.nx _)=_;unfold S8;rw[bt];rfl
   have g6:Zl 2 (eP (Xm ZU (Za 2) (Y4 (Za 4)) XZ)) (S8 t c0 X (F++[z]) (aA (.int ((w.length+1:Nat):Int))) (aA (zT z)))=aA (.nx (S8 t c0 (ZW r2) (F++[z]) (aA (.int ((w.length+1:Nat):Int))) (aA (zT z)))):=by
    have v:Xm ZU (Za 2) (Y4 (Za 4)) XZ (S8 t c0 X (F++[z]) (aA (.int ((w.length+1:Nat):Int))) (aA (zT z)))=aA (.str (ZW r2)):=by show ZU (.str X) (aA ((w.length+1:Nat):Int)) none=_;rw[W4 hx,Sn (by rw[ll];simp),ll];show aA (PV.str (ZW (List.drop (w.length+1) (c::(w++r2)))))=_;rw[iD,iX]
    rw[Zv,V7 v];rfl
   show Zk _ _ (s4 (aA (zT z)))=_;rw[ZE g4,ZE g5,g6]
 ·rw[ma hc];rw[decide_eq_false hc] at c1;rw[ZI,Zu,Xa,c1];rfl
theorem Hm{t:aR}{c0:Int}:∀(n:Nat)(r:List Nat)(F:List Z3)(x4 x5:Option PV),r.length<=n->Small 1000 (ZW r)->F.length+r.length<=1500->
  (∃zs x4' x5',SI r=aA zs/\YM (xB (Zh (YJ aC) (Za 2) (eC (.str "")))) fR (n+1) (S8 t c0 (ZW r) F x4 x5)=aA (.nx (S8 t c0 (ZW []) (F++zs) x4' x5')))\/(SI r=none/\YM (xB (Zh (YJ aC) (Za 2) (eC (.str "")))) fR (n+1) (S8 t c0 (ZW r) F x4 x5)=aA (.rt .non)):=by
 have cnd:∀r F x4 x5,xB (Zh (YJ aC) (Za 2) (eC (.str ""))) (S8 t c0 (ZW r) F x4 x5)=aA (!decide (r=[])):=λr F x4 x5=>by rw[Yq,ZH];show(YJ aC (.str (ZW r)) (.str "")).bind _=_;rw[Og];simp only[if_true,aD,UZ];rw[show decide (ZW r=(cN ""))=decide (Zy (ZW r)=[]) from Of _ rfl,Zr]
 intro n
 induction n with
 | zero=>
  intro r F x4 x5 hr h hF;have:r=[]:=List.length_eq_zero_iff.mp (by omega);subst this;refine .inl ⟨[],x4,x5,rfl,?_⟩;unfold YM;rw[cnd,bI];rfl
 | succ n ih=>
  intro r F x4 x5 hr h hF
  cases r with
  | nil=>
   refine .inl ⟨[],x4,x5,rfl,?_⟩;unfold YM;rw[cnd,bI];rfl
  | cons c r=>
   obtain⟨w,r2,hwr,hw,hr2,hall⟩:∃w r2,r=w++r2/\32∉w/\(r2=[]\/∃r',r2=32::r')/\S7 (Zm 32 r)=(Xd w).bind λz=>(SI r2).map (z::·):=by
    rcases Wj (ZW r) 32 with⟨q1,_⟩ | ⟨p,q,q1,q2,_⟩
    ·rw[Zr] at q1;refine⟨r,[],by simp,q1,.inl rfl,?_⟩;rw[Y7 q1];show(Xd r).bind (λz=>(aA []).map (z::·))=_;rfl
    ·rw[Zr] at q1;refine⟨p,32::q,q1,q2,.inr ⟨q,rfl⟩,?_⟩;rw[q1,Y3 q2];rfl
   subst hwr;have te:=Dz (t:=t) (c0:=c0) (F:=F) (x4:=x4) (x5:=x5) h hw hr2 (by simp at hF;omega)
   have step:YM (xB (Zh (YJ aC) (Za 2) (eC (.str "")))) fR (n+1+1) (S8 t c0 (ZW (c::(w++r2))) F x4 x5)=(fR (S8 t c0 (ZW (c::(w++r2))) F x4 x5)).bind λo=>match o with | .nx s2=>YM (xB (Zh (YJ aC) (Za 2) (eC (.str "")))) fR (n+1) s2 | .ct s2=>YM (xB (Zh (YJ aC) (Za 2) (eC (.str "")))) fR (n+1) s2 | .bk s2=>aA (.nx s2) | .rt v=>aA (.rt v):=by
    conv=>lhs;unfold YM
    rw[cnd];rfl
   rw[step,te];by_cases hc:c=32
   ·have rr:SI (c::(w++r2))=(Xd w).bind λz=>(SI r2).map (z::·):=by show(if c=32 then _ else _)=_;rw[mZ hc,hall]
    rw[mZ hc,rr]
    cases htr:Xd w with
    | none=>exact .inr ⟨rfl,rfl⟩
    | some z=>
     have s2:Small 1000 (ZW r2):=h.sub (by rw[Zr,Zr];intro a ha;simp[ha]) (by rw[Zr,Zr];simp;omega);simp at hr hF;rcases ih r2 (F++[z]) (aA (.int ((w.length+1:Nat):Int))) (aA (zT z)) (by omega) s2 (by simp;omega) with⟨zs,y4,y5,h1,h2⟩ | ⟨h1,h2⟩
     ·refine .inl ⟨z::zs,y4,y5,by rw[h1];rfl,?_⟩;simp only[aD];rw[h2,dM];rfl
     ·exact .inr ⟨by rw[h1];rfl,h2⟩
   ·rw[ma hc];refine .inr ⟨?_,rfl⟩;show(if c=32 then _ else _)=_;rw[ma hc]
theorem DA{l:List Nat}(h:58∉l):Vp l=none:=by
 unfold Vp
 cases e:Zm 32 l with
 | nil=>rfl
 | cons w0 ws=>
  show(if _ then _ else _)=_;rw[ma];rintro⟨h1,_⟩;have:=(S6 32 l w0 (by rw[e];simp)).1 58 (List.mem_of_getLast? h1);exact h this
theorem Lq{l hh r:List Nat}(e:l=hh++58::r)(hn:58∉hh):Vp l=if ZL hh=aC then(SI r).map λzs=>(YC hh,zs) else none:=by
 by_cases hp:ZL hh=aC
 ·rw[mZ hp];have h32:32∉hh:=λz=>by rw[T5 (RZ 32 (by omega)) z] at hp;cases hp
  unfold Vp
  cases r with
  | nil=>
   have:Zm 32 l=[hh++[58]]:=by rw[e];exact Y7 (by simp[h32])
   rw[this];show(if _ then _ else _)=_;rw[mZ ⟨by simp,by simpa using hp⟩];simp[S7,SI]
  | cons c r=>
   by_cases hc:c=32
   ·subst hc;have:Zm 32 l=(hh++[58])::Zm 32 r:=by rw[e,show hh++58::32::r=(hh++[58])++32::r by simp];exact Y3 (by simp[h32])
    rw[this];show(if _ then _ else _)=_;rw[mZ ⟨by simp,by simpa using hp⟩];simp[SI]
   ·have:SI (c::r)=none:=by show(if c=32 then _ else _)=_;rw[ma hc]
    rw[this]
    cases e2:Zm 32 l with
    | nil=>rfl
    | cons w0 ws=>
     show(if _ then _ else _)=_;rw[ma]
     ·rfl
     rintro⟨h1,h2⟩
     -- the first word goes on behind the colon
     obtain⟨u,hu⟩:∃u,w0=hh++58::c::u:=by
      rcases Wj (ZW r) 32 with⟨q1,_⟩ | ⟨p,q,q1,q2,_⟩
      ·rw[Zr] at q1;have hc':(32:Nat)≠c:=λz=>hc z.symm;rw[e,Y7 (by simp[h32,q1,hc'])] at e2;exact⟨r,by simpa using(fT e2).1.symm⟩
      ·rw[Zr] at q1;have hc':(32:Nat)≠c:=λz=>hc z.symm;rw[e,q1,show hh++58::c::(p++32::q)=(hh++58::c::p)++32::q by simp,Y3 (by simp[h32,q2,hc'])] at e2;exact⟨p,(fT e2).1.symm⟩
     have:58∈w0.dropLast:=by rw[hu,show hh++58::c::u=(hh++[58])++(c::u) by simp,List.dropLast_append_of_ne_nil (by simp)];simp
     rw[T5 (RZ 58 (by omega)) this] at h2;cases h2
 ·rw[ma hp];unfold Vp
  cases e2:Zm 32 l with
  | nil=>rfl
  | cons w0 ws=>
   show(if _ then _ else _)=_;rw[ma];rintro⟨h1,h2⟩;refine hp ?_
   -- the first word is figures and a colon
   have hw:w0=w0.dropLast++[58]:=by
    have hne:w0≠[]:=λz=>by rw[z] at h1;cases h1
    rw[List.getLast?_eq_getLast hne] at h1;have:=List.dropLast_concat_getLast hne;rw[show w0.getLast hne=58 from by simpa using h1] at this;exact this.symm
   have hd:58∉w0.dropLast:=λz=>by rw[T5 (RZ 58 (by omega)) z] at h2;cases h2
   obtain⟨v,hv⟩:∃v,l=w0++v:=by
    rcases Wj (ZW l) 32 with⟨q1,_⟩ | ⟨p,q,q1,q2,_⟩
    ·rw[Zr] at q1;rw[Y7 q1] at e2;exact⟨[],by rw[<-(fT e2).1];simp⟩
    ·rw[Zr] at q1;rw[q1,Y3 q2] at e2;exact⟨32::q,by rw[q1,<-(fT e2).1]⟩
   have:w0.dropLast++58::v=hh++58::r:=by
    rw[<-e,hv]
    conv=>rhs;rw[hw]
    simp
   obtain⟨e3,_⟩:=RW hd hn this;rw[<-e3];exact h2
theorem KC{t:aR}(h:Small 1000 t):Wy [.str t]=aA (KA (Vp (Zy t))):=by
 let s6:Option PV->Option PV->Option PV->ZS:=λx1 x2 x3=>[aA (.str t),x1,x2,x3,none,none];have e1:Zl 1 (eP (Zh V0 (Za 0) (eC (.str ":")))) (s6 none none none)=aA (.nx (s6 (aA (.int (cj t ⟨#[58]⟩))) none none)):=rfl;show WC 6 Up _=_;unfold Up;show(Zk _ _ (s6 none none none)).bind Xv=_;rw[ZE e1];rcases Wj t 58 with⟨q1,q2⟩ | ⟨p,q,q1,q2,q3⟩
 ·rw[DA q1,q2];have c:Ue (xB (Zh Wb (Za 1) (eC (.int 0)))) (xB (Zh Wb (Ze ZF [Xm ZU (Za 0) XZ (Y4 (Za 1))]) (eC (.int 0)))) (s6 (aA (.int (-1))) none none)=aA aC:=by rw[Xa];rw[show xB (Zh Wb (Za 1) (eC (.int 0))) (s6 (aA (.int (-1))) none none)=aA aC from rfl];rfl
  rw[ZI,Zu,c];rfl
 ·rw[Lq q1 q2,q3];have tl:(Zy t).length=p.length+1+q.length:=by rw[q1];simp;omega
  have sp:Small 1000 (ZW p):=h.sub (by rw[Zr,q1];intro c hc;simp[hc]) (by rw[Zr,tl];omega);have sq:Small 1000 (ZW q):=h.sub (by rw[Zr,q1];intro c hc;simp[hc]) (by rw[Zr,tl];omega)
  have fg:∀x2 x3 x4 x5,Ze ZF [Xm ZU (Za 0) XZ (Y4 (Za 1))] [aA (.str t),aA (.int (p.length:Int)),x2,x3,x4,x5]=aA (.int (YU p)):=λx2 x3 x4 x5=>by
   have v:Xm ZU (Za 0) XZ (Y4 (Za 1)) [aA (.str t),aA (.int (p.length:Int)),x2,x3,x4,x5]=aA (.str (ZW p)):=by show ZU (.str t) none (aA (p.length:Int))=_;rw[W4 h.len,JI (by omega),q1];simp
   have:=RY sp v;rw[Zr] at this;exact this
  have c:Ue (xB (Zh Wb (Za 1) (eC (.int 0)))) (xB (Zh Wb (Ze ZF [Xm ZU (Za 0) XZ (Y4 (Za 1))]) (eC (.int 0)))) (s6 (aA (.int (p.length:Int))) none none)=aA (decide (YU p<0)):=by
   have c1:xB (Zh Wb (Za 1) (eC (.int 0))) (s6 (aA (.int (p.length:Int))) none none)=aA aB:=by show aA (decide ((p.length:Int)<0))=_;rw[decide_eq_false (by omega)]
   have c2:xB (Zh Wb (Ze ZF [Xm ZU (Za 0) XZ (Y4 (Za 1))]) (eC (.int 0))) (s6 (aA (.int (p.length:Int))) none none)=aA (decide (YU p<0)):=by rw[Yq,ZH,fg];rfl
   rw[Xa,c1,c2];rfl
  by_cases hp:ZL p=aC
  ·rw[mZ hp];have fv:YU p=(YC p:Int):=by unfold YU;rw[mZ hp]
   have e2:YF (Ue (xB (Zh Wb (Za 1) (eC (.int 0)))) (xB (Zh Wb (Ze ZF [Xm ZU (Za 0) XZ (Y4 (Za 1))]) (eC (.int 0))))) (Yd (eP (eC .non))) Zs (s6 (aA (.int (p.length:Int))) none none)=aA (.nx (s6 (aA (.int (p.length:Int))) none none)):=by rw[Zu,c,decide_eq_false (by rw[fv];omega)];rfl
   have e3:Zl 2 (eP (Xm ZU (Za 0) (Y4 (Zh Yp (Za 1) (eC (.int 1)))) XZ)) (s6 (aA (.int (p.length:Int))) none none)=aA (.nx (s6 (aA (.int (p.length:Int))) (aA (.str (ZW q))) none)):=by
    have v:Xm ZU (Za 0) (Y4 (Zh Yp (Za 1) (eC (.int 1)))) XZ (s6 (aA (.int (p.length:Int))) none none)=aA (.str (ZW q)):=by show ZU (.str t) (aA ((p.length:Int)+1)) none=_;rw[W4 h.len,show(p.length:Int)+1=((p.length+1:Nat):Int) by omega,Sn (by omega),q1,show p++58::q=(p++[58])++q by simp,show p.length+1=(p++[58]).length by simp,iX]
    rw[Zv,V7 v];rfl
   have e4:Zl 3 (YO []) (s6 (aA (.int (p.length:Int))) (aA (.str (ZW q))) none)=aA (.nx (S8 t (p.length:Int) (ZW q) [] none none)):=rfl;rw[ZE e2,ZE e3,ZE e4];have tq:=sq.ls;rw[Zr] at tq;rcases Hm (t:=t) (c0:=(p.length:Int)) q.length q [] none none (ar _) sq (by simp;omega) with⟨zs,x4,x5,h1,h2⟩ | ⟨h1,h2⟩
   ·rw[h1];have e5:UY (xB (Zh (YJ aC) (Za 2) (eC (.str "")))) fR (S8 t (p.length:Int) (ZW q) [] none none)=aA (.nx (S8 t (p.length:Int) (ZW []) ([]++zs) x4 x5)):=Qi h2;have e5':=e5;unfold fR at e5';rw[ZE e5'];unfold L8;rw[show Ze ZF [Xm ZU (Za 0) XZ (Y4 (Za 1))] (S8 t (p.length:Int) (ZW []) ([]++zs) x4 x5)=aA (.int (YU p)) from fg _ _ _ _,fv];rfl
   ·rw[h1];have e5:UY (xB (Zh (YJ aC) (Za 2) (eC (.str "")))) fR (S8 t (p.length:Int) (ZW q) [] none none)=aA (.rt .non):=Qi h2;unfold fR at e5;rw[ZI,e5];rfl
  ·rw[ma hp];have:YU p<0:=fig_neg.mpr (g8.mpr hp);rw[ZI,Zu,c,decide_eq_true this];rfl
theorem Lr(l:List Nat):iJ (ZW l) (":" : String)=decide (l.getLast?=aA 58):=by
 unfold iJ;have hl:(cN ":").length=1:=rfl;have hlen:(ZW l).length=l.length:=by rw[XD,Zr]
 rw[hl,hlen];rcases List.eq_nil_or_concat l with rfl | ⟨d,c,rfl⟩
 ·rfl
 ·rw[List.concat_eq_append];have h1:(0+1<=(d++[c]).length):=by simp
  rw[decide_eq_true h1,jF];have h2:(d++[c]).length-1=d.length:=by simp
  rw[h2];show((d++[c]).toArray.extract d.length (d.length+1)==#[58])=_;have e:(d++[c]).toArray.extract d.length (d.length+1) = #[c]:=by simp
  rw[e];by_cases q:c=58
  ·subst q;simp
  ·simp[q]
theorem Fj(l:List Nat)(h:l≠[]):dH (ZW l) none (aA (-1))=ZW l.dropLast:=by
 have hlen:(ZW l).length=l.length:=by rw[XD,Zr]
 have hp:0<l.length:=List.length_pos_iff.mpr h;rw[PyProof.Rows.slice_to_neg (by decide),hlen,show max (0:Int) ((l.length:Int) + -1)=((l.length-1:Nat):Int) by omega,JI (by rw[Zr];omega),Zr,List.dropLast_eq_take]
theorem Fm(x:PV)(l:List PV):SQ (x::l) (aA 1) none=l:=by
 unfold SQ
 rw[show HT.sIx (x::l).length 0 (aA 1)=1 from by
  rw[show(aA (1:Int))=aA (((1:Nat):Int)) from rfl,HT.sIx_nat];simp,HT.sIx_none]
 simp
def S9(t:aR)(x1 x2 x3:Option PV):ZS:=[aA (.str t),x1,x2,x3]
theorem Hn{t:aR}(ws:List (List Nat))(hs:∀p∈ws,Small 1000 (ZW p)){st:ZS} :
  (∃zs,S7 ws=aA zs/\WK (.one 0) Yi (Ze ZD [Za 0]) (Z7 1 [] st) (ws.map λl=>.str (ZW l))=aA (zs.map zT)/\V2 (.one 0) Yi (Ze ZD [Za 0]) (Yn ZP [Za 0]) (Z7 1 [] st) (ws.map λl=>.str (ZW l))=none)\/
  (S7 ws=none/\V2 (.one 0) Yi (Ze ZD [Za 0]) (Yn ZP [Za 0]) (Z7 1 [] st) (ws.map λl=>.str (ZW l))=aA QR):=by
 induction ws with
 | nil=>exact .inl ⟨[],rfl,rfl,rfl⟩
 | cons p ps ih=>
  have hp:=hs p (by simp);have ih:=ih λq hq=>hs q (by simp[hq])
  have stepR:V2 (.one 0) Yi (Ze ZD [Za 0]) (Yn ZP [Za 0]) (Z7 1 [] st) ((p::ps).map λl=>.str (ZW l))=(match ZP [.str (ZW p)] with | some n=>aA n | none=>(ZD [.str (ZW p)]).bind λ_=>V2 (.one 0) Yi (Ze ZD [Za 0]) (Yn ZP [Za 0]) (Z7 1 [] st) (ps.map λl=>.str (ZW l))):=by
   rw[aW]
   conv=>lhs;unfold V2
   rfl
  have stepL:WK (.one 0) Yi (Ze ZD [Za 0]) (Z7 1 [] st) ((p::ps).map λl=>.str (ZW l))=(ZD [.str (ZW p)]).bind λy=>(WK (.one 0) Yi (Ze ZD [Za 0]) (Z7 1 [] st) (ps.map λl=>.str (ZW l))).map (y::·):=by
   rw[aW]
   conv=>lhs;unfold WK
   rfl
  have key:=Ln hp;rw[Zr] at key;rcases key with⟨z,k1,k2,k3⟩ | ⟨k1,k3⟩
  ·rcases ih with⟨zs,j1,j2,j3⟩ | ⟨j1,j3⟩
   ·refine .inl ⟨z::zs,?_,?_,?_⟩
    ·show(Xd p).bind _=_;rw[k1,aD,j1];rfl
    ·rw[stepL,k2,aD,j2];rfl
    ·rw[stepR,k3];simp only;rw[k2,aD,j3]
   ·refine .inr ⟨?_,?_⟩
    ·show(Xd p).bind _=_;rw[k1,aD,j1];rfl
    ·rw[stepR,k3];simp only;rw[k2,aD,j3]
  ·refine .inr ⟨?_,?_⟩
   ·show(Xd p).bind _=_;rw[k1];rfl
   ·rw[stepR,k3]
theorem Ls:∀{ws:List (List Nat)}{zs:List Z3},S7 ws=aA zs->zs.length=ws.length
 | [],zs,h=>by cases h;rfl
 | p::ps,zs,h=>by unfold S7 at h;obtain⟨z,_,h⟩:=Zd h;obtain⟨y,h1,rfl⟩:=map_some h;simp[Ls h1]
theorem QK{t:aR}(h:Small 1000 t) :
  (∃m zs,Vp (Zy t)=aA (m,zs)/\zs.length<=1001/\Yu [.str t]=none/\W3 [.str t]=V4 [.int (m:Int),.lst (zs.map zT)]/\Xc [.str t]=Wh [.int (m:Int),.lst (zs.map zT)])\/(Vp (Zy t)=none/\Yu [.str t]=aA QR):=by
 obtain⟨w0,ws,e⟩:∃w0 ws,Zm 32 (Zy t)=w0::ws:=by
  cases e:Zm 32 (Zy t) with
  | nil=>exact absurd e (Xk _ _)
  | cons p r=>exact⟨p,r,rfl⟩
 have wl:=Oi 32 (Zy t);rw[e] at wl;have tl:=h.ls;simp at wl;have s0:Small 1000 (ZW w0):=Wu h (c:=32) (by rw[e];simp);have sws:∀p∈ws,Small 1000 (ZW p):=λp hp=>Wu h (c:=32) (by rw[e];simp[hp]);have sd:Small 1000 (ZW w0.dropLast):=s0.sub (by rw[Zr,Zr];intro c hc;exact List.dropLast_subset _ hc) (by rw[Zr,Zr];simp);let hp1:Option PV:=aA (hP (w0::ws))
 have e1:Zl 1 (Zh Xb (Za 0) (eC (.str " "))) (S9 t none none none)=aA (.nx (S9 t hp1 none none)):=by
  have:Zh Xb (Za 0) (eC (.str " ")) (S9 t none none none)=aA (hP (w0::ws)):=by rw[<-e];exact Oj h 32
  rw[Zv,this];rfl
 have i0:∀x2 x3,Zh ZK (Za 1) (eC (.int 0)) (S9 t hp1 x2 x3)=aA (.str (ZW w0)):=λx2 x3=>BY (r:=ws) rfl
 have cE:YY (xB (Zh Vr (Zh ZK (Za 1) (eC (.int 0))) (eC (.str ":")))) (S9 t hp1 none none)=aA (!decide (w0.getLast?=aA 58)):=by
  have v:Zh Vr (Zh ZK (Za 1) (eC (.int 0))) (eC (.str ":")) (S9 t hp1 none none)=aA (.bl (decide (w0.getLast?=aA 58))):=by rw[ZH,i0];show Vr (.str (ZW w0)) (.str ":")=_;show aA (PV.bl (iJ (ZW w0) (":" : String)))=_;rw[Lr]
  rw[Ve,Yq,v];rfl
 by_cases hc:w0.getLast?=aA 58
 ·rw[decide_eq_true hc] at cE;have hne:w0≠[]:=λz=>by rw[z] at hc;cases hc
  have e2:YF (YY (xB (Zh Vr (Zh ZK (Za 1) (eC (.int 0))) (eC (.str ":"))))) ZO Zs (S9 t hp1 none none)=aA (.nx (S9 t hp1 none none)):=by rw[Zu,cE];rfl
  have r2:Nf (YY (xB (Zh Vr (Zh ZK (Za 1) (eC (.int 0))) (eC (.str ":"))))) (Vg "NoText" (Za 0)) QG (S9 t hp1 none none)=none:=by unfold Nf;rw[cE];rfl
  have ea:Xm ZU (Zh ZK (Za 1) (eC (.int 0))) XZ (Y4 (Pq V8 (eC (.int 1)))) (S9 t hp1 none none)=aA (.str (ZW w0.dropLast)):=by show((Zh ZK (Za 1) (eC (.int 0)) (S9 t hp1 none none)).bind λx=>ZU x none (aA (-1)))=_;rw[i0];show ZU (.str (ZW w0)) none (aA (-1))=_;rw[W4 s0.len,Fj w0 hne]
  have rs:Yn Zo [Xm ZU (Zh ZK (Za 1) (eC (.int 0))) XZ (Y4 (Pq V8 (eC (.int 1))))] (S9 t hp1 none none)=Zo [.str (ZW w0.dropLast)]:=by unfold Yn;rw[ZM,ea];rfl
  have pre:Yu [.str t]=Y2 (Yn Zo [Xm ZU (Zh ZK (Za 1) (eC (.int 0))) XZ (Y4 (Pq V8 (eC (.int 1))))]) (Zl 2 (Ze Zn [Xm ZU (Zh ZK (Za 1) (eC (.int 0))) XZ (Y4 (Pq V8 (eC (.int 1))))])) (Y2 (RL 1 [] (VU (Xm Sv (Za 1) (Y4 (eC (.int 1))) XZ)) (.one 0) Yi (Ze ZD [Za 0]) (Yn ZP [Za 0])) ZO QG) (S9 t hp1 none none):=by unfold Yu Kf;show Y2 _ _ _ (S9 t none none none)=_;rw[Y8 rfl e1,Y8 r2 e2]
  by_cases hpl:ZL w0.dropLast=aC
  ·obtain⟨d1,d2⟩:=YX sd (by rw[Zr];exact hpl);rw[Zr] at d1;let mP:Option PV:=aA (.int (YC w0.dropLast:Int))
   have e3:Zl 2 (Ze Zn [Xm ZU (Zh ZK (Za 1) (eC (.int 0))) XZ (Y4 (Pq V8 (eC (.int 1))))]) (S9 t hp1 none none)=aA (.nx (S9 t hp1 mP none)):=by
    have:Ze Zn [Xm ZU (Zh ZK (Za 1) (eC (.int 0))) XZ (Y4 (Pq V8 (eC (.int 1))))] (S9 t hp1 none none)=aA (.int (YC w0.dropLast:Int)):=by rw[ZC,ZM,ea];exact d1
    rw[Zv,this];rfl
   have xw:VU (Xm Sv (Za 1) (Y4 (eC (.int 1))) XZ) (S9 t hp1 mP none)=aA (ws.map λl=>.str (ZW l)):=by show(((Sv (hP (w0::ws)) (aA 1) none)).bind D6)=_;show(aA (PV.lst (SQ ((w0::ws).map λl=>.str (ZW l)) (aA 1) none))).bind D6=_;rw[aW,Fm];rfl
   have rc:RL 1 [] (VU (Xm Sv (Za 1) (Y4 (eC (.int 1))) XZ)) (.one 0) Yi (Ze ZD [Za 0]) (Yn ZP [Za 0]) (S9 t hp1 mP none)=V2 (.one 0) Yi (Ze ZD [Za 0]) (Yn ZP [Za 0]) (Z7 1 [] (S9 t hp1 mP none)) (ws.map λl=>.str (ZW l)):=by unfold RL;rw[xw,aD,mZ (by rw[aN];omega)]
   have wr:Vp (Zy t)=(S7 ws).map λzs=>(YC w0.dropLast,zs):=by unfold Vp;rw[e];show(if _ then _ else _)=_;rw[mZ ⟨hc,hpl⟩]
   rcases Hn (t:=t) ws sws (st:=S9 t hp1 mP none) with⟨zs,j1,j2,j3⟩ | ⟨j1,j3⟩
   ·left;have zl:=Ls j1;refine⟨YC w0.dropLast,zs,by rw[wr,j1];rfl,by omega,?_,?_,?_⟩
    ·rw[pre,Y8 (by rw[rs];exact d2) e3];unfold Y2;rw[rc,j3];rfl
    ·have e4:Zl 3 (Yg 1 [] (VU (Xm Sv (Za 1) (Y4 (eC (.int 1))) XZ)) (.one 0) Yi (Ze ZD [Za 0])) (S9 t hp1 mP none)=aA (.nx (S9 t hp1 mP (aA (.lst (zs.map zT))))):=by
      have:Yg 1 [] (VU (Xm Sv (Za 1) (Y4 (eC (.int 1))) XZ)) (.one 0) Yi (Ze ZD [Za 0]) (S9 t hp1 mP none)=aA (.lst (zs.map zT)):=by unfold Yg;rw[xw,aD,mZ (by rw[aN];omega),j2];rfl
      rw[Zv,this];rfl
     show WC 4 U7 _=_;unfold U7;show(Zk _ _ (S9 t none none none)).bind Xv=_;rw[ZE e1,ZE e2,ZE e3,ZE e4,Wf];show((V4 [.int (YC w0.dropLast:Int),.lst (zs.map zT)]).map _).bind _=_;cases V4 [.int (YC w0.dropLast:Int),.lst (zs.map zT)]<;>rfl
    ·have e4:Zl 3 (Yg 1 [] (VU (Xm Sv (Za 1) (Y4 (eC (.int 1))) XZ)) (.one 0) Yi (Ze ZD [Za 0])) (S9 t hp1 mP none)=aA (.nx (S9 t hp1 mP (aA (.lst (zs.map zT))))):=by
      have:Yg 1 [] (VU (Xm Sv (Za 1) (Y4 (eC (.int 1))) XZ)) (.one 0) Yi (Ze ZD [Za 0]) (S9 t hp1 mP none)=aA (.lst (zs.map zT)):=by unfold Yg;rw[xw,aD,mZ (by rw[aN];omega),j2];rfl
      rw[Zv,this];rfl
     have ys:∀{f:XS}{g:XF}{s s1:ZS},f s=aA (.nx s1)->Xo S1 f g s=g s1:=λ{f g s s1} hf=>by unfold Xo;show(match (none:Option (aR×PV)) with | some c=>aA c | none=>_)=_;simp only;rw[hf]
     unfold Xc BH;show Xo _ _ _ (S9 t none none none)=_;rw[ys e1,ys e2,ys e3,ys e4];rfl
   ·right;refine⟨by rw[wr,j1];rfl,?_⟩;rw[pre,Y8 (by rw[rs];exact d2) e3];exact UN (by rw[rc];exact j3)
  ·right;refine⟨?_,?_⟩
   ·unfold Vp;rw[e];show(if _ then _ else _)=_;rw[ma λz=>hpl z.2]
   ·rw[pre];exact UN (by rw[rs];exact W6 sd (by rw[Zr];exact g8.mpr hpl))
 ·rw[decide_eq_false hc] at cE;right;refine⟨?_,?_⟩
  ·unfold Vp;rw[e];show(if _ then _ else _)=_;rw[ma λz=>hc z.1]
  ·unfold Yu Kf;show Y2 _ _ _ (S9 t none none none)=_;rw[Y8 rfl e1];refine UN ?_;unfold Nf;rw[cE];show(if(jS t).length<=100000 then aA _ else none)=_;rw[mZ (U9 h (by omega))]
end PW
namespace PW
open L2 VL
theorem Fo{M:List (List Int)}{a:Nat}(h:a<M.length):Vv (rL M) (a:Int)=aA (.lst (iL (Yk M a))):=Xy (S5 h)
theorem JJ{M:List (List Int)}{a b:Nat}{t:Int}(hr:∀i,i<M.length->(Yk M i).length=M.length)(hab:a<b)(hb:b<M.length)(h1:1<=t)(h9:t<=9)(h0:WT M a b=0) :
  Yt [.lst (rL M),pP [(a:Int),(b:Int),t]]=aA (.bl aC):=by
 have g0:Vv [PV.int (a:Int),PV.int (b:Int),PV.int t] 0=aA (.int (a:Int)):=rfl;have g1:Vv [PV.int (a:Int),PV.int (b:Int),PV.int t] 1=aA (.int (b:Int)):=rfl;have g2:Vv [PV.int (a:Int),PV.int (b:Int),PV.int t] 2=aA (.int t):=rfl;have lr:(rL M).length=M.length:=by simp[rL]
 have ev:Vv (iL (Yk M a)) (b:Int)=aA (.int 0):=by have:=NS (l:=Yk M a) (k:=b) (by rw[hr a (by omega)];exact hb);rw[this];show aA (PV.int (WT M a b))=_;rw[h0]
 have p1:(0:Int)<=(a:Int):=by omega
 have p2:(a:Int)<(b:Int):=by omega
 have p3:(b:Int)<(M.length:Int):=by omega
 simp[Yt,U5,WC,YT,OD,Tf,g0,g1,g2,lr,hab,hb,h1,h9,Fo (show a<M.length by omega),ev]
theorem Np{c:XT}{fb:XS}(Jv:ZS->Prop)(μ:ZS->Nat)(step:∀st,Jv st->c st=aA aB\/(c st=aA aC/\∃s2,fb st=aA (.nx s2)/\Jv s2/\μ s2<μ st)){s:ZS}(h0:Jv s) :
  ∃s',UY c fb s=aA (.nx s')/\Jv s'/\c s'=aA aB:=by
 have gen:∀(k:Nat)(st:ZS),μ st<k->Jv st->∃s',YM c fb k st=aA (.nx s')/\Jv s'/\c s'=aA aB:=by
  intro k
  induction k with
  | zero=>intro st h;omega
  | succ k ih=>
   intro st hk hJ;rcases step st hJ with hc | ⟨hc,s2,e,hJ2,hm⟩
   ·exact⟨st,by unfold YM;rw[hc];rfl,hJ,hc⟩
   ·obtain⟨s',a,b,d⟩:=ih s2 (by omega) hJ2;refine⟨s',?_,b,d⟩;unfold YM;rw[hc];simp only[aD,if_true,e];exact a
 obtain⟨s',a,b,d⟩:=gen (μ s+1) s (by omega) h0;exact⟨s',Qi a,b,d⟩
def ZQ(l:List Nat):List Int:=l.map λ(i:Nat)=>(i:Int)
abbrev bR:XS:=(Zk (Zl 3 (eP (Zh ZK (Za 0) (Zh ZK (Za 1) (Za 2)))))
  (Zk (Sd 1 (Yg 2 [1] (WV aB [Za 3]) (.many [0,1]) (Vi (xB (Zh T7 (Za 1) (eC (.int 0)))) (xB (Zh (Rr aC) (Za 0) (Za 2)))) (eP (Za 0))))
  (Iq 2 Yp (eC (.int 1)))))
structure Reach(W:List (List Int))(l:List Nat)(k:Nat):Prop where
 nd:l.Nodup
 lt:∀x∈l,x<W.length
 ze:0∈l
 kl:k<=l.length
 cl:∀m x,m<k->l[m]?=aA x->∀y,y<W.length->0<WT W x y->y∈l
def Oo(W:List (List Int))(l:List Nat)(x:Nat):List Nat:=(bN W.length).filter λy=>decide (0<WT W x y)&&!decide (y∈l)
theorem Reach.step{W:List (List Int)}{l:List Nat}{k x:Nat}(h:Reach W l k)(hx:l[k]?=aA x):Reach W (l++Oo W l x) (k+1):=by
 have hk:=(aL.mp hx).1;have mem:∀y,y∈Oo W l x↔y<W.length/\0<WT W x y/\y∉l:=λy=>by unfold Oo;rw[dj,bX];simp
 refine⟨?_,λy hy=>?_,bG _ h.ze,by rw[aq];omega,λm z hm hz y hy hp=>?_⟩
 ·rw[cX];refine⟨h.nd,hG _ jT,λy hy z hz e=>?_⟩;subst e;exact((mem y).mp hz).2.2 hy
 ·rcases au.mp hy with hy | hy
  ·exact h.lt y hy
  ·exact((mem y).mp hy).1
 ·rw[bT (by omega)] at hz;by_cases q:m=k
  ·subst q;rw[hx] at hz;cases hz;by_cases hl:y∈l
   ·exact bG _ hl
   ·exact ag _ ((mem y).mpr ⟨hy,hp,hl⟩)
  ·exact bG _ (h.cl m z (by omega) hz y hy hp)
theorem Reach.all{W:List (List Int)}{l:List Nat}(h:Reach W l l.length)(ok:MD W)(cn:BR W){i:Nat}(hi:i<W.length):i∈l:=by
 have:=cn (λx=>x∈l) λa b ha hb hp=>⟨λz=>?_,λz=>?_⟩
 ·exact(this 0 i ok.pos hi).mp h.ze
 ·obtain⟨m,hm,e⟩:=dU z;exact h.cl m a hm (by rw[aK hm,e]) b hb hp
 ·obtain⟨m,hm,e⟩:=dU z;exact h.cl m b hm (by rw[aK hm,e]) a ha (by rw[ok.sym b a hb ha];exact hp)
def sR(W:List (List Int))(l:List Nat)(k:Nat)(x3:Option PV):ZS:=[aA (wP W),aA (.lst (iL (ZQ l))),aA (.int (k:Int)),x3]
theorem Pa(y:Nat)(l:List Nat):Rr aC (.int (y:Int)) (.lst (iL (ZQ l)))=aA (.bl (!decide (y∈l))):=by
 rw[G5];have:((y:Int)∈ZQ l)↔y∈l:=by unfold ZQ;rw[ah];exact⟨λ⟨a,h,e⟩=>by rw[show y=a by omega];exact h,λh=>⟨y,h,rfl⟩⟩
 simp[this]
theorem Cq{W:List (List Int)}{l:List Nat}{k x:Nat}{x3:Option PV}(ok:MD W)(h:Reach W l k)(hx:l[k]?=aA x) :
  ∃y3,bR (sR W l k x3)=aA (.nx (sR W (l++Oo W l x) (k+1) y3)):=by
 have hf:=ok.few;have hk:=(aL.mp hx).1;have hxn:x<W.length:=h.lt x (b7 hx)
 have hl:l.length<=W.length:=by
  have nd:(ZQ l).Nodup:=dR _ (λa b z=>by omega) h.nd;have:=T4 (l:=ZQ l) (m:=ZQ (bN W.length)) nd λy hy=>by obtain⟨a,ha,rfl⟩:=ah.mp hy;exact ah.mpr ⟨a,bX.mpr (h.lt a ha),rfl⟩
  simpa [ZQ] using this
 have ix:Vv (iL (ZQ l)) (k:Int)=aA (.int (x:Int)):=Xy (by unfold ZQ;rw[aS,aS,hx];rfl);have e1:Zl 3 (eP (Zh ZK (Za 0) (Zh ZK (Za 1) (Za 2)))) (sR W l k x3)=aA (.nx (sR W l k (aA (pP (Yk W x))))):=by simp[sR,ix,ES hxn]
 have lr:=ok.sq x hxn;have en:WV aB [Za 3] (sR W l k (aA (pP (Yk W x))))=aA ((bN W.length).map λ(i:Nat)=>.tup [.int (i:Int),.int (WT W x i)]):=by have:=Du (Yk W x);rw[lr] at this;simp[sR,this];exact λ_ _=>rfl
 have k2:Yg 2 [1] (WV aB [Za 3]) (.many [0,1]) (Vi (xB (Zh T7 (Za 1) (eC (.int 0)))) (xB (Zh (Rr aC) (Za 0) (Za 2)))) (eP (Za 0)) (sR W l k (aA (pP (Yk W x))))=aA (.lst (iL (ZQ (Oo W l x)))):=by
  rw[NT (bN W.length) (λ(i:Nat)=>.tup [.int (i:Int),.int (WT W x i)]) (λ(i:Nat)=>.int (i:Int)) (λy=>decide (0<WT W x y)&&!decide (y∈l)) en (by simp;omega) λy hy=>⟨[aA (.int (y:Int)),aA (.int (WT W x y)),aA (.lst (iL (ZQ l)))],rfl,?_,λ_=>by simp⟩]
  ·unfold ZQ Oo iL;rw[cO];rfl
  ·by_cases q:0<WT W x y
   ·simp[q,Pa]
   ·simp[q]
 have e2:Sd 1 (Yg 2 [1] (WV aB [Za 3]) (.many [0,1]) (Vi (xB (Zh T7 (Za 1) (eC (.int 0)))) (xB (Zh (Rr aC) (Za 0) (Za 2)))) (eP (Za 0))) (sR W l k (aA (pP (Yk W x))))=aA (.nx (sR W (l++Oo W l x) k (aA (pP (Yk W x))))):=by rw[L6 (m:=iL (ZQ l)) k2 rfl (by simp[ZQ,Oo];have:=ju (λy=>decide (0<WT W x y)&&!decide (y∈l)) (bN W.length);rw[bb] at this;omega)];simp[sR,ZQ]
 have e3:Iq 2 Yp (eC (.int 1)) (sR W (l++Oo W l x) k (aA (pP (Yk W x))))=aA (.nx (sR W (l++Oo W l x) (k+1) (aA (pP (Yk W x))))):=by simp[sR,Iq]
 exact⟨_,by unfold bR;rw[ZE e1,ZE e2,e3]⟩
theorem Reach.len{W:List (List Int)}{l:List Nat}{k:Nat}(h:Reach W l k):l.length<=W.length:=by
 have nd:(ZQ l).Nodup:=dR _ (λa b z=>by omega) h.nd;have:=T4 (l:=ZQ l) (m:=ZQ (bN W.length)) nd λy hy=>by obtain⟨a,ha,rfl⟩:=ah.mp hy;exact ah.mpr ⟨a,bX.mpr (h.lt a ha),rfl⟩
 simpa [ZQ] using this
theorem KD{W:List (List Int)}(ok:MD W)(cn:BR W):X3 [wP W]=aA (pP (ZQ (bN W.length))):=by
 have hf:=ok.few
 obtain⟨s',q1,⟨l,k,x3,rfl,hR⟩,q3⟩:=Np (c:=xB (Zh Wb (Za 2) (Ze ZR [Za 1]))) (fb:=bR) (λst=>∃l k x3,st=sR W l k x3/\Reach W l k)
  (λ(st:ZS)=>match st[2]? with | some (aA (PV.int k))=>W.length+1-k.toNat | _=>0) (by
   rintro st ⟨l,k,x3,rfl,hR⟩;have hl:=hR.len;by_cases q:k<l.length
   ·refine .inr ⟨by simp[sR,ZQ,q],?_⟩;obtain⟨y3,e⟩:=Cq (x3:=x3) ok hR (aK q);refine⟨_,e,⟨_,_,_,rfl,hR.step (aK q)⟩,?_⟩;show W.length+1-((k+1:Nat):Int).toNat<W.length+1-((k:Nat):Int).toNat;omega
   ·exact .inl (by simp[sR,ZQ,q])) (s:=sR W [0] 0 none) ⟨[0],0,none,rfl,⟨by simp,λx hx=>by rw[aP.mp hx];exact ok.pos,by simp,by simp,λm x hm=>by omega⟩⟩
 have hk:k=l.length:=by
  have h1:¬k<l.length:=λq=>by
   have:(xB (Zh Wb (Za 2) (Ze ZR [Za 1]))) (sR W l k x3)=aA aC:=by simp[sR,ZQ,q]
   rw[q3] at this;cases this
  have:=hR.kl;omega
 subst hk;have hl:=hR.len
 have srt:TM (ZQ l)=ZQ (bN W.length):=by
  refine(PN ?_ ?_).symm
  ·have nd1:(ZQ (bN W.length)).Nodup:=dR _ (λa b z=>by omega) jT;have nd2:(ZQ l).Nodup:=dR _ (λa b z=>by omega) hR.nd;rw[kT];intro a;rw[nd1.count,nd2.count];congr 1;refine propext ⟨λh=>?_,λh=>?_⟩
   ·obtain⟨i,hi,rfl⟩:=ah.mp h;exact ah.mpr ⟨i,hR.all ok cn (bX.mp hi),rfl⟩
   ·obtain⟨i,hi,rfl⟩:=ah.mp h;exact ah.mpr ⟨i,bX.mpr (hR.lt i hi),rfl⟩
  ·refine dR _ (λa b h=>?_) (jb (n:=W.length));omega
 have gs:Ul [.lst (iL (ZQ l))]=aA (.lst (iL (ZQ (bN W.length)))):=by show(Ws (iL (ZQ l))).bind _=_;rw[Wv];simp only[aD];rw[mZ (by simp[ZQ];omega),srt]
 have e1:Zl 1 (YO [eP (eC (.int 0))]) [aA (wP W),none,none,none]=aA (.nx [aA (wP W),aA (.lst [.int 0]),none,none]):=by simp
 have e2:Zl 2 (eP (eC (.int 0))) [aA (wP W),aA (.lst [.int 0]),none,none]=aA (.nx (sR W [0] 0 none)):=by simp[sR,ZQ]
 show WC 4 VH [wP W]=_;unfold VH;show(Zk (Zl 1 _) _ [aA (wP W),none,none,none]).bind Xv=_;rw[ZE e1,ZE e2,ZE q1];generalize ZQ (bN W.length)=rl at gs;simp[sR,gs]
abbrev Xl(n:Nat):List (List Int):=aJ n (aJ n 0)
theorem Nq{n a b:Nat}(ha:a<n)(hb:b<n):WT (Xl n) a b=0:=by unfold WT Yk Xn;simp[aU,cG,ha,hb]
theorem Cr{n a b:Nat}(hab:a<b):∀(l:List Z9)(M:List (List Int)),(∀e∈l,e.1<e.2.1/\e.2.1<n/\1<=e.2.2/\e.2.2<=9)->(∀e∈l,(e.1,e.2.1)≠(a,b))->MatOk n M->WT M a b=0->WT (l.foldl ZX M) a b=0
 | [],M,_,_,_,h=>h
 | e::r,M,hl,hn,hM,h0=>by have he:=hl e (by simp);refine Cr hab r _ (λe' h'=>hl e' (by simp[h'])) (λe' h'=>hn e' (by simp[h'])) (hM.step he) ?_;rw[T2 hM he,ma (by omega),ma (λz=>hn e (by simp) (by rw[z.1,z.2])),h0]
theorem JK{n:Nat}{ts:List Z9}(ok:DictOk n ts){i a b:Nat}{t:Int}(he:ts[i]?=aA (a,b,t)):WT ((ts.take i).foldl ZX (Xl n)) a b=0:=by
 have hm:=ok.ok _ (b7 he);simp only at hm;refine Cr hm.1 _ _ (λe h=>ok.ok e (bz h)) (λe h z=>?_) (MatOk.zero n) (Nq (by omega) (by omega));obtain⟨j,hj,ej⟩:=dU h;rw[br] at hj;have hi:=(aL.mp he).1;have nd:=ok.nd;rw[lD] at ej;have e1:(ts.map λe=>(e.1,e.2.1))[j]?=aA (a,b):=by rw[aS,aK (by omega),ej,av,z]
 have e2:(ts.map λe=>(e.1,e.2.1))[i]?=aA (a,b):=by rw[aS,he];rfl
 have:=(lE (by rw[aN];omega) nd).mp (e1.trans e2.symm);omega
def Yj(e:Z9):PV:=.tup [.int (e.1:Int),.int (e.2.1:Int),.int e.2.2]
theorem Nr{n:Nat}{ts:List Z9}(ok:DictOk n ts)(hg:Hang n ts)(h1:1<=n)(hn:n<=7)(hl:ts.length<=1000):V4 [.int (n:Int),.lst (ts.map Yj)]=aA (wP (Uv n ts)):=by
 have wok:=(VQ ok).web h1 hn;have wl:=(VQ ok).len;have re:=KD wok (hg.conn ok);have lr:(ZQ (bN (Uv n ts).length)).length=n:=by simp[ZQ,wl]
 generalize ZQ (bN (Uv n ts).length)=rl at re lr;have hrep:SR (.lst [.int 0]) (.int (n:Int))=aA (.lst (iL (aJ n 0))):=by unfold SR;simp only;rw[mZ ⟨rfl,by omega,by omega,by simp;omega⟩,cK,Fc]
 have hc:Yg 1 [0] (YG [Za 0]) (.one 0) Yi (Zh SR (YO [eC (.int 0)]) (Za 1)) [aA (.int (n:Int)),aA (.lst (ts.map Yj)),none,none,none,none,none]=aA (.lst (rL (Xl n))):=by
  rw[Wx (bN n) (λ(i:Nat)=>.int (i:Int)) (λ_=>.lst (iL (aJ n 0))) (Xh (by simp) (by omega)) (by simp;omega) (λi _=>⟨_,rfl,rfl,?_⟩)]
  ·unfold rL;rw[ji,bb,iV]
  ·simp only[ZH,YO,UX,SV,aD,av,Z7,YQ];exact hrep
 have mat:∀i,MatOk n ((ts.take i).foldl ZX (Xl n)):=λi=>VQ (ts:=ts.take i) ⟨λe he=>ok.ok e (bz he),by rw[gk];exact ok.nd.sublist (fX _ _)⟩
 obtain⟨s',q1,x,y,q2⟩:=Yz (T:=.many [3,4]) (fb:=(Zk (YF (YY (xB (Ze Yt [Za 2,Za 4]))) ZO Zs)
  (Zk (Ym 2 (Zh ZK (Za 4) (eC (.int 0))) (Zh ZK (Za 4) (eC (.int 1))) (Zh ZK (Za 4) (eC (.int 2))))
  (Ym 2 (Zh ZK (Za 4) (eC (.int 1))) (Zh ZK (Za 4) (eC (.int 0))) (Zh ZK (Za 4) (eC (.int 2))))))) (ls:=X5 (ts.map Yj)) (s:=[aA (.int (n:Int)),aA (.lst (ts.map Yj)),aA (.lst (rL (Xl n))),none,none,none,none])
  (λi st=>∃x y,st=[aA (.int (n:Int)),aA (.lst (ts.map Yj)),aA (.lst (rL ((ts.take i).foldl ZX (Xl n)))),x,y,none,none]) ⟨none,none,rfl⟩ (λi l st hl hJ=>by
   obtain⟨x,y,rfl⟩:=hJ;rw[Xq,aS,aN] at hl;by_cases hi:i<ts.length
   ·rw[dS hi,av] at hl;cases hl;obtain⟨⟨a,b,t⟩,hte⟩:∃e,ts[i]=e:=⟨_,rfl⟩;have he:ts[i]?=aA (a,b,t):=by rw[aK hi,hte]
    have hv:(ts.map Yj).getD i .non = .tup [.int (a:Int),.int (b:Int),.int t]:=by rw[aU,aS,he];rfl
    rw[hv];obtain⟨hab,hbn,t1,t9⟩:=ok.ok _ (b7 he);simp only at hab hbn t1 t9;have mi:=mat i;have b0:=JK ok he;generalize hM:(ts.take i).foldl ZX (Xl n)=M at mi b0;have fe:=JJ (M:=M) (a:=a) (b:=b) (t:=t) (λi hi=>by rw[mi.row i (by rw[<-mi.len];exact hi),mi.len]) hab (by rw[mi.len];exact hbn) t1 t9 b0;have sh:=WX (t:=t) (b:=b) mi.len mi.row (show a<n by omega);have lenM:(rL M).length=n:=by unfold rL;rw[aN];exact mi.len
    have lenM2:(rL (XG M a b t)).length=n:=by unfold rL;rw[aN];exact sh.1
    have fe':Yt [.lst (rL M),.tup [.int (a:Int),.int (b:Int),.int t]]=aA (.bl aC):=fe;have g0:Vv [PV.int (a:Int),PV.int (b:Int),PV.int t] 0=aA (.int (a:Int)):=rfl;have g1:Vv [PV.int (a:Int),PV.int (b:Int),PV.int t] 1=aA (.int (b:Int)):=rfl;have g2:Vv [PV.int (a:Int),PV.int (b:Int),PV.int t] 2=aA (.int t):=rfl;refine⟨[aA (.int (n:Int)),aA (.lst (ts.map Yj)),aA (.lst (rL M)),aA (.int (i:Int)),aA (.tup [.int (a:Int),.int (b:Int),.int t]),none,none],_,rfl,?_,aA (.int (i:Int)),aA (.tup [.int (a:Int),.int (b:Int),.int t]),rfl⟩;have e1:YF (YY (xB (Ze Yt [Za 2,Za 4]))) ZO Zs [aA (.int (n:Int)),aA (.lst (ts.map Yj)),aA (.lst (rL M)),aA (.int (i:Int)),aA (.tup [.int (a:Int),.int (b:Int),.int t]),none,none]=aA (.nx [aA (.int (n:Int)),aA (.lst (ts.map Yj)),aA (.lst (rL M)),aA (.int (i:Int)),aA (.tup [.int (a:Int),.int (b:Int),.int t]),none,none]):=by simp[fe']
    have e2:Ym 2 (Zh ZK (Za 4) (eC (.int 0))) (Zh ZK (Za 4) (eC (.int 1))) (Zh ZK (Za 4) (eC (.int 2))) [aA (.int (n:Int)),aA (.lst (ts.map Yj)),aA (.lst (rL M)),aA (.int (i:Int)),aA (.tup [.int (a:Int),.int (b:Int),.int t]),none,none]=aA (.nx [aA (.int (n:Int)),aA (.lst (ts.map Yj)),aA (.lst (rL (XG M a b t))),aA (.int (i:Int)),aA (.tup [.int (a:Int),.int (b:Int),.int t]),none,none]):=by rw[WY (l:=.int t) (a:=(a:Int)) (b:=(b:Int)) (j:=a) (c:=b) (m:=rL M) (n:=iL (Yk M a)) (by simp[g2]) (by simp[g0]) (by simp[g1]) rfl (Wm (by rw[lenM];omega)) (S5 (by rw[mi.len];omega)) (Xw _) rfl (Wm (by rw[aN,mi.row a (by omega)];omega)),Qv];rfl
    have e3:Ym 2 (Zh ZK (Za 4) (eC (.int 1))) (Zh ZK (Za 4) (eC (.int 0))) (Zh ZK (Za 4) (eC (.int 2))) [aA (.int (n:Int)),aA (.lst (ts.map Yj)),aA (.lst (rL (XG M a b t))),aA (.int (i:Int)),aA (.tup [.int (a:Int),.int (b:Int),.int t]),none,none]=aA (.nx [aA (.int (n:Int)),aA (.lst (ts.map Yj)),aA (.lst (rL (ZX M (a,b,t)))),aA (.int (i:Int)),aA (.tup [.int (a:Int),.int (b:Int),.int t]),none,none]):=by rw[WY (l:=.int t) (a:=(b:Int)) (b:=(a:Int)) (j:=b) (c:=a) (m:=rL (XG M a b t)) (n:=iL (Yk (XG M a b t) b)) (by simp[g2]) (by simp[g1]) (by simp[g0]) rfl (Wm (by rw[lenM2];omega)) (S5 (by rw[sh.1];omega)) (Xw _) rfl (Wm (by rw[aN,sh.2 b (by omega)];omega)),Qv];rfl
    have e5:(ts.take (i+1)).foldl ZX (Xl n)=ZX M (a,b,t):=by rw[<-hM];exact UU _ _ he
    rw[G9 e1 e2,e3,e5]
   ·rw[fV (by rw[bb];omega)] at hl;cases hl)
 rw[Xq,aN,bb,aN,dF] at q2;have hsq:ts.foldl ZX (Xl n)=Uv n ts:=rfl;rw[hsq] at q2;subst q2;have e0:YF (YY (xB (Tf Sz Sz (eC (.int 1)) (Za 0) (eC (.int 7))))) ZO Zs [aA (.int (n:Int)),aA (.lst (ts.map Yj)),none,none,none,none,none]=aA (.nx [aA (.int (n:Int)),aA (.lst (ts.map Yj)),none,none,none,none,none]):=by simp[Tf,show(1:Int)<=(n:Int) by omega,show(n:Int)<=7 by omega]
 have e1:Zl 2 (Yg 1 [0] (YG [Za 0]) (.one 0) Yi (Zh SR (YO [eC (.int 0)]) (Za 1))) [aA (.int (n:Int)),aA (.lst (ts.map Yj)),none,none,none,none,none]=aA (.nx [aA (.int (n:Int)),aA (.lst (ts.map Yj)),aA (.lst (rL (Xl n))),none,none,none,none]):=by rw[Zv,hc];rfl
 have en:WV aC [Za 1] (Ya [2] [aA (.int (n:Int)),aA (.lst (ts.map Yj)),aA (.lst (rL (Xl n))),none,none,none,none])=aA (X5 (ts.map Yj)):=by rw[Qk];rfl
 have k5:Yg 1 [] (VU (Za 2)) (.one 0) Yi (Ze Y6 [Za 0]) [aA (.int (n:Int)),aA (.lst (ts.map Yj)),aA (.lst (rL (Uv n ts))),x,y,none,none]=aA (.lst ((Uv n ts).map pP)):=by rw[Wx (Uv n ts) (λr=>.lst (iL r)) pP (by simp[rL]) (by rw[wl];omega) (λr _=>⟨_,rfl,rfl,by simp[Z7]⟩)]
 generalize hW:Uv n ts=W at *;have e5:Zl 5 (eP (Ze Y6 [Yg 1 [] (VU (Za 2)) (.one 0) Yi (Ze Y6 [Za 0])])) [aA (.int (n:Int)),aA (.lst (ts.map Yj)),aA (.lst (rL W)),x,y,none,none]=aA (.nx [aA (.int (n:Int)),aA (.lst (ts.map Yj)),aA (.lst (rL W)),x,y,aA (wP W),none]):=by simp[k5]
 have e6:Zl 6 (Ze X3 [Za 5]) [aA (.int (n:Int)),aA (.lst (ts.map Yj)),aA (.lst (rL W)),x,y,aA (wP W),none]=aA (.nx [aA (.int (n:Int)),aA (.lst (ts.map Yj)),aA (.lst (rL W)),x,y,aA (wP W),aA (pP rl)]):=by simp[re]
 have e7:YF (xB (Zh Wb (Ze ZR [Za 6]) (Za 0))) ZO Zs [aA (.int (n:Int)),aA (.lst (ts.map Yj)),aA (.lst (rL W)),x,y,aA (wP W),aA (pP rl)]=aA (.nx [aA (.int (n:Int)),aA (.lst (ts.map Yj)),aA (.lst (rL W)),x,y,aA (wP W),aA (pP rl)]):=by simp[lr]
 show WC 7 RS [.int (n:Int),.lst (ts.map Yj)]=_;unfold RS;show(Zk (YF _ _ _) _ [aA (.int (n:Int)),aA (.lst (ts.map Yj)),none,none,none,none,none]).bind Xv=_;rw[ZE e0,ZE e1,ZI,Xg,en];simp only[aD];rw[q1];simp only[aD];rw[ZE e5,ZE e6,ZE e7];simp
theorem Fp{n a b:Nat}{t:Int}(hab:a<b):∀(l:List Z9)(M:List (List Int)),(∀e∈l,e.1<e.2.1/\e.2.1<n/\1<=e.2.2/\e.2.2<=9)->(∀e∈l,(e.1,e.2.1)≠(a,b))->MatOk n M->WT M a b=t->WT (l.foldl ZX M) a b=t
 | [],M,_,_,_,h=>h
 | e::r,M,hl,hn,hM,h0=>by have he:=hl e (by simp);refine Fp hab r _ (λe' h'=>hl e' (by simp[h'])) (λe' h'=>hn e' (by simp[h'])) (hM.step he) ?_;rw[T2 hM he,ma (by omega),ma (λz=>hn e (by simp) (by rw[z.1,z.2])),h0]
theorem KG{n:Nat}{a b:Nat}{t:Int}:∀(l:List Z9)(M:List (List Int)),(∀e∈l,e.1<e.2.1/\e.2.1<n/\1<=e.2.2/\e.2.2<=9)->(l.map λe=>(e.1,e.2.1)).Nodup->MatOk n M->(a,b,t)∈l->WT (l.foldl ZX M) a b=t
 | [],M,_,_,_,h=>by simp at h
 | e::r,M,hl,nd,hM,h=>by
  have he:=hl e (by simp);rw[aW,bP] at nd;rcases aV.mp h with q | q
  ·subst q;simp only at he;refine Fp he.1 r _ (λe' h'=>hl e' (by simp[h'])) (λe' h' z=>nd.1 (ah.mpr ⟨e',h',z⟩)) (hM.step he) ?_;rw[T2 hM he,ma (by simp only;omega),mZ ⟨rfl,rfl⟩]
  ·exact KG r _ (λe' h'=>hl e' (by simp[h'])) nd.2 (hM.step he) q
theorem DB{n:Nat}{ts:List Z9}(ok:DictOk n ts){a b:Nat}(hab:a<b)(hb:b<n):(∃t,(a,b,t)∈ts/\WT (Uv n ts) a b=t)\/((∀t,(a,b,t)∉ts)/\WT (Uv n ts) a b=0):=by
 by_cases h:∃t,(a,b,t)∈ts
 ·obtain⟨t,ht⟩:=h;exact .inl ⟨t,ht,KG ts _ ok.ok ok.nd (MatOk.zero n) ht⟩
 ·refine .inr ⟨λt ht=>h ⟨t,ht⟩,Fp hab ts _ ok.ok (λe he z=>h ⟨e.2.2,?_⟩) (MatOk.zero n) (Nq (by omega) hb)⟩;have z1:=(gu z).1;have z2:=(gu z).2;rw[<-z1,<-z2];exact he
structure RSet(n:Nat)(J:Nat->Nat->Prop)(l:List Nat):Prop where
 nd:l.Nodup
 lt:∀x∈l,x<n
 ze:0∈l
 cl:∀x∈l,∀y,y<n->J x y->y∈l
 re:∀P:Nat->Prop,P 0->(∀a b,a<n->b<n->J a b->P a->P b)->∀x∈l,P x
theorem RSet.same{n:Nat}{J:Nat->Nat->Prop}{l m:List Nat}(h:RSet n J l)(k:RSet n J m)(x:Nat):x∈l↔x∈m:=
 ⟨λz=>h.re (λy=>y∈m) k.ze (λa b ha hb hj q=>k.cl a q b hb hj) x z,λz=>k.re (λy=>y∈l) h.ze (λa b ha hb hj q=>h.cl a q b hb hj) x z⟩
def QL(n:Nat)(l:List Nat):List Nat:=(bN n).filter λi=>decide (i∈l)
theorem Fq{n:Nat}{J:Nat->Nat->Prop}{l m:List Nat}(h:RSet n J l)(k:RSet n J m):QL n l=QL n m:=by unfold QL;refine List.filter_congr λx _=>?_;rw[decide_eq_decide];exact h.same k x
theorem Md{n:Nat}{l:List Nat}(nd:l.Nodup)(lt:∀x∈l,x<n):TM (ZQ l)=ZQ (QL n l):=by
 refine(PN ?_ ?_).symm
 ·have nd1:(ZQ (QL n l)).Nodup:=dR _ (λa b z=>by omega) (hG _ jT);have nd2:(ZQ l).Nodup:=dR _ (λa b z=>by omega) nd;rw[kT];intro a;rw[nd1.count,nd2.count];congr 1;refine propext ⟨λh=>?_,λh=>?_⟩
  ·obtain⟨i,hi,rfl⟩:=ah.mp h;have:=(dj.mp hi).2;exact ah.mpr ⟨i,of_decide_eq_true this,rfl⟩
  ·obtain⟨i,hi,rfl⟩:=ah.mp h;exact ah.mpr ⟨i,dj.mpr ⟨bX.mpr (lt i hi),decide_eq_true hi⟩,rfl⟩
 ·refine dR _ (λa b h=>?_) (hG (λi=>decide (i∈l)) (jb (n:=n)));omega
theorem Qw{n:Nat}{l:List Nat}(nd:l.Nodup)(lt:∀x∈l,x<n):(QL n l).length=l.length:=by have h:=Md nd lt;have p:(TM (ZQ l)).length=(ZQ l).length:=(SX _).length_eq;rw[h] at p;simpa [ZQ] using p
theorem So{n:Nat}{l:List Nat}(nd:l.Nodup)(lt:∀x∈l,x<n):l.length<=n:=by rw[<-Qw nd lt];have:=ju (λi=>decide (i∈l)) (bN n);rw[bb] at this;exact this
theorem RSet.all{n:Nat}{J:Nat->Nat->Prop}{l:List Nat}(h:RSet n J l)(hl:l.length=n){j:Nat}(hj:j<n):j∈l:=by
 by_cases q:j∈l
 ·exact q
 ·have:=So (n:=n) (l:=j::l) (bP.mpr ⟨q,h.nd⟩) λx hx=>by
   rcases aV.mp hx with rfl | hx
   ·exact hj
   ·exact h.lt x hx
  rw[bK] at this;omega
theorem Lu{W:List (List Int)}(ok:MD W):∃l,RSet W.length (λa b=>0<WT W a b) l/\X3 [wP W]=aA (pP (ZQ (QL W.length l))):=by
 have hf:=ok.few
 obtain⟨s',q1,⟨l,k,x3,rfl,hR,hre⟩,q3⟩:=Np (c:=xB (Zh Wb (Za 2) (Ze ZR [Za 1]))) (fb:=bR) (λst=>∃l k x3,st=sR W l k x3/\Reach W l k/\∀P:Nat->Prop,P 0->(∀a b,a<W.length->b<W.length->0<WT W a b->P a->P b)->∀x∈l,P x)
  (λ(st:ZS)=>match st[2]? with | some (aA (PV.int k))=>W.length+1-k.toNat | _=>0) (by
   rintro st ⟨l,k,x3,rfl,hR,hre⟩;have hl:=hR.len;by_cases q:k<l.length
   ·refine .inr ⟨by simp[sR,ZQ,q],?_⟩;obtain⟨y3,e⟩:=Cq (x3:=x3) ok hR (aK q);refine⟨_,e,⟨_,_,_,rfl,hR.step (aK q),λP h0 hc x hx=>?_⟩,?_⟩
    ·rcases au.mp hx with hx | hx
     ·exact hre P h0 hc x hx
     ·unfold Oo at hx;rw[dj,bX] at hx;obtain⟨h1,h2⟩:=hx;simp only[bE,decide_eq_true_eq] at h2;have hm:l[k]∈l:=dG q;exact hc l[k] x (hR.lt _ hm) h1 h2.1 (hre P h0 hc _ hm)
    ·show W.length+1-((k+1:Nat):Int).toNat<W.length+1-((k:Nat):Int).toNat;omega
   ·exact .inl (by simp[sR,ZQ,q])) (s:=sR W [0] 0 none) ⟨[0],0,none,rfl,⟨by simp,λx hx=>by rw[aP.mp hx];exact ok.pos,by simp,by simp,λm x hm=>by omega⟩,λP h0 _ x hx=>by rw[aP.mp hx];exact h0⟩
 have hk:k=l.length:=by
  have h1:¬k<l.length:=λq=>by
   have:(xB (Zh Wb (Za 2) (Ze ZR [Za 1]))) (sR W l k x3)=aA aC:=by simp[sR,ZQ,q]
   rw[q3] at this;cases this
  have:=hR.kl;omega
 subst hk;have hl:=hR.len;refine⟨l,⟨hR.nd,hR.lt,hR.ze,λx hx y hy hp=>?_,hre⟩,?_⟩
 ·obtain⟨m,hm,e⟩:=dU hx;exact hR.cl m x hm (by rw[aK hm,e]) y hy hp
 have gs:Ul [.lst (iL (ZQ l))]=aA (.lst (iL (ZQ (QL W.length l)))):=by show(Ws (iL (ZQ l))).bind _=_;rw[Wv];simp only[aD];rw[mZ (by simp[ZQ];omega),Md hR.nd hR.lt]
 have e1:Zl 1 (YO [eP (eC (.int 0))]) [aA (wP W),none,none,none]=aA (.nx [aA (wP W),aA (.lst [.int 0]),none,none]):=by simp
 have e2:Zl 2 (eP (eC (.int 0))) [aA (wP W),aA (.lst [.int 0]),none,none]=aA (.nx (sR W [0] 0 none)):=by simp[sR,ZQ]
 show WC 4 VH [wP W]=_;unfold VH;show(Zk (Zl 1 _) _ [aA (wP W),none,none,none]).bind Xv=_;rw[ZE e1,ZE e2,ZE q1];generalize ZQ (QL W.length l)=rl at gs;simp[sR,gs]
abbrev ZT:=Int×Int×Int
def zP(e:ZT):PV:=.tup [.int e.1,.int e.2.1,.int e.2.2]
def DC(n:Nat)(ts:List Z9)(e:ZT):Prop:=0<=e.1/\e.1<e.2.1/\e.2.1<(n:Int)/\1<=e.2.2/\e.2.2<=9/\∀d∈ts,¬((d.1:Int)=e.1/\(d.2.1:Int)=e.2.1)
theorem B0{n:Nat}{ts:List Z9}{e:ZT}(ok:DictOk n ts)(h:DC n ts e):∃d:Z9,zP e=Yj d/\DictOk n (ts++[d]):=by
 obtain⟨a,b,t⟩:=e;obtain⟨h1,h2,h3,h4,h5,h6⟩:=h;simp only at h1 h2 h3 h4 h5 h6;refine⟨(a.toNat,b.toNat,t),?_,?_,?_⟩
 ·unfold zP Yj;simp only;rw[eB h1,eB (by omega)]
 ·intro e he;rcases au.mp he with he | he
  ·exact ok.ok e he
  ·rw[aP.mp he];simp only;omega
 ·rw[bt,cX];refine⟨ok.nd,by simp,λx hx y hy z=>?_⟩;subst z;obtain⟨d,hd,e1⟩:=ah.mp hx;simp only[aW,dZ,aP] at hy;rw[hy] at e1;have e2:=congrArg Prod.fst e1;have e3:=congrArg Prod.snd e1;simp only at e2 e3;exact h6 d hd (by omega)
theorem Oq(n:Nat):∀(ps:List ZT)(ts:List Z9),DictOk n ts->(∃us,DictOk n (ts++us)/\ps.map zP=us.map Yj)\/∃us e m6,DictOk n (ts++us)/\ps.map zP=us.map Yj++zP e::m6/\¬DC n (ts++us) e
 | [],ts,ok=>.inl ⟨[],by simpa using ok,rfl⟩
 | e::r,ts,ok=>by
  by_cases h:DC n ts e
  ·obtain⟨d,hz,ok'⟩:=B0 ok h;rcases Oq n r (ts++[d]) ok' with⟨us,ok2,h2⟩ | ⟨us,e',m6,ok2,h2,h3⟩
   ·exact .inl ⟨d::us,by simpa using ok2,by rw[aW,aW,hz,h2]⟩
   ·exact .inr ⟨d::us,e',m6,by simpa using ok2,by rw[aW,aW,hz,h2];rfl,by simpa using h3⟩
  ·exact .inr ⟨[],e,r.map zP,by simpa using ok,rfl,by simpa using h⟩
theorem DD{n:Nat}{ts:List Z9}{e:ZT}(ok:DictOk n ts)(h:¬DC n ts e):Yt [.lst (rL (Uv n ts)),zP e]=aA (.bl aB):=by
 obtain⟨a,b,t⟩:=e;have mo:=VQ ok;have g0:Vv [PV.int a,PV.int b,PV.int t] 0=aA (.int a):=rfl;have g1:Vv [PV.int a,PV.int b,PV.int t] 1=aA (.int b):=rfl;have g2:Vv [PV.int a,PV.int b,PV.int t] 2=aA (.int t):=rfl;have lr:(rL (Uv n ts)).length=n:=by unfold rL;rw[aN];exact mo.len
 show Yt [.lst (rL (Uv n ts)),.tup [.int a,.int b,.int t]]=_;by_cases p1:0<=a
 case neg=>simp[Yt,U5,WC,YT,OD,Tf,g0,g1,g2,p1]
 by_cases p2:a<b
 case neg=>simp[Yt,U5,WC,YT,OD,Tf,g0,g1,g2,p1,p2]
 by_cases p3:b<(n:Int)
 case neg=>simp[Yt,U5,WC,YT,OD,Tf,g0,g1,g2,p1,p2,p3,lr]
 by_cases p4:1<=t
 case neg=>simp[Yt,U5,WC,YT,OD,Tf,g0,g1,g2,p1,p2,p3,lr,p4]
 by_cases p5:t<=9
 case neg=>simp[Yt,U5,WC,YT,OD,Tf,g0,g1,g2,p1,p2,p3,lr,p4,p5]
 obtain⟨i,rfl⟩:∃i:Nat,a=i:=⟨a.toNat,(eB p1).symm⟩;obtain⟨j,rfl⟩:∃j:Nat,b=j:=⟨b.toNat,(eB (by omega)).symm⟩
 have hd:∃d∈ts,(d.1:Int)=i/\(d.2.1:Int)=j:=by
  by_cases q:∃d∈ts,(d.1:Int)=i/\(d.2.1:Int)=j
  ·exact q
  ·exact absurd ⟨p1,p2,p3,p4,p5,λd hd z=>q ⟨d,hd,z⟩⟩ h
 obtain⟨⟨x,y,v⟩,hm,e1,e2⟩:=hd;simp only at e1 e2;obtain rfl:x=i:=by omega
 obtain rfl:y=j:=by omega
 have hv:=ok.ok _ hm;simp only at hv;have en:WT (Uv n ts) x y=v:=KG ts _ ok.ok ok.nd (MatOk.zero n) hm;have ev:Vv (iL (Yk (Uv n ts) x)) (y:Int)=aA (.int v):=by have:=NS (l:=Yk (Uv n ts) x) (k:=y) (by rw[mo.row x (by omega)];omega);rw[this,<-en];rfl
 have hn0:¬v=0:=by omega
 simp[Yt,U5,WC,YT,OD,Tf,g0,g1,g2,p1,p2,p3,lr,p4,p5,Fo (show x<(Uv n ts).length by rw[mo.len];omega),ev,hn0]
end PW
namespace PW
open L2 VL VX
theorem Qx{T:Tgt}{fy:XF}{fb:XS}:∀(k:Nat){ls:List PV}{s:ZS}(Jv:Nat->ZS->Prop),k<=ls.length->Jv 0 s->(∀(i:Nat) l st,i<k->ls[i]?=aA l->Jv i st->∃s1 s2,WW T l st=aA s1/\fy s1=none/\fb s1=aA (.nx s2)/\Jv (i+1) s2)->
  ∃s',Jv k s'/\Qq T fy fb ls s=Qq T fy fb (ls.drop k) s'
 | 0,ls,s,Jv,_,h0,_=>⟨s,h0,rfl⟩
 | k+1,[],s,Jv,hk,_,_=>by simp at hk
 | k+1,l::r,s,Jv,hk,h0,step=>by
  obtain⟨s1,s2,b1,y1,f1,j1⟩:=step 0 l s (by omega) rfl h0;obtain⟨s',q1,q2⟩:=Qx k (ls:=r) (s:=s2) (λi st=>Jv (i+1) st) (by simpa using hk) j1 λi l' st hi hl hJ=>step (i+1) l' st (by omega) (by simpa using hl) hJ;refine⟨s',q1,?_⟩;rw[iD,<-q2]
  conv=>lhs;unfold Qq
  rw[b1];simp only[aD,y1,f1]
def UP(n:Int)(L:List PV)(M:List (List Int))(x y:Option PV):ZS:=[aA (.int n),aA (.lst L),aA (.lst (rL M)),x,y,none,none]
abbrev Ae:XS:=(Zk (YF (YY (xB (Ze Yt [Za 2,Za 4]))) ZO Zs)
  (Zk (Ym 2 (Zh ZK (Za 4) (eC (.int 0))) (Zh ZK (Za 4) (eC (.int 1))) (Zh ZK (Za 4) (eC (.int 2))))
  (Ym 2 (Zh ZK (Za 4) (eC (.int 1))) (Zh ZK (Za 4) (eC (.int 0))) (Zh ZK (Za 4) (eC (.int 2))))))
abbrev Af:XF:=(Xo (NY (YY (xB (Ze Yt [Za 2,Za 4]))) (U2 "NoWeb" (Za 3)) S1) ZO S1)
theorem Fs{n:Nat}{L:List PV}{M:List (List Int)}{d:Z9}{i:Int}(mi:MatOk n M)(hd:d.1<d.2.1/\d.2.1<n/\1<=d.2.2/\d.2.2<=9)(b0:WT M d.1 d.2.1=0) :
  Af (UP n L M (aA (.int i)) (aA (Yj d)))=none/\Ae (UP n L M (aA (.int i)) (aA (Yj d)))=aA (.nx (UP n L (ZX M d) (aA (.int i)) (aA (Yj d)))):=by
 obtain⟨a,b,t⟩:=d;obtain⟨hab,hbn,t1,t9⟩:=hd;simp only at hab hbn t1 t9 b0;have fe:=JJ (M:=M) (a:=a) (b:=b) (t:=t) (λi hi=>by rw[mi.row i (by rw[<-mi.len];exact hi),mi.len]) hab (by rw[mi.len];exact hbn) t1 t9 b0;have sh:=WX (t:=t) (b:=b) mi.len mi.row (show a<n by omega);have lenM:(rL M).length=n:=by unfold rL;rw[aN];exact mi.len
 have lenM2:(rL (XG M a b t)).length=n:=by unfold rL;rw[aN];exact sh.1
 have fe':Yt [.lst (rL M),.tup [.int (a:Int),.int (b:Int),.int t]]=aA (.bl aC):=fe;have g0:Vv [PV.int (a:Int),PV.int (b:Int),PV.int t] 0=aA (.int (a:Int)):=rfl;have g1:Vv [PV.int (a:Int),PV.int (b:Int),PV.int t] 1=aA (.int (b:Int)):=rfl;have g2:Vv [PV.int (a:Int),PV.int (b:Int),PV.int t] 2=aA (.int t):=rfl;have c0:YY (xB (Ze Yt [Za 2,Za 4])) (UP n L M (aA (.int i)) (aA (Yj (a,b,t))))=aA aB:=by simp[UP,Yj,fe']
 have e1:YF (YY (xB (Ze Yt [Za 2,Za 4]))) ZO Zs (UP n L M (aA (.int i)) (aA (Yj (a,b,t))))=aA (.nx (UP n L M (aA (.int i)) (aA (Yj (a,b,t))))):=by simp[UP,Yj,fe']
 have e2:Ym 2 (Zh ZK (Za 4) (eC (.int 0))) (Zh ZK (Za 4) (eC (.int 1))) (Zh ZK (Za 4) (eC (.int 2))) (UP n L M (aA (.int i)) (aA (Yj (a,b,t))))=aA (.nx (UP n L (XG M a b t) (aA (.int i)) (aA (Yj (a,b,t))))):=by rw[WY (l:=.int t) (a:=(a:Int)) (b:=(b:Int)) (j:=a) (c:=b) (m:=rL M) (n:=iL (Yk M a)) (by simp[UP,Yj,g2]) (by simp[UP,Yj,g0]) (by simp[UP,Yj,g1]) rfl (Wm (by rw[lenM];omega)) (S5 (by rw[mi.len];omega)) (Xw _) rfl (Wm (by rw[aN,mi.row a (by omega)];omega)),Qv];rfl
 have e3:Ym 2 (Zh ZK (Za 4) (eC (.int 1))) (Zh ZK (Za 4) (eC (.int 0))) (Zh ZK (Za 4) (eC (.int 2))) (UP n L (XG M a b t) (aA (.int i)) (aA (Yj (a,b,t))))=aA (.nx (UP n L (ZX M (a,b,t)) (aA (.int i)) (aA (Yj (a,b,t))))):=by rw[WY (l:=.int t) (a:=(b:Int)) (b:=(a:Int)) (j:=b) (c:=a) (m:=rL (XG M a b t)) (n:=iL (Yk (XG M a b t) b)) (by simp[UP,Yj,g2]) (by simp[UP,Yj,g1]) (by simp[UP,Yj,g0]) rfl (Wm (by rw[lenM2];omega)) (S5 (by rw[sh.1];omega)) (Xw _) rfl (Wm (by rw[aN,sh.2 b (by omega)];omega)),Qv];rfl
 refine⟨?_,?_⟩
 ·show Xo (NY _ _ _) ZO S1 _=none;unfold Xo NY;rw[c0];rfl
 ·show Zk _ (Zk _ _) _=_;rw[G9 e1 e2,e3]
theorem Ft{n:Nat}{ts:List Z9}(ok:DictOk n ts)(i:Nat):MatOk n ((ts.take i).foldl ZX (Xl n)):=VQ (ts:=ts.take i) ⟨λe he=>ok.ok e (bz he),by rw[gk];exact ok.nd.sublist (fX _ _)⟩
theorem Ot{n:Nat}{ts:List Z9}{L m6:List PV}(ok:DictOk n ts)(hL:L=ts.map Yj++m6)(i:Nat)(l:PV)(st:ZS)(hi:i<ts.length)(hl:(X5 L)[i]?=aA l)(hJ:∃x y,st=UP n L ((ts.take i).foldl ZX (Xl n)) x y) :
  ∃s1 s2,WW (.many [3,4]) l st=aA s1/\Af s1=none/\Ae s1=aA (.nx s2)/\∃x y,s2=UP n L ((ts.take (i+1)).foldl ZX (Xl n)) x y:=by
 obtain⟨x,y,rfl⟩:=hJ;have hLl:L.length=ts.length+m6.length:=by rw[hL];simp
 rw[Xq,aS,dS (by omega),av] at hl;cases hl;have he:ts[i]?=aA ts[i]:=aK hi;have hv:L.getD i .non=Yj ts[i]:=by rw[aU,hL,bT (by simpa using hi),aS,he];rfl
 rw[hv];have b0:=JK ok (i:=i) (a:=ts[i].1) (b:=ts[i].2.1) (t:=ts[i].2.2) he;obtain⟨w1,w2⟩:=Fs (L:=L) (i:=(i:Int)) (Ft ok i) (ok.ok _ (dG hi)) b0;refine⟨UP n L ((ts.take i).foldl ZX (Xl n)) (aA (.int (i:Int))) (aA (Yj ts[i])),_,rfl,w1,w2,aA (.int (i:Int)),aA (Yj ts[i]),?_⟩;rw[UU _ _ he]
theorem R0{i:Nat}(h:i<=1000):decide ((i:Int).natAbs.log2<1920)=aC:=by rw[decide_eq_true_eq,Int.natAbs_natCast];have:=lN i;omega
theorem Nt{n:Nat}{L:List PV}(hn:n<=7):Yg 1 [0] (YG [Za 0]) (.one 0) Yi (Zh SR (YO [eC (.int 0)]) (Za 1)) [aA (.int (n:Int)),aA (.lst L),none,none,none,none,none]=aA (.lst (rL (Xl n))):=by
 have hrep:SR (.lst [.int 0]) (.int (n:Int))=aA (.lst (iL (aJ n 0))):=by unfold SR;simp only;rw[mZ ⟨rfl,by omega,by omega,by simp;omega⟩,cK,Fc]
 rw[Wx (bN n) (λ(i:Nat)=>.int (i:Int)) (λ_=>.lst (iL (aJ n 0))) (Xh (by simp) (by omega)) (by simp;omega) (λi _=>⟨_,rfl,rfl,?_⟩)]
 ·unfold rL;rw[ji,bb,iV]
 ·simp only[ZH,YO,UX,SV,aD,av,Z7,YQ];exact hrep
theorem Tb{f:XS}{g:XF}{f1:XF}{s s1:ZS}(h0:f1 s=none)(h:f s=aA (.nx s1)):Xo f1 f g s=g s1:=by unfold Xo;rw[h0,h]
theorem Qy{f:XS}{g:XF}{f1:XF}{s:ZS}{c:cq×PV}(h:f1 s=aA c):Xo f1 f g s=aA c:=by unfold Xo;rw[h]
theorem Ho{m:Int}{v:PV}(h:¬(1<=m/\m<=7)):Wh [.int m,v]=aA (("NoWeb" : cq),PV.non):=by
 have c0:YY (xB (Tf Sz Sz (eC (.int 1)) (Za 0) (eC (.int 7)))) [aA (.int m),aA v,none,none,none,none,none]=aA aC:=by
  by_cases p:1<=m
  ·have:¬m<=7:=λz=>h ⟨p,z⟩;simp[Tf,p,this]
  ·simp[Tf,p]
 show Xo (NY _ _ _) _ _ [aA (.int m),aA v,none,none,none,none,none]=_;refine Qy ?_;unfold NY;rw[c0];rfl
section
variable {n:Nat} (h1:1<=n) (hn:n<=7)
include h1 hn
theorem Fu(v:PV):YY (xB (Tf Sz Sz (eC (.int 1)) (Za 0) (eC (.int 7)))) [aA (.int (n:Int)),aA v,none,none,none,none,none]=aA aB:=by simp[Tf,show(1:Int)<=(n:Int) by omega,show(n:Int)<=7 by omega]
theorem Hq{us:List Z9}{e:ZT}{m6:List PV}(ok:DictOk n us)(hb:¬DC n us e)(hl:us.length<=1000):Wh [.int (n:Int),.lst (us.map Yj++zP e::m6)]=aA (("NoWeb" : cq),PV.int (us.length:Int)):=by
 generalize hL:us.map Yj++zP e::m6=L;have c0:=Fu h1 hn (.lst L);have lL:L.length=us.length+(m6.length+1):=by rw[<-hL];simp
 show Xo (NY _ _ _) _ _ [aA (.int (n:Int)),aA (.lst L),none,none,none,none,none]=_;rw[Tb (s1:=[aA (.int (n:Int)),aA (.lst L),none,none,none,none,none]) (by unfold NY;rw[c0];rfl) (by unfold YF;rw[c0];rfl)];rw[Tb (s1:=UP n L (Xl n) none none) rfl (by rw[Zv,Nt hn];rfl)];refine Qy ?_;unfold Kh;have en:WV aC [Za 1] (Ya [2] (UP n L (Xl n) none none))=aA (X5 L):=by rw[Qk];rfl
 rw[en];simp only[aD];obtain⟨s',⟨x,y,rfl⟩,q⟩:=Qx (T:=.many [3,4]) (fy:=Af) (fb:=Ae) us.length (ls:=X5 L) (s:=UP n L (Xl n) none none) (λi st=>∃x y,st=UP n L ((us.take i).foldl ZX (Xl n)) x y) (by rw[Xq];simp;omega) ⟨none,none,rfl⟩ (λi l st hi hl hJ=>Ot ok hL.symm i l st hi hl hJ);rw[q]
 have hd:(X5 L).drop us.length = .tup [.int (us.length:Int),zP e]::(X5 L).drop (us.length+1):=by
  rw[eU (by rw[Xq];simp;omega)];congr 1;have:(X5 L)[us.length]?=aA (.tup [.int (us.length:Int),zP e]):=by rw[Xq,aS,dS (by omega),av,aU,<-hL,bh (by simp)];simp
  exact(aL.mp this).2
 rw[hd,dF];unfold Qq;show(eK (aA (UP n L (Uv n us) (aA (.int (us.length:Int))) (aA (zP e)))) _)=_;have fn:=DD ok hb;have cb:YY (xB (Ze Yt [Za 2,Za 4])) (UP n L (Uv n us) (aA (.int (us.length:Int))) (aA (zP e)))=aA aC:=by simp[UP,fn]
 have fy:Af (UP n L (Uv n us) (aA (.int (us.length:Int))) (aA (zP e)))=aA (("NoWeb" : cq),PV.int (us.length:Int)):=by refine Qy ?_;unfold NY;rw[cb];show(if SG (.int (us.length:Int))=aC then _ else none)=_;rw[mZ (show SG (.int (us.length:Int))=aC from R0 hl)]
 simp only[aD,fy]
theorem Ou{ts:List Z9}(ok:DictOk n ts)(hl:ts.length<=1000):∃l,RSet n (λa b=>0<WT (Uv n ts) a b) l/\Wh [.int (n:Int),.lst (ts.map Yj)]=if l.length<n then aA (("Apart" : cq),pP (ZQ (QL n l))) else none:=by
 have wok:=(VQ ok).web h1 hn;have wl:=(VQ ok).len;obtain⟨l,rs,re⟩:=Lu wok;rw[wl] at rs re;refine⟨l,rs,?_⟩;have ll:=Qw rs.nd rs.lt;have ln:=So rs.nd rs.lt;generalize hL:ts.map Yj=L;have c0:=Fu h1 hn (.lst L);have lL:L.length=ts.length:=by rw[<-hL];simp
 show Xo (NY _ _ _) _ _ [aA (.int (n:Int)),aA (.lst L),none,none,none,none,none]=_;rw[Tb (s1:=[aA (.int (n:Int)),aA (.lst L),none,none,none,none,none]) (by unfold NY;rw[c0];rfl) (by unfold YF;rw[c0];rfl)];rw[Tb (s1:=UP n L (Xl n) none none) rfl (by rw[Zv,Nt hn];rfl)];have en:WV aC [Za 1] (Ya [2] (UP n L (Xl n) none none))=aA (X5 L):=by rw[Qk];rfl
 have hL':L=ts.map Yj++[]:=by rw[bI,hL]
 have le:(X5 L).length=ts.length:=by rw[Xq];simp[lL]
 have y3:Kh [2] (WV aC [Za 1]) (.many [3,4]) Af Ae (UP n L (Xl n) none none)=none:=by unfold Kh;rw[en];simp only[aD];obtain⟨s',_,q⟩:=Qx (T:=.many [3,4]) (fy:=Af) (fb:=Ae) ts.length (ls:=X5 L) (s:=UP n L (Xl n) none none) (λi st=>∃x y,st=UP n L ((ts.take i).foldl ZX (Xl n)) x y) (by omega) ⟨none,none,rfl⟩ (λi l st hi hl hJ=>Ot ok hL' i l st hi hl hJ);rw[q,List.drop_of_length_le (by omega)];rfl
 obtain⟨s',q1,x,y,q2⟩:=Yz (T:=.many [3,4]) (fb:=Ae) (ls:=X5 L) (s:=UP n L (Xl n) none none) (λi st=>∃x y,st=UP n L ((ts.take i).foldl ZX (Xl n)) x y) ⟨none,none,rfl⟩ (λi l st hl hJ=>by
  obtain⟨s1,s2,a1,_,a3,a4⟩:=Ot ok hL' i l st (by have:=(aL.mp hl).1;omega) hl hJ;exact⟨s1,s2,a1,a3,a4⟩)
 rw[le,dF] at q2;subst q2;rw[Tb (s1:=UP n L (Uv n ts) x y) y3 (by rw[Xg,en];exact q1)];have k5:Yg 1 [] (VU (Za 2)) (.one 0) Yi (Ze Y6 [Za 0]) (UP n L (Uv n ts) x y)=aA (.lst ((Uv n ts).map pP)):=by rw[Wx (Uv n ts) (λr=>.lst (iL r)) pP (by simp[rL,UP]) (by rw[wl];omega) (λr _=>⟨_,rfl,rfl,by simp[Z7]⟩)]
 generalize hW:Uv n ts=W at *;have e5:Zl 5 (eP (Ze Y6 [Yg 1 [] (VU (Za 2)) (.one 0) Yi (Ze Y6 [Za 0])])) (UP n L W x y)=aA (.nx [aA (.int (n:Int)),aA (.lst L),aA (.lst (rL W)),x,y,aA (wP W),none]):=by rw[Zv,Wa,ZC];simp only[UX,k5,aD,av];simp[UP]
 rw[Tb (s1:=[aA (.int (n:Int)),aA (.lst L),aA (.lst (rL W)),x,y,aA (wP W),none]) rfl e5];have lr:(ZQ (QL n l)).length=l.length:=by simp[ZQ,ll]
 have gsh:SG (pP (ZQ (QL n l)))=aC:=by show(match Ws (iL (ZQ (QL n l))) with | some is=>decide (is.length<=100)&&is.all λi=>decide (i.natAbs.log2<1920) | none=>aB)=aC;rw[Wv];simp only[bE,decide_eq_true_eq,bB];refine⟨by omega,λi hi=>?_⟩;obtain⟨j,hj,rfl⟩:=ah.mp hi;have:=bX.mp (dj.mp hj).1;exact of_decide_eq_true (R0 (by omega))
 generalize ZQ (QL n l)=rl at re lr gsh;rw[Tb (s1:=[aA (.int (n:Int)),aA (.lst L),aA (.lst (rL W)),x,y,aA (wP W),aA (pP rl)]) rfl (by simp[re])];have c6:xB (Zh Wb (Ze ZR [Za 6]) (Za 0)) [aA (.int (n:Int)),aA (.lst L),aA (.lst (rL W)),x,y,aA (wP W),aA (pP rl)]=aA (decide (l.length<n)):=by simp[lr]
 unfold Xo NY;rw[c6];by_cases q:l.length<n
 ·rw[mZ q];simp only[q,decide_true,aD,if_true];show(match (if SG (pP rl)=aC then aA (("Apart" : cq),pP rl) else none) with | some c=>aA c | none=>_)=_;rw[mZ gsh]
 ·rw[ma q];simp only[q,decide_false,aD];rfl
end
def JT(ts:List Z9)(a b:Nat):Prop:=∃t,(a,b,t)∈ts\/(b,a,t)∈ts
def hlf(a b:Nat)(m:List Nat):List Nat:=if a∈m/\b∉m then m++[b] else m
def bth(m:List Nat)(d:Z9):List Nat:=hlf d.2.1 d.1 (hlf d.1 d.2.1 m)
def Ag(ts:List Z9)(m:List Nat):List Nat:=ts.foldl bth m
structure MSet(n:Nat)(ts:List Z9)(l:List Nat):Prop where
 nd:l.Nodup
 lt:∀x∈l,x<n
 ze:0∈l
 re:∀P:Nat->Prop,P 0->(∀a b,a<n->b<n->JT ts a b->P a->P b)->∀x∈l,P x
theorem MSet.hlf{n:Nat}{ts:List Z9}{m:List Nat}(h:MSet n ts m){a b:Nat}(hb:b<n)(hj:JT ts a b):MSet n ts (hlf a b m):=by
 unfold PW.hlf;split
 ·rename_i q;refine⟨?_,λx hx=>?_,bG _ h.ze,λP h0 hc x hx=>?_⟩
  ·rw[cX];refine⟨h.nd,by simp,λx hx y hy z=>?_⟩;subst z;rw[aP.mp hy] at hx;exact q.2 hx
  ·rcases au.mp hx with hx | hx
   ·exact h.lt x hx
   ·rw[aP.mp hx];exact hb
  ·rcases au.mp hx with hx | hx
   ·exact h.re P h0 hc x hx
   ·rw[aP.mp hx];exact hc a b (h.lt a q.1) hb hj (h.re P h0 hc a q.1)
 ·exact h
theorem MSet.bth{n:Nat}{ts:List Z9}{m:List Nat}(h:MSet n ts m)(ok:DictOk n ts){d:Z9}(hd:d∈ts):MSet n ts (bth m d):=by have hk:=ok.ok d hd;exact(h.hlf (a:=d.1) (b:=d.2.1) hk.2.1 ⟨d.2.2,.inl hd⟩).hlf (by omega) ⟨d.2.2,.inr hd⟩
theorem Pb(a b:Nat)(m:List Nat):m.length<=(hlf a b m).length:=by
 unfold hlf;split
 ·simp
 ·exact ar _
theorem JL(m:List Nat)(d:Z9):m.length<=(bth m d).length:=bu (Pb _ _ _) (Pb _ _ _)
theorem Ov:∀(us:List Z9)(m:List Nat),m.length<=(us.foldl bth m).length
 | [],m=>ar _
 | d::r,m=>bu (JL m d) (Ov r _)
theorem Lv{a b:Nat}{m:List Nat}(h:(hlf a b m).length=m.length):hlf a b m=m/\(a∈m->b∈m):=by
 unfold hlf at h ⊢;split
 ·rename_i q;rw[mZ q] at h;simp at h
 ·rename_i q;refine⟨rfl,λha=>?_⟩;by_cases z:b∈m
  ·exact z
  ·exact absurd ⟨ha,z⟩ q
theorem Fv{m:List Nat}{d:Z9}(h:(bth m d).length=m.length):bth m d=m/\(d.1∈m↔d.2.1∈m):=by unfold bth at h ⊢;have h1:=Pb d.1 d.2.1 m;have h2:=Pb d.2.1 d.1 (hlf d.1 d.2.1 m);obtain⟨e1,i1⟩:=Lv (a:=d.1) (b:=d.2.1) (m:=m) (by omega);rw[e1] at h ⊢;obtain⟨e2,i2⟩:=Lv (a:=d.2.1) (b:=d.1) (m:=m) h;exact⟨e2,i1,i2⟩
theorem Qz:∀{us:List Z9}{m:List Nat},(us.foldl bth m).length=m.length->us.foldl bth m=m/\∀d∈us,(d.1∈m↔d.2.1∈m)
 | [],m,_=>⟨rfl,λd hd=>by simp at hd⟩
 | d::r,m,h=>by
  rw[jd] at h ⊢;have h1:=JL m d;have h2:=Ov r (bth m d);obtain⟨e1,i1⟩:=Fv (m:=m) (d:=d) (by omega);rw[e1] at h ⊢;obtain⟨e2,i2⟩:=Qz (us:=r) (m:=m) h;refine⟨e2,λx hx=>?_⟩;rcases aV.mp hx with rfl | hx
  ·exact i1
  ·exact i2 x hx
theorem MSet.fold{n:Nat}{ts:List Z9}(ok:DictOk n ts):∀{us:List Z9}{m:List Nat},(∀d∈us,d∈ts)->MSet n ts m->MSet n ts (us.foldl PW.bth m)
 | [],m,_,h=>h
 | d::r,m,hu,h=>MSet.fold ok (us:=r) (λx hx=>hu x (by simp[hx])) (h.bth ok (hu d (by simp)))
def pasN(ts:List Z9):Nat->List Nat
 | 0=>[0]
 | k+1=>Ag ts (pasN ts k)
theorem MSet.pasN{n:Nat}{ts:List Z9}(ok:DictOk n ts)(h1:1<=n):∀k,MSet n ts (pasN ts k)
 | 0=>⟨by simp[PW.pasN],λx hx=>by rw[show x=0 by simpa [PW.pasN] using hx];omega,by simp[PW.pasN],λP h0 _ x hx=>by rw[show x=0 by simpa [PW.pasN] using hx];exact h0⟩
 | k+1=>MSet.fold ok (λd hd=>hd) (MSet.pasN ok h1 k)
theorem Nu(ts:List Z9):∀k,k+1<=(pasN ts k).length\/Ag ts (pasN ts k)=pasN ts k
 | 0=>.inl (by simp[pasN])
 | k+1=>by
  rcases Nu ts k with h | h
  ·have hl:=Ov ts (pasN ts k);by_cases q:(ts.foldl bth (pasN ts k)).length=(pasN ts k).length
   ·right;have e:=(Qz q).1;have e':pasN ts (k+1)=pasN ts k:=e;rw[e'];exact e
   ·left;show k+1+1<=(ts.foldl bth (pasN ts k)).length;omega
  ·right;have e':pasN ts (k+1)=pasN ts k:=h;rw[e'];exact h
theorem JM{n:Nat}{ts:List Z9}(ok:DictOk n ts)(h1:1<=n):RSet n (JT ts) (pasN ts n):=by
 have M:=MSet.pasN ok h1 n;refine⟨M.nd,M.lt,M.ze,λx hx y hy hj=>?_,M.re⟩
 have st:Ag ts (pasN ts n)=pasN ts n:=by
  rcases Nu ts n with h | h
  ·have:=So M.nd M.lt;omega
  ·exact h
 obtain⟨_,i⟩:=Qz (us:=ts) (m:=pasN ts n) (congrArg fj st);obtain⟨t,ht | ht⟩:=hj
 ·exact(i _ ht).mp hx
 ·exact(i _ ht).mpr hx
theorem RSet.congr{n:Nat}{J J':Nat->Nat->Prop}{l:List Nat}(h:RSet n J l)(hj:∀a b,a<n->b<n->(J a b↔J' a b)):RSet n J' l:=
 ⟨h.nd,h.lt,h.ze,λx hx y hy z=>h.cl x hx y hy ((hj x y (h.lt x hx) hy).mpr z),λP h0 hc=>h.re P h0 λa b ha hb z=>hc a b ha hb ((hj a b ha hb).mp z)⟩
theorem Fw{n:Nat}{ts:List Z9}(ok:DictOk n ts){a b:Nat}(ha:a<n)(hb:b<n):0<WT (Uv n ts) a b↔JT ts a b:=by
 have mo:=VQ ok
 have key:∀a b:Nat,a<b->b<n->(0<WT (Uv n ts) a b↔JT ts a b):=λa b hab hb=>by
  rcases DB ok hab hb with⟨t,ht,e⟩ | ⟨hno,e⟩
  ·have:=(ok.ok _ ht).2.2.1;rw[e];exact⟨λ_=>⟨t,.inl ht⟩,λ_=>by simp only at this;omega⟩
  ·rw[e];refine⟨λz=>by omega,λ⟨t,z⟩=>?_⟩;rcases z with z | z
   ·exact absurd z (hno t)
   ·have:=(ok.ok _ z).1;simp only at this;omega
 rcases Nat.lt_trichotomy a b with q | q | q
 ·exact key a b q hb
 ·subst q;rw[mo.dia a ha];refine⟨λz=>by omega,λ⟨t,z⟩=>?_⟩;rcases z with z | z
  ·have:=(ok.ok _ z).1;simp only at this;omega
  ·have:=(ok.ok _ z).1;simp only at this;omega
 ·rw[mo.sym a b ha hb,key b a q ha];exact⟨λ⟨t,z⟩=>⟨t,z.symm⟩,λ⟨t,z⟩=>⟨t,z.symm⟩⟩
theorem DE{n:Nat}{ts:List Z9}{l:List Nat}(h:RSet n (JT ts) l)(hl:l.length=n):Hang n ts:=by
 intro P hP i j hi hj
 have key:∀k,k<n->(P 0↔P k):=λk hk=>by
  refine h.re (λx=>P 0↔P x) Iff.rfl (λa b ha hb ⟨t,z⟩ q=>?_) k (h.all hl hk);rcases z with z | z
  ·exact q.trans (hP a b ⟨t,z⟩)
  ·exact q.trans (hP b a ⟨t,z⟩).symm
 exact(key i hi).symm.trans (key j hj)
theorem Nv{T:Tgt}{fb:XS}:∀(k:Nat){ls:List PV}{s:ZS}(Jv:Nat->ZS->Prop),k<=ls.length->Jv 0 s->(∀(i:Nat) l st,i<k->ls[i]?=aA l->Jv i st->∃s1 s2,WW T l st=aA s1/\fb s1=aA (.nx s2)/\Jv (i+1) s2)->
  ∃s',Jv k s'/\We T fb ls s=We T fb (ls.drop k) s'
 | 0,ls,s,Jv,_,h0,_=>⟨s,h0,rfl⟩
 | k+1,[],s,Jv,hk,_,_=>by simp at hk
 | k+1,l::r,s,Jv,hk,h0,step=>by
  obtain⟨s1,s2,b1,f1,j1⟩:=step 0 l s (by omega) rfl h0;obtain⟨s',q1,q2⟩:=Nv k (ls:=r) (s:=s2) (λi st=>Jv (i+1) st) (by simpa using hk) j1 λi l' st hi hl hJ=>step (i+1) l' st (by omega) (by simpa using hl) hJ;refine⟨s',q1,?_⟩;rw[iD,<-q2]
  conv=>lhs;unfold We
  rw[b1];simp only[aD,f1]
theorem Fx{n:Nat}{ts:List Z9}{d:Z9}(ok:DictOk n (ts++[d]))(hl:ts.length<=1000):LZ (dP ts) (.tup [.int (d.1:Int),.int (d.2.1:Int)]) (.int d.2.2)=aA (dP (ts++[d])):=by
 have hm:¬ ∃t',(d.1,d.2.1,t')∈ts:=λ⟨t',h⟩=>by have nd:=ok.nd;rw[bt,cX] at nd;exact nd.2.2 (d.1,d.2.1) (ah.mpr ⟨_,h,rfl⟩) (d.1,d.2.1) (by simp) rfl
 have c:(ZZ (ts.map λe=>PV.int e.2.2)&&Yc (.int d.2.2)&&decide ((ts.map tk).length<=10000))=aC:=by rw[Nj,aN,decide_eq_true (by omega)];rfl
 have e0:LZ (dP ts) (.tup [.int (d.1:Int),.int (d.2.1:Int)]) (.int d.2.2)=aA (.dT (UH (ts.map tk) [.inl (d.1:Int),.inl (d.2.1:Int)]) (UI (ts.map tk) (ts.map λe=>PV.int e.2.2) [.inl (d.1:Int),.inl (d.2.1:Int)] (.int d.2.2))):=by show(gd _).bind _=_;rw[Sf c,Oa];rfl
 rw[e0];unfold UH UI dP;rw[ma (λz=>hm (key_mem.mp z)),ma (λz=>hm (key_mem.mp z)),bt,bt];rfl
def kP(d:Z9):PV:=.tup [.int (d.1:Int),.int (d.2.1:Int)]
theorem B1{n:Nat}{ts:List Z9}(ok:DictOk n ts)(a b:Nat):∃c,Aa (dP ts) (.tup [.int (a:Int),.int (b:Int)])=aA c/\(c=aC↔∃t,(a,b,t)∈ts):=by
 refine⟨_,rfl,?_⟩;constructor
 ·intro h;rw[<-key_mem];obtain⟨v,hv⟩:=cQ.mp h;have hv':Vk (ts.map tk) (ts.map λe=>PV.int e.2.2) [dI (a:Int),dI (b:Int)]=aA v:=hv;unfold Vk at hv';rw[Ob,eG] at hv';obtain⟨z,h1,_⟩:=hv';have h2:=List.find?_some h1;have h3:=List.mem_of_find?_eq_some h1;obtain⟨q,hq,rfl⟩:=ah.mp h3;exact ah.mpr ⟨q,hq,of_decide_eq_true h2⟩
 ·rintro⟨t,ht⟩;have:=JF ok ht;show(Vk (ts.map tk) (ts.map λe=>PV.int e.2.2) [dI (a:Int),dI (b:Int)]).isSome=aC;rw[this];rfl
def oI(x:Option Int):Option PV:=x.map PV.int
def Tc(n:Int)(L:List PV)(ts:List Z9)(a b c d:Option Int):ZS:=[aA (.int n),aA (.lst L),aA (dP ts),oI a,oI b,oI c,oI d,none,none]
abbrev cD:XT:=(Ue (xB (Zh Sz (Za 5) (Za 4))) (Ue (xB (Zh DZ (Za 5) (Za 0))) (Ue (xB (Zh T7 (Za 6) (eC (.int 9)))) (xB (Qj aB (Yf [Za 4,Za 5]) (Za 2))))))
abbrev B2:XS:=(Zk (MJ (.many [4,5,6]) (Zh ZK (Za 1) (Za 3)))
  (Zk (YF cD (Yd (eP (Yf [eC (.int 0),Za 3]))) Zs)
  (sDPut 2 (Yf [Za 4,Za 5]) (Za 6))))
def zI(z:Z3):ZT:=((z.1:Int),(z.2.1:Int),(z.2.2:Int))
theorem Cs{n:Nat}{L:List PV}{ts:List Z9}(ok:DictOk n ts){x:Option Int}(z:Z3)(h1:1<=z.2.2):cD (Tc n L ts x (aA (z.1:Int)) (aA (z.2.1:Int)) (aA (z.2.2:Int)))=aA aC/\¬DC n ts (zI z)\/cD (Tc n L ts x (aA (z.1:Int)) (aA (z.2.1:Int)) (aA (z.2.2:Int)))=aA aB/\DC n ts (zI z):=by
 obtain⟨a,b,t⟩:=z;simp only at h1;by_cases p2:b<=a
 ·exact .inl ⟨by simp[Tc,oI,p2],λh=>by have:=h.2.1;simp only[zI] at this;omega⟩
 by_cases p3:n<=b
 ·exact .inl ⟨by simp[Tc,oI,p2,p3],λh=>by have:=h.2.2.1;simp only[zI] at this;omega⟩
 by_cases p5:9<t
 ·have p5':(9:Int)<(t:Int):=by omega
  exact .inl ⟨by simp[Tc,oI,p2,p3,p5'],λh=>by have:=h.2.2.2.2.1;simp only[zI] at this;omega⟩
 have p5':¬(9:Int)<(t:Int):=by omega
 obtain⟨c,g,hc⟩:=B1 ok a b;have g':Qj aB (Yf [Za 4,Za 5]) (Za 2) (Tc n L ts x (aA (a:Int)) (aA (b:Int)) (aA (t:Int)))=aA (.bl c):=by show(eK (aA (PV.tup [.int (a:Int),.int (b:Int)])) λk=>(aA (dP ts)).bind λd=>(Aa d k).map λb=>PV.bl (if aB then !b else b))=_;simp only[aD,g];rfl
 have e:cD (Tc n L ts x (aA (a:Int)) (aA (b:Int)) (aA (t:Int)))=aA c:=by
  unfold cD;rw[Xa,Xa,Xa];have q:xB (Qj aB (Yf [Za 4,Za 5]) (Za 2)) (Tc n L ts x (aA (a:Int)) (aA (b:Int)) (aA (t:Int)))=aA c:=by rw[Yq,g'];rfl
  rw[q];simp[Tc,oI,p2,p3,p5']
 cases c with
 | true=>
  refine .inl ⟨e,λh=>?_⟩;obtain⟨t',ht⟩:=hc.mp rfl;exact h.2.2.2.2.2 _ ht ⟨rfl,rfl⟩
 | false=>
  refine .inr ⟨e,by simp only[zI];omega,by simp only[zI];omega,by simp only[zI];omega,by simp only[zI];omega,by simp only[zI];omega,λd hd hz=>?_⟩;simp only[zI] at hz;obtain⟨d1,d2,d3⟩:=d;have z1:d1=a:=by have:=hz.1;simp only at this;omega
  have z2:d2=b:=by have:=hz.2;simp only at this;omega
  subst z1 z2;exact Bool.noConfusion (hc.mpr ⟨d3,hd⟩)
theorem JN{n:Int}{L:List PV}{ts:List Z9}{i:Nat}{b c d:Option Int}{e:ZT}(h:L[i]?=aA (zP e)):MJ (.many [4,5,6]) (Zh ZK (Za 1) (Za 3)) (Tc n L ts (aA (i:Int)) b c d)=aA (.nx (Tc n L ts (aA (i:Int)) (aA e.1) (aA e.2.1) (aA e.2.2))):=by
 have g:Zh ZK (Za 1) (Za 3) (Tc n L ts (aA (i:Int)) b c d)=aA (zP e):=by simp[Tc,oI,Xy h]
 unfold MJ;rw[g];rfl
theorem KH{n:Nat}{ts:List Z9}(ok:DictOk n ts){i:Nat}(hi:i<ts.length):DC n (ts.take i) ((ts[i].1:Int),(ts[i].2.1:Int),ts[i].2.2):=by
 have hk:=ok.ok _ (dG hi);refine⟨by simp only;omega,by simp only;omega,by simp only;omega,hk.2.2.1,hk.2.2.2,λd hd z=>?_⟩;simp only at z;obtain⟨j,hj,ej⟩:=dU hd;rw[br] at hj;rw[lD] at ej;have e1:(ts.map λe=>(e.1,e.2.1))[j]?=aA (ts[i].1,ts[i].2.1):=by rw[aS,aK (by omega),ej,av];have:=z.1;have:=z.2;congr 1;exact mT (by simp only;omega) (by simp only;omega)
 have e2:(ts.map λe=>(e.1,e.2.1))[i]?=aA (ts[i].1,ts[i].2.1):=by rw[aS,aK hi];rfl
 have:=(lE (by rw[aN];omega) ok.nd).mp (e1.trans e2.symm);omega
def Hr(d:Z9):Z3:=(d.1,d.2.1,d.2.2.toNat)
theorem Me{n:Nat}{ts:List Z9}(ok:DictOk n ts)(i:Nat):DictOk n (ts.take i):=⟨λe he=>ok.ok e (bz he),by rw[gk];exact ok.nd.sublist (fX _ _)⟩
theorem Lw{n:Nat}{ts:List Z9}{L m6:List PV}(ok:DictOk n ts)(hL:L=ts.map Yj++m6)(hl1:ts.length<=1000)(i:Nat)(l:PV)(st:ZS)(hi:i<ts.length)(hl:(Xs L.length)[i]?=aA l)(hJ:∃a b c d,st=Tc n L (ts.take i) a b c d) :
  ∃s1 s2,WW (.one 3) l st=aA s1/\B2 s1=aA (.nx s2)/\∃a b c d,s2=Tc n L (ts.take (i+1)) a b c d:=by
 obtain⟨a,b,c,d,rfl⟩:=hJ;obtain⟨_,rfl⟩:=VV hl;have hk:=ok.ok _ (dG hi);have tz:zI (Hr ts[i])=((ts[i].1:Int),(ts[i].2.1:Int),ts[i].2.2):=by unfold zI Hr;simp only;rw[eB (by omega)]
 have hLi:L[i]?=aA (zP ((ts[i].1:Int),(ts[i].2.1:Int),ts[i].2.2)):=by rw[hL,bT (by simpa using hi),aS,aK hi];rfl
 have e1:=JN (n:=(n:Int)) (ts:=ts.take i) (b:=b) (c:=c) (d:=d) hLi
 have e2:YF cD (Yd (eP (Yf [eC (.int 0),Za 3]))) Zs (Tc n L (ts.take i) (aA (i:Int)) (aA (ts[i].1:Int)) (aA (ts[i].2.1:Int)) (aA ts[i].2.2))=aA (.nx (Tc n L (ts.take i) (aA (i:Int)) (aA (ts[i].1:Int)) (aA (ts[i].2.1:Int)) (aA ts[i].2.2))):=by
  have t0:((Hr ts[i]).2.2:Int)=ts[i].2.2:=congrArg (·.2.2) tz;have C:=Cs (n:=n) (L:=L) (Me ok i) (x:=aA (i:Int)) (Hr ts[i]) (by unfold Hr;simp only;omega);rw[tz,t0] at C;rcases C with⟨_,q⟩ | ⟨q,_⟩
  ·exact absurd (KH ok hi) q
  ·rw[Zu];have q':cD (Tc n L (ts.take i) (aA (i:Int)) (aA (ts[i].1:Int)) (aA (ts[i].2.1:Int)) (aA ts[i].2.2))=aA aB:=q;rw[q'];rfl
 have tk1:ts.take (i+1)=ts.take i++[ts[i]]:=g9 hi;have pd:=Fx (n:=n) (ts:=ts.take i) (d:=ts[i]) (by rw[<-tk1];exact Me ok _) (by rw[br];omega);have e3:sDPut 2 (Yf [Za 4,Za 5]) (Za 6) (Tc n L (ts.take i) (aA (i:Int)) (aA (ts[i].1:Int)) (aA (ts[i].2.1:Int)) (aA ts[i].2.2))=aA (.nx (Tc n L (ts.take (i+1)) (aA (i:Int)) (aA (ts[i].1:Int)) (aA (ts[i].2.1:Int)) (aA ts[i].2.2))):=by rw[T1 (v:=.int ts[i].2.2) (k:=.tup [.int (ts[i].1:Int),.int (ts[i].2.1:Int)]) (d:=dP (ts.take i)) rfl rfl rfl pd,tk1];rfl
 refine⟨Tc n L (ts.take i) (aA (i:Int)) b c d,Tc n L (ts.take (i+1)) (aA (i:Int)) (aA (ts[i].1:Int)) (aA (ts[i].2.1:Int)) (aA ts[i].2.2),rfl,?_,_,_,_,_,rfl⟩;show Zk _ (Zk _ _) _=_;rw[G9 e1 e2,e3]
theorem DF{m:Int}{v:PV}(h:¬(1<=m/\m<=7)):Vz [.int m,v]=aA (.tup [.int 0,.non]):=by
 show(Zk (YF _ _ _) _ [aA (.int m),aA v,none,none,none,none,none,none,none]).bind Xv=_;by_cases p:m<1
 ·simp[p]
 ·have:7<m:=by omega
  simp[p,this]
section
variable {n:Nat} (h1:1<=n) (hn:n<=7)
include h1 hn
theorem Fy(v:PV):YF (Ue (xB (Zh Wb (Za 0) (eC (.int 1)))) (xB (Zh T7 (Za 0) (eC (.int 7))))) (Yd (eP (Yf [eC (.int 0),eC .non]))) Zs [aA (.int (n:Int)),aA v,none,none,none,none,none,none,none]=aA (.nx [aA (.int (n:Int)),aA v,none,none,none,none,none,none,none]):=by simp[show ¬(n:Int)<1 by omega,show ¬(7:Int)<(n:Int) by omega]
theorem DG{us:List Z9}{z:Z3}{m6:List PV}(ok:DictOk n us)(hz:1<=z.2.2)(hb:¬DC n us (zI z))(hl:(us.map Yj++zP (zI z)::m6).length<=1001):Vz [.int (n:Int),.lst (us.map Yj++zP (zI z)::m6)]=aA (.tup [.int 0,.int (us.length:Int)]):=by
 generalize hL:us.map Yj++zP (zI z)::m6=L at *;have lL:L.length=us.length+(m6.length+1):=by rw[<-hL];simp
 show(Zk (YF _ _ _) _ [aA (.int (n:Int)),aA (.lst L),none,none,none,none,none,none,none]).bind Xv=_;have e1:Zl 2 (eC (.dT [] [])) [aA (.int (n:Int)),aA (.lst L),none,none,none,none,none,none,none]=aA (.nx (Tc n L [] none none none none)):=rfl;rw[ZE (Fy h1 hn _),ZE e1,ZI,Xg];have er:YG [Ze ZR [Za 1]] (Ya [2,7] (Tc n L [] none none none none))=aA (Xs L.length):=Xh (by simp[Tc,Ya]) (by omega);rw[er];simp only[aD];obtain⟨s',⟨a,b,c,d,rfl⟩,q⟩:=Nv (T:=.one 3) (fb:=B2) us.length (ls:=Xs L.length) (s:=Tc n L [] none none none none) (λi st=>∃a b c d,st=Tc n L (us.take i) a b c d) (by simp[Xs];omega) ⟨none,none,none,none,rfl⟩ (λi l st hi hl hJ=>Lw ok hL.symm (by omega) i l st hi hl hJ);have hd:(Xs L.length).drop us.length = .int (us.length:Int)::(Xs L.length).drop (us.length+1):=by rw[eU (by simp[Xs];omega)];simp[Xs]
 have hLi:L[us.length]?=aA (zP (zI z)):=by rw[<-hL,bh (by simp)];simp
 have fb:B2 (Tc n L (us.take us.length) (aA (us.length:Int)) b c d)=aA (.rt (.tup [.int 0,.int (us.length:Int)])):=by
  have e1:=JN (n:=(n:Int)) (ts:=us.take us.length) (b:=b) (c:=c) (d:=d) hLi;show Zk _ (Zk _ _) _=_;rw[ZE e1,ZI];have C:=Cs (n:=n) (L:=L) (Me ok us.length) (x:=aA (us.length:Int)) z hz;rcases C with⟨y,_⟩ | ⟨_,y⟩
  ·have y':cD (Tc n L (us.take us.length) (aA (us.length:Int)) (aA (zI z).1) (aA (zI z).2.1) (aA (zI z).2.2))=aA aC:=y;rw[Zu,y'];rfl
  ·rw[dF] at y;exact absurd y hb
 have ff:We (.one 3) B2 (Xs L.length) (Tc n L [] none none none none)=aA (.rt (.tup [.int 0,.int (us.length:Int)])):=by rw[q,hd];unfold We;show(eK (aA (Tc n L (us.take us.length) (aA (us.length:Int)) b c d)) _)=_;simp only[aD,fb]
 have ff':=ff;unfold B2 cD at ff';rw[ff'];rfl
end
theorem Mf(M:List (List Int)):Yc (PV.tup [.non,wP M])=aC:=by
 have h:Yc (wP M)=aC:=by rw[O7];exact Gn _
 rw[O7];show(Yc PV.non&&(Yc (wP M)&&ZZ []))=aC;rw[h];rfl
theorem Ox(y:Nat)(l:List Nat):Rr aB (.int (y:Int)) (.lst (iL (ZQ l)))=aA (.bl (decide (y∈l))):=by
 rw[G5];have:((y:Int)∈ZQ l)↔y∈l:=by unfold ZQ;rw[ah];exact⟨λ⟨a,h,e⟩=>by rw[show y=a by omega];exact h,λh=>⟨y,h,rfl⟩⟩
 simp[this]
def QB(n:Int)(v:Option PV)(ts:List Z9)(a b c d:Option Int)(m:List Nat)(e:Option Int):ZS:=[aA (.int n),v,aA (dP ts),oI a,oI b,oI c,oI d,aA (.lst (iL (ZQ m))),oI e]
abbrev hM(i j:Nat):XS:=(YF (Vi (xB (Zh (Rr aB) (Za i) (Za 7))) (xB (Zh (Rr aC) (Za j) (Za 7)))) (XB 7 (eP (Za j))) Zs)
theorem Cu{i j a b:Nat}{m:List Nat}{s:ZS}(hi:s[i]?=aA (aA (.int (a:Int))))(hj:s[j]?=aA (aA (.int (b:Int))))(h7:s[7]?=aA (aA (.lst (iL (ZQ m)))))(hl:m.length<=1000):hM i j s=aA (.nx (s.set 7 (aA (.lst (iL (ZQ (hlf a b m))))))):=by
 have vi:Za i s=aA (.int (a:Int)):=by rw[YQ,hi];rfl
 have vj:Za j s=aA (.int (b:Int)):=by rw[YQ,hj];rfl
 have v7:Za 7 s=aA (.lst (iL (ZQ m))):=by rw[YQ,h7];rfl
 have same:s.set 7 (aA (.lst (iL (ZQ m))))=s:=by have h:=(aL.mp h7).1;have e:=(aL.mp h7).2;rw[<-e,List.set_getElem_self]
 unfold hlf hM;by_cases p:a∈m
 ·by_cases q:b∈m
  ·rw[ma (λz=>z.2 q),same];rw[Zu,UK,Yq,Yq,ZH,ZH,vi,vj,v7];simp[Ox,Pa,p,q,MN]
  ·rw[mZ ⟨p,q⟩];rw[Zu,UK,Yq,Yq,ZH,ZH,vi,vj,v7];simp only[aD,Ox,Pa,p,q,decide_true,decide_false,Bool.not_false,MN,if_true];rw[SW (l:=.int (b:Int)) (m:=iL (ZQ m)) (by rw[Wa,vj];rfl) (by unfold Gi;rw[h7]) (by simp[ZQ];omega)];congr 3;simp[ZQ]
 ·rw[ma (λz=>p z.1),same];rw[Zu,UK,Yq,Yq,ZH,ZH,vi,vj,v7];simp[Ox,Pa,p,MN]
theorem Zar{n:Int}{v:Option PV}{ts:List Z9}{x y e:Option Int}{m:List Nat}{d:Z9}(hl:m.length<=900):(Zk (hM 4 5) (hM 5 4)) (QB n v ts x (aA (d.1:Int)) (aA (d.2.1:Int)) y m e)=aA (.nx (QB n v ts x (aA (d.1:Int)) (aA (d.2.1:Int)) y (bth m d) e)):=by
 have e1:=Cu (i:=4) (j:=5) (a:=d.1) (b:=d.2.1) (m:=m) (s:=QB n v ts x (aA (d.1:Int)) (aA (d.2.1:Int)) y m e) rfl rfl rfl (by omega)
 have l1:(hlf d.1 d.2.1 m).length<=m.length+1:=by
  unfold hlf;split
  ·simp
  ·omega
 have e2:=Cu (i:=5) (j:=4) (a:=d.2.1) (b:=d.1) (m:=hlf d.1 d.2.1 m) (s:=QB n v ts x (aA (d.1:Int)) (aA (d.2.1:Int)) y (hlf d.1 d.2.1 m) e) rfl rfl rfl (by omega);rw[ZE (s1:=QB n v ts x (aA (d.1:Int)) (aA (d.2.1:Int)) y (hlf d.1 d.2.1 m) e) e1];exact e2
theorem Ht{n:Int}{v:Option PV}{ts:List Z9}{a b c d e:Option Int}{m:List Nat}:∃v',SU [2,7] (.nx (QB n v ts a b c d m e)) = .nx (QB n v' ts a b c d m e):=by
 cases v with
 | none=>exact⟨none,by cases a<;>cases b<;>cases c<;>cases d<;>cases e<;>rfl⟩
 | some l=>exact⟨if Yc l=aC then aA l else none,by cases a<;>cases b<;>cases c<;>cases d<;>cases e<;>rfl⟩
section
variable {n:Nat} (h1:1<=n) (hn:n<=7)
include h1 hn
theorem DH{ts:List Z9}{v:Option PV}{m:List Nat}{x a b y e:Option Int}(ok:DictOk n ts)(hm:MSet n ts m) :
  ∃v' a' b',Vl [2,7] 2 (.many [4,5]) (Zk (hM 4 5) (hM 5 4)) (QB n v ts x a b y m e)=aA (.nx (QB n v' ts x a' b' y (Ag ts m) e)):=by
 obtain⟨s',q,a',b',rfl⟩:=Yz (T:=.many [4,5]) (fb:=Zk (hM 4 5) (hM 5 4)) (ls:=ts.map kP) (s:=QB n v ts x a b y m e) (λi st=>∃a' b',st=QB n v ts x a' b' y ((ts.take i).foldl bth m) e) ⟨a,b,rfl⟩ (λi l st hl hJ=>by
  obtain⟨a',b',rfl⟩:=hJ;rw[aS] at hl
  cases he:ts[i]? with
  | none=>rw[he] at hl;cases hl
  | some d=>
   rw[he] at hl;cases hl;have mi:MSet n ts ((ts.take i).foldl bth m):=MSet.fold ok (λd hd=>bz hd) hm;have li:=So mi.nd mi.lt;refine⟨QB n v ts x (aA (d.1:Int)) (aA (d.2.1:Int)) y ((ts.take i).foldl bth m) e,_,rfl,Zar (by omega),aA (d.1:Int),aA (d.2.1:Int),?_⟩;rw[UU _ _ he])
 obtain⟨v',cl⟩:=Ht (n:=(n:Int)) (v:=v) (ts:=ts) (a:=x) (b:=a') (c:=b') (d:=y) (e:=e) (m:=Ag ts m);refine⟨v',a',b',?_⟩;unfold Vl;show((QD (dP ts)).bind λls=>(We _ _ ls _).map (SU [2,7]))=_;rw[RU];simp only[aD];show(We (.many [4,5]) (Zk (hM 4 5) (hM 5 4)) (ts.map kP) (QB n v ts x a b y m e)).map (SU [2,7])=_;rw[q,aN,dF,av];show aA (SU [2,7] (.nx (QB n v ts x a' b' y (Ag ts m) e)))=_;rw[cl]
theorem Hu{ts:List Z9}{v:Option PV}{x a b y:Option Int}(ok:DictOk n ts) :
  ∃v' a' b' e',Wt [2,7] (YG [Za 0]) (.one 8) (Vl [2,7] 2 (.many [4,5]) (Zk (hM 4 5) (hM 5 4))) (QB n v ts x a b y [0] none)=aA (.nx (QB n v' ts x a' b' y (pasN ts n) e')):=by
 obtain⟨s',q,v',a',b',e',rfl⟩:=Yz (T:=.one 8) (fb:=Vl [2,7] 2 (.many [4,5]) (Zk (hM 4 5) (hM 5 4))) (ls:=Xs n) (s:=QB n v ts x a b y [0] none) (λi st=>∃v' a' b' e',st=QB n v' ts x a' b' y (pasN ts i) e') ⟨v,a,b,none,rfl⟩ (λi l st hl hJ=>by
  obtain⟨v',a',b',e',rfl⟩:=hJ;obtain⟨_,rfl⟩:=VV hl;obtain⟨v2,a2,b2,e2⟩:=DH h1 hn (v:=v') (x:=x) (a:=a') (b:=b') (y:=y) (e:=aA (i:Int)) ok (MSet.pasN ok h1 i);exact⟨QB n v' ts x a' b' y (pasN ts i) (aA (i:Int)),_,rfl,e2,v2,a2,b2,aA (i:Int),rfl⟩)
 refine⟨v',a',b',e',?_⟩;rw[Xg];have er:YG [Za 0] (Ya [2,7] (QB n v ts x a b y [0] none))=aA (Xs n):=Xh (by simp[QB,Ya]) (by omega);rw[er];simp only[aD];rw[q];simp[Xs]
theorem Fz{ts:List Z9}(ok:DictOk n ts)(hl:ts.length<=1000):Vz [.int (n:Int),.lst (ts.map Yj)]=aA (if(pasN ts n).length<n then .tup [.int 1,pP (ZQ (QL n (pasN ts n)))] else .tup [.non,wP (Uv n ts)]):=by
 generalize hL:ts.map Yj=L;have lL:L.length=ts.length:=by rw[<-hL];simp
 have hL':L=ts.map Yj++[]:=by rw[bI,hL]
 show(Zk (YF _ _ _) _ [aA (.int (n:Int)),aA (.lst L),none,none,none,none,none,none,none]).bind Xv=_;have e1:Zl 2 (eC (.dT [] [])) [aA (.int (n:Int)),aA (.lst L),none,none,none,none,none,none,none]=aA (.nx (Tc n L [] none none none none)):=rfl;have er:YG [Ze ZR [Za 1]] (Ya [2,7] (Tc n L [] none none none none))=aA (Xs L.length):=Xh (by simp[Tc,Ya]) (by omega);obtain⟨s',q,a,b,c,d,rfl⟩:=Yz (T:=.one 3) (fb:=B2) (ls:=Xs L.length) (s:=Tc n L [] none none none none) (λi st=>∃a b c d,st=Tc n L (ts.take i) a b c d) ⟨none,none,none,none,rfl⟩ (λi l st hl2 hJ=>Lw ok hL' hl i l st (by have:=(aL.mp hl2).1;simp[Xs] at this;omega) hl2 hJ);have ef:Wt [2,7] (YG [Ze ZR [Za 1]]) (.one 3) B2 (Tc n L [] none none none none)=aA (.nx (Tc n L ts a b c d)):=by rw[Xg,er];simp only[aD];rw[q];simp[Xs,lL]
 have e7:Zl 7 (YO [eP (eC (.int 0))]) (Tc n L ts a b c d)=aA (.nx (QB n (aA (.lst L)) ts a b c d [0] none)):=rfl;obtain⟨v2,b2,c2,e2,ep⟩:=Hu h1 hn (v:=aA (.lst L)) (x:=a) (a:=b) (b:=c) (y:=d) ok;rw[ZE (Fy h1 hn _),ZE e1,ZE ef,ZE e7,ZE ep];have R:=JM ok h1;generalize hm:pasN ts n=m at *;have ml:=So R.nd R.lt;have gs:Ul [.lst (iL (ZQ m))]=aA (.lst (iL (ZQ (QL n m)))):=by show(Ws (iL (ZQ m))).bind _=_;rw[Wv];simp only[aD];rw[mZ (by simp[ZQ];omega),Md R.nd R.lt]
 have lm:(ZQ m).length=m.length:=by simp[ZQ]
 generalize ZQ (QL n m)=rl at gs;have sq:=Nl ok hn;by_cases p:m.length<n
 ·rw[mZ p];simp[QB,gs,p,lm]
 ·rw[ma p];have c0:YF (xB (Zh Wb (Ze ZR [Za 7]) (Za 0))) (Yd (eP (Yf [eC (.int 1),Ze Y6 [Ze Ul [Za 7]]]))) Zs (QB n v2 ts a b2 c2 d m e2)=aA (.nx (QB n v2 ts a b2 c2 d m e2)):=by simp[QB,p,lm]
  rw[ZE c0];have r0:Yf [eC .non,Ze Y1 [Za 2,Za 0]] (QB n v2 ts a b2 c2 d m e2)=aA (.tup [.non,wP (Uv n ts)]):=by rw[TH,ZM,ZM,ZC];show(eK (aA PV.non) λa=>((Y1 [dP ts,.int (n:Int)]).bind λb=>(aA []).map (b::·)).map (a::·)).map PV.tup=_;rw[sq];rfl
  rw[Wf,Wa,r0];have pw:Yc (PV.tup [.non,wP (Uv n ts)])=aC:=Mf (Uv n ts);simp only[aD,pw,if_true];rfl
end
def Cv(l:List Bool):List PV:=l.map PV.bl
theorem Oy{x:PV}{k:Int}(f:cq->Bool)(t':∀(cx:cq)(y:Option PV),X2 (XH (Qr cx) (Za 0)) (X1 (QI "NoText" cx) (Za 0)) [aA x,y]=aA (.bl (f cx)))(v':∀(y:Option PV),X2 (XH Co (Za 0)) (X1 (Cm "NoText") (Za 0)) [aA x,y]=aA (.bl aC))
  (hc:Sk (.lst (Cv [f "NoWeb",f "Apart",f "NoText",f "NoOrder",f "TooMany",f "NotSettled",f "NoTree",f "NoTotal",f "NoEnds",f "NoRow",f "NoName"])) (.bl aC)=aA (.int 1)) (hx:RK (.lst (Cv [f "NoWeb",f "Apart",f "NoText",f "NoOrder",f "TooMany",f "NotSettled",f "NoTree",f "NoTotal",f "NoEnds",f "NoRow",f "NoName"])) (.bl aC)=aA (.int k)):Xj [x]=aA (.int k):=by
 have e1:Zl 1 (YO [eP (X2 (XH (Qr "NoWeb") (Za 0)) (X1 (QI "NoText" "NoWeb") (Za 0))),eP (X2 (XH (Qr "Apart") (Za 0)) (X1 (QI "NoText" "Apart") (Za 0))),eP (X2 (XH (Qr "NoText") (Za 0)) (X1 (QI "NoText" "NoText") (Za 0))),eP (X2 (XH (Qr "NoOrder") (Za 0)) (X1 (QI "NoText" "NoOrder") (Za 0)))]) [aA x,none]=aA (.nx [aA x,aA (.lst (Cv [f "NoWeb",f "Apart",f "NoText",f "NoOrder"]))]):=by rw[Zv];simp only[YO,UX,Wa,t',aD,Yc,if_true,av];rfl
 have e2:Zl 1 (Zh TF (Za 1) (YO [X2 (XH (Qr "TooMany") (Za 0)) (X1 (QI "NoText" "TooMany") (Za 0)),X2 (XH (Qr "NotSettled") (Za 0)) (X1 (QI "NoText" "NotSettled") (Za 0)),X2 (XH (Qr "NoTree") (Za 0)) (X1 (QI "NoText" "NoTree") (Za 0))])) [aA x,aA (.lst (Cv [f "NoWeb",f "Apart",f "NoText",f "NoOrder"]))]=aA (.nx [aA x,aA (.lst (Cv [f "NoWeb",f "Apart",f "NoText",f "NoOrder",f "TooMany",f "NotSettled",f "NoTree"]))]):=by rw[Zv,ZH];simp only[YO,UX,t',aD,av,YQ];rfl
 have e3:Zl 1 (Zh TF (Za 1) (YO [X2 (XH (Qr "NoTotal") (Za 0)) (X1 (QI "NoText" "NoTotal") (Za 0)),X2 (XH (Qr "NoEnds") (Za 0)) (X1 (QI "NoText" "NoEnds") (Za 0)),X2 (XH (Qr "NoRow") (Za 0)) (X1 (QI "NoText" "NoRow") (Za 0)),X2 (XH (Qr "NoName") (Za 0)) (X1 (QI "NoText" "NoName") (Za 0))])) [aA x,aA (.lst (Cv [f "NoWeb",f "Apart",f "NoText",f "NoOrder",f "TooMany",f "NotSettled",f "NoTree"]))]=aA (.nx [aA x,aA (.lst (Cv [f "NoWeb",f "Apart",f "NoText",f "NoOrder",f "TooMany",f "NotSettled",f "NoTree",f "NoTotal",f "NoEnds",f "NoRow",f "NoName"]))]):=by rw[Zv,ZH];simp only[YO,UX,t',aD,av,YQ];rfl
 generalize Cv [f "NoWeb",f "Apart",f "NoText",f "NoOrder",f "TooMany",f "NotSettled",f "NoTree",f "NoTotal",f "NoEnds",f "NoRow",f "NoName"]=L at e3 hc hx;have e4:YF (Ue (YY (xB (X2 (XH Co (Za 0)) (X1 (Cm "NoText") (Za 0))))) (xB (Zh (YJ aC) (Zh Sk (Za 1) (eC (.bl aC))) (eC (.int 1))))) (Yd (eP (Pq V8 (eC (.int 1))))) Zs [aA x,aA (.lst L)]=aA (.nx [aA x,aA (.lst L)]):=by rw[Zu,Xa,Ve,Yq,v'];simp only[aD,MN,av,mH,bS,if_false];have c:Zh Sk (Za 1) (eC (.bl aC)) [aA x,aA (.lst L)]=aA (.int 1):=hc;rw[Yq,ZH,c];simp
 have y:Zh RK (Za 1) (eC (.bl aC)) [aA x,aA (.lst L)]=aA (.int k):=hx;show WC 2 RQ _=_;unfold RQ;show(Zk _ _ [aA x,none]).bind Xv=_;rw[ZE e1,ZE e2,ZE e3,ZE e4,Wf,Wa,y];rfl
theorem Zas(l:PV):Xj [PV.exf "NoWeb" l]=aA (.int 0):=Oy (λcx=>decide (cx = "NoWeb")) (λcx y=>by simp[X2,XH,Qr]) (λy=>by simp[X2,XH,X1,Co,Cm]) rfl rfl
theorem Zat(l:PV):Xj [PV.exf "Apart" l]=aA (.int 1):=Oy (λcx=>decide (cx = "Apart")) (λcx y=>by
  have ne:¬(("Apart" : cq) = "NoWeb"):=by decide
  simp[X2,XH,Qr,ne]) (λy=>by simp[X2,XH,X1,Co,Cm]) rfl rfl
theorem Zau:Xj [PV.exc "NoText"]=aA (.int 2):=Oy (λcx=>decide (cx = "NoText")) (λcx y=>by simp[X2,XH,X1,QI]) (λy=>by simp[X2,XH,X1,Co,Cm]) rfl rfl
def W7(t:cq)(x1 x2 x4:Option PV):ZS:=[aA (.str t),x1,x2,none,x4]
abbrev Lx:XS:=(FZ (MW Yu [Za 0] 3 (Zl 1 (eP (Za 3)))) (FZ (P0 Xc [Za 0] 3 (Zl 1 (eP (Za 3)))) (Zl 2 (Ze W3 [Za 0]))))
theorem Mg(t:cq):Zl 1 (eP (eC .non)) [aA (.str t),none,none,none,none]=aA (.nx (W7 t (aA .non) none none)):=rfl
theorem Mh(t:cq):Zl 2 (eP (eC .non)) (W7 t (aA .non) none none)=aA (.nx (W7 t (aA .non) (aA .non) none)):=rfl
theorem Zav{t:cq}(hR:Yu [.str t]=aA QR):YR [.str t]=aA (.tup [.int 2,.non]):=by
 have e3:Lx (W7 t (aA .non) (aA .non) none)=aA (.nx (W7 t (aA (.exc QR)) (aA .non) none)):=by unfold Lx FZ MW;have a:UX [Za 0] (W7 t (aA .non) (aA .non) none)=aA [.str t]:=rfl;rw[a];simp only[aD,hR];rfl
 have e4:YF (xB (Vc aB (Za 1))) (Yd (eP (Yf [eC .non,Za 2]))) Zs (W7 t (aA (.exc QR)) (aA .non) none)=aA (.nx (W7 t (aA (.exc QR)) (aA .non) none)):=rfl;have e5:Zl 4 (Ze Xj [Za 1]) (W7 t (aA (.exc QR)) (aA .non) none)=aA (.nx (W7 t (aA (.exc QR)) (aA .non) (aA (.int 2)))):=by rw[Zv,ZC];show(eK (aA [PV.exc "NoText"]) Xj).map _=_;simp only[aD,Zau];rfl
 have e6:∀f:XS,YF (xB (Zh (YJ aB) (Za 4) (eC (.int 0)))) f Zs (W7 t (aA (.exc QR)) (aA .non) (aA (.int 2)))=aA (.nx (W7 t (aA (.exc QR)) (aA .non) (aA (.int 2)))):=λf=>by
  have c:∀k j:Int,k≠j->xB (Zh (YJ aB) (Za 4) (eC (.int j))) (W7 t (aA (.exc QR)) (aA .non) (aA (.int k)))=aA aB:=λk j h=>by simp[W7,h]
  rw[Zu,c _ _ (by decide)];rfl
 have e7:∀f:XS,YF (xB (Zh (YJ aB) (Za 4) (eC (.int 1)))) f Zs (W7 t (aA (.exc QR)) (aA .non) (aA (.int 2)))=aA (.nx (W7 t (aA (.exc QR)) (aA .non) (aA (.int 2)))):=λf=>by
  have c:∀k j:Int,k≠j->xB (Zh (YJ aB) (Za 4) (eC (.int j))) (W7 t (aA (.exc QR)) (aA .non) (aA (.int k)))=aA aB:=λk j h=>by simp[W7,h]
  rw[Zu,c _ _ (by decide)];rfl
 show WC 5 Wi _=_;unfold Wi;show(Zk _ _ [aA (.str t),none,none,none,none]).bind Xv=_;rw[ZE (Mg t),ZE (Mh t),ZE e3,ZE e4,ZE e5,ZE (e6 _),ZE (e7 _)];rfl
theorem Cy{t:cq}{v:PV}(hR:Yu [.str t]=none)(hY:Xc [.str t]=none)(hD:W3 [.str t]=aA v)(hv:Yc (.tup [.non,v])=aC):YR [.str t]=aA (.tup [.non,v]):=by
 have e3:Lx (W7 t (aA .non) (aA .non) none)=aA (.nx (W7 t (aA .non) (aA v) none)):=by unfold Lx FZ MW P0;have a:UX [Za 0] (W7 t (aA .non) (aA .non) none)=aA [.str t]:=rfl;rw[Zv,ZC,a];simp only[aD,hR,hY,jU,hD];rfl
 have r:Yf [eC .non,Za 2] (W7 t (aA .non) (aA v) none)=aA (.tup [.non,v]):=rfl;have e4:YF (xB (Vc aB (Za 1))) (Yd (eP (Yf [eC .non,Za 2]))) Zs (W7 t (aA .non) (aA v) none)=aA (.rt (.tup [.non,v])):=by have c:xB (Vc aB (Za 1)) (W7 t (aA .non) (aA v) none)=aA aC:=rfl;rw[Zu,c];simp only[aD,if_true];rw[Wf,Wa,r];simp only[aD,hv,if_true];rfl
 show WC 5 Wi _=_;unfold Wi;show(Zk _ _ [aA (.str t),none,none,none,none]).bind Xv=_;rw[ZE (Mg t),ZE (Mh t),ZE e3,ZI,e4];rfl
theorem Cz{t:cq}{l:PV}(hR:Yu [.str t]=none)(hY:Xc [.str t]=aA (("NoWeb" : cq),l))(hg:SG l=aC)(pl:Yc l=aC):YR [.str t]=aA (.tup [.int 0,l]):=by
 have e3:Lx (W7 t (aA .non) (aA .non) none)=aA (.nx (W7 t (aA (PV.exf "NoWeb" l)) (aA .non) none)):=by unfold Lx FZ MW P0;have a:UX [Za 0] (W7 t (aA .non) (aA .non) none)=aA [.str t]:=rfl;rw[a];simp only[aD,hR,hY,jU];rfl
 have e4:YF (xB (Vc aB (Za 1))) (Yd (eP (Yf [eC .non,Za 2]))) Zs (W7 t (aA (PV.exf "NoWeb" l)) (aA .non) none)=aA (.nx (W7 t (aA (PV.exf "NoWeb" l)) (aA .non) none)):=rfl;have e5:Zl 4 (Ze Xj [Za 1]) (W7 t (aA (PV.exf "NoWeb" l)) (aA .non) none)=aA (.nx (W7 t (aA (PV.exf "NoWeb" l)) (aA .non) (aA (.int 0)))):=by rw[Zv,ZC];show(eK (aA [PV.exf "NoWeb" l]) Xj).map _=_;simp only[aD,Zas];rfl
 have fl:Tg "NoWeb" (Za 1) (W7 t (aA (PV.exf "NoWeb" l)) (aA .non) (aA (.int 0)))=aA l:=by simp[Tg,hg,W7]
 have er:Yd (Yf [eP (eC (.int 0)),eP (Tg "NoWeb" (Za 1))]) (W7 t (aA (PV.exf "NoWeb" l)) (aA .non) (aA (.int 0)))=aA (.rt (.tup [.int 0,l])):=by rw[Wf,TH];simp only[UX,Wa,fl,aD,pl,if_true,av,SV];rfl
 have e6:YF (xB (Zh (YJ aB) (Za 4) (eC (.int 0)))) (Yd (Yf [eP (eC (.int 0)),eP (Tg "NoWeb" (Za 1))])) Zs (W7 t (aA (PV.exf "NoWeb" l)) (aA .non) (aA (.int 0)))=aA (.rt (.tup [.int 0,l])):=by
  have c:xB (Zh (YJ aB) (Za 4) (eC (.int 0))) (W7 t (aA (PV.exf "NoWeb" l)) (aA .non) (aA (.int 0)))=aA aC:=by simp[W7]
  rw[Zu,c];simp only[aD,if_true];exact er
 show WC 5 Wi _=_;unfold Wi;show(Zk _ _ [aA (.str t),none,none,none,none]).bind Xv=_;rw[ZE (Mg t),ZE (Mh t),ZE e3,ZE e4,ZE e5,ZI,e6];rfl
theorem Zaw{t:cq}{l:PV}(hR:Yu [.str t]=none)(hY:Xc [.str t]=aA (("Apart" : cq),l))(hg:SG l=aC)(pl:Yc l=aC):YR [.str t]=aA (.tup [.int 1,l]):=by
 have e3:Lx (W7 t (aA .non) (aA .non) none)=aA (.nx (W7 t (aA (PV.exf "Apart" l)) (aA .non) none)):=by unfold Lx FZ MW P0;have a:UX [Za 0] (W7 t (aA .non) (aA .non) none)=aA [.str t]:=rfl;rw[a];simp only[aD,hR,hY,jU];rfl
 have e4:YF (xB (Vc aB (Za 1))) (Yd (eP (Yf [eC .non,Za 2]))) Zs (W7 t (aA (PV.exf "Apart" l)) (aA .non) none)=aA (.nx (W7 t (aA (PV.exf "Apart" l)) (aA .non) none)):=rfl;have e5:Zl 4 (Ze Xj [Za 1]) (W7 t (aA (PV.exf "Apart" l)) (aA .non) none)=aA (.nx (W7 t (aA (PV.exf "Apart" l)) (aA .non) (aA (.int 1)))):=by rw[Zv,ZC];show(eK (aA [PV.exf "Apart" l]) Xj).map _=_;simp only[aD,Zat];rfl
 have fl:Tg "Apart" (Za 1) (W7 t (aA (PV.exf "Apart" l)) (aA .non) (aA (.int 1)))=aA l:=by simp[Tg,hg,W7]
 have er:Yd (Yf [eP (eC (.int 1)),eP (Tg "Apart" (Za 1))]) (W7 t (aA (PV.exf "Apart" l)) (aA .non) (aA (.int 1)))=aA (.rt (.tup [.int 1,l])):=by rw[Wf,TH];simp only[UX,Wa,fl,aD,pl,if_true,av,SV];rfl
 have e6:∀f:XS,YF (xB (Zh (YJ aB) (Za 4) (eC (.int 0)))) f Zs (W7 t (aA (PV.exf "Apart" l)) (aA .non) (aA (.int 1)))=aA (.nx (W7 t (aA (PV.exf "Apart" l)) (aA .non) (aA (.int 1)))):=λf=>by
  have c:∀k j:Int,k≠j->xB (Zh (YJ aB) (Za 4) (eC (.int j))) (W7 t (aA (PV.exf "Apart" l)) (aA .non) (aA (.int k)))=aA aB:=λk j h=>by simp[W7,h]
  rw[Zu,c _ _ (by decide)];rfl
 have e7:YF (xB (Zh (YJ aB) (Za 4) (eC (.int 1)))) (Yd (Yf [eP (eC (.int 1)),eP (Tg "Apart" (Za 1))])) Zs (W7 t (aA (PV.exf "Apart" l)) (aA .non) (aA (.int 1)))=aA (.rt (.tup [.int 1,l])):=by
  have c:xB (Zh (YJ aB) (Za 4) (eC (.int 1))) (W7 t (aA (PV.exf "Apart" l)) (aA .non) (aA (.int 1)))=aA aC:=by simp[W7]
  rw[Zu,c];simp only[aD,if_true];exact er
 show WC 5 Wi _=_;unfold Wi;show(Zk _ _ [aA (.str t),none,none,none,none]).bind Xv=_;rw[ZE (Mg t),ZE (Mh t),ZE e3,ZE e4,ZE e5,ZE (e6 _),ZI,e7];rfl
theorem Ly{v:PV}(neg:Bool)(h:Wc 8 v v=aC):YJ neg v v=aA (.bl (!neg)):=by
 unfold YJ;rw[mZ h];cases neg<;>simp
theorem UQ{n:Nat}{ts:List Z9}(ok:DictOk n ts)(hn:n<=7):ts.length<=49:=by
 have nd:(ts.map λe=>((e.1*7+e.2.1:Nat):Int)).Nodup:=by
  have h:=ok.nd;rw[show(ts.map λe=>((e.1*7+e.2.1:Nat):Int))=(ts.map λe=>(e.1,e.2.1)).map (λp=>((p.1*7+p.2:Nat):Int)) by rw[cO];rfl];unfold List.Nodup at h ⊢;rw[List.pairwise_map];refine List.Pairwise.imp_of_mem (λ{p q} hp hq hne z=>hne ?_) h;obtain⟨e,he,rfl⟩:=ah.mp hp;obtain⟨f,hf,rfl⟩:=ah.mp hq;have h1:=ok.ok e he;have h2:=ok.ok f hf;have z':e.1*7+e.2.1=f.1*7+f.2.1:=by simpa using(Int.ofNat_inj.mp z)
  show(e.1,e.2.1)=(f.1,f.2.1);have:e.1=f.1/\e.2.1=f.2.1:=by omega
  rw[this.1,this.2]
 have:=T4 (m:=(bN 49).map λ(i:Nat)=>(i:Int)) nd λx hx=>by obtain⟨e,he,rfl⟩:=ah.mp hx;have h1:=ok.ok e he;exact ah.mpr ⟨_,bX.mpr (by omega),rfl⟩
 simpa using this
theorem JO{p:List Nat}{t:Nat}{z:Z3}(h:Wk p t=aA z):z.2.2=t:=by
 unfold Wk at h;split at h
 ·split at h
  ·cases h;rfl
  ·cases h
 ·cases h
theorem FC{l:List Nat}{z:Z3}(h:Xd l=aA z):1<=z.2.2:=by
 unfold Xd at h;split at h
 ·rw[JO h];exact ar 1
 ·split at h
  ·rename_i hq;rw[JO h];omega
  ·cases h
 ·cases h
theorem Lz:∀{ws:List (List Nat)}{zs:List Z3},S7 ws=aA zs->∀z∈zs,1<=z.2.2
 | [],zs,h,z,hz=>by cases h;cases hz
 | p::ps,zs,h,z,hz=>by
  unfold S7 at h
  cases hp:Xd p with
  | none=>rw[hp] at h;cases h
  | some y=>
   rw[hp] at h;simp only[aD,eG] at h;obtain⟨r,h1,rfl⟩:=h;rcases aV.mp hz with rfl | q
   ·exact FC hp
   ·exact Lz h1 z q
theorem FD{l:List Nat}{m:Nat}{zs:List Z3}(h:Vp l=aA (m,zs)):∀z∈zs,1<=z.2.2:=by
 unfold Vp at h;split at h
 ·cases h
 ·split at h
  ·obtain⟨r,h1,h2⟩:=eG.mp h;cases h2;exact Lz h1
  ·cases h
theorem B3{n:Nat}{ts:List Z9}(ok:DictOk n ts):(ts.map Hr).map zT=ts.map Yj:=by rw[cO];refine cu λd hd=>?_;have:=(ok.ok d hd).2.2.1;show PV.tup [.int (d.1:Int),.int (d.2.1:Int),.int ((d.2.2.toNat:Nat):Int)] = .tup [.int (d.1:Int),.int (d.2.1:Int),.int d.2.2];rw[eB (by omega)]
theorem B4{e f:ZT}(h:zP e=zP f):e=f:=by unfold zP at h;simp only[PV.tup.injEq,fM,PV.int.injEq,and_true] at h;exact mT h.1 (mT h.2.1 h.2.2)
theorem B5{n:Nat}{ts:List Z9}(ok:DictOk n ts)(hg:Hang n ts)(h1:1<=n)(hn:n<=7):Wh [.int (n:Int),.lst (ts.map Yj)]=none:=by
 have hl:=UQ ok hn;obtain⟨l,R,hR⟩:=Ou h1 hn ok (by omega);have Rl:RSet n (JT ts) l:=R.congr λa b ha hb=>Fw ok ha hb;have all:∀x,x<n->x∈l:=λx hx=>by refine(hg (λy=>y∈l) (λa b ⟨t,z⟩=>?_) x 0 hx (by omega)).mpr Rl.ze;have ho:=ok.ok _ z;simp only at ho;exact⟨λq=>Rl.cl a q b (by omega) ⟨t,.inl z⟩,λq=>Rl.cl b q a (by omega) ⟨t,.inr z⟩⟩
 have up:QL n l=bN n:=by unfold QL;rw[List.filter_eq_self];intro x hx;exact decide_eq_true (all x (bX.mp hx))
 have ll:=Qw Rl.nd Rl.lt;rw[up,bb] at ll;rw[hR,ma (by omega)]
theorem Hv{t:cq}(h:Small 1000 t){n:Nat}{ts:List Z9}(hw:Vp (Zy t)=aA (n,ts.map Hr))(ok:DictOk n ts)(hg:Hang n ts)(h1:1<=n)(hn:n<=7):YR [.str t]=aA (.tup [.non,wP (Uv n ts)]):=by
 have hl:=UQ ok hn;rcases QK h with⟨m,zs,q1,q2,q3,q4,q5⟩ | ⟨q1,_⟩
 ·rw[hw] at q1;cases q1;rw[B3 ok] at q4 q5;rw[Nr ok hg h1 hn (by omega)] at q4;rw[B5 ok hg h1 hn] at q5;exact Cy q3 q5 q4 (Mf _)
 ·rw[hw] at q1;cases q1
theorem JP(M:List (List Int)):Wc 8 (PV.tup [.non,wP M]) (PV.tup [.non,wP M])=aC:=by have:=ET 4 M M;show(([PV.non,wP M].zip [PV.non,wP M]).all λz=>Wc 7 z.1 z.2)=aC;simp only[dB,kg,gJ,List.all_nil,mI,bE];exact⟨rfl,this⟩
theorem FE{t:cq}(h:Small 1000 t):(Vp (Zy t)=none/\YR [.str t]=aA (.tup [.int 2,.non]))\/∃m zs v,Vp (Zy t)=aA (m,zs)/\Vz [.int (m:Int),.lst (zs.map zT)]=aA v/\YR [.str t]=aA v/\Wc 8 v v=aC:=by
 rcases QK h with⟨m,zs,q1,q2,q3,q4,q5⟩ | ⟨q1,q2⟩
 ·right;refine⟨m,zs,?_⟩;have hpos:=FD q1;have ez:zs.map zT=(zs.map zI).map zP:=by rw[cO];rfl
  by_cases hc:1<=(m:Int)/\(m:Int)<=7
  ·have h1:1<=m:=by omega
   have h7:m<=7:=by omega
   rcases Oq m (zs.map zI) [] (DictOk.nil m) with⟨us,ok,e⟩ | ⟨us,z,m6,ok,e,nf⟩
   ·rw[gO] at ok;have hl:=UQ ok h7;obtain⟨l,R,hR⟩:=Ou h1 h7 ok (by omega);have Rm:=JM ok h1;have Rl:RSet m (JT us) l:=R.congr λa b ha hb=>Fw ok ha hb;have D:=Fz h1 h7 ok (by omega);have up:=Fq Rl Rm;have ll:l.length=(pasN us m).length:=by rw[<-Qw Rl.nd Rl.lt,<-Qw Rm.nd Rm.lt,up]
    rw[ez,e] at q4 q5;rw[ez,e];by_cases q:(pasN us m).length<m
    ·rw[mZ q] at D;rw[ll,mZ q,up] at hR;rw[hR] at q5
     have gs:SG (pP (ZQ (QL m (pasN us m))))=aC:=by
      show(match Ws (iL (ZQ (QL m (pasN us m)))) with | some is=>decide (is.length<=100)&&is.all λi=>decide (i.natAbs.log2<1920) | none=>aB)=aC;rw[Wv];simp only[bE,decide_eq_true_eq,bB];have l2:(ZQ (QL m (pasN us m))).length=(pasN us m).length:=by simp[ZQ,Qw Rm.nd Rm.lt]
      refine⟨by omega,λi hi=>?_⟩;obtain⟨j,hj,rfl⟩:=ah.mp hi;have:=bX.mp (dj.mp hj).1;exact of_decide_eq_true (R0 (by omega))
     refine⟨_,q1,D,Zaw q3 q5 gs (Xw _),?_⟩;have:=Jl 5 (ZQ (QL m (pasN us m))) (ZQ (QL m (pasN us m)));show(([PV.int 1,pP (ZQ (QL m (pasN us m)))].zip [PV.int 1,pP (ZQ (QL m (pasN us m)))]).all λz=>Wc 7 z.1 z.2)=aC;simp only[dB,kg,gJ,List.all_nil,mI,bE];exact⟨rfl,this⟩
    ·have hg:=DE Rm (by have:=So Rm.nd Rm.lt;omega);rw[ma q] at D;rw[ll,ma q] at hR;rw[hR] at q5;rw[Nr ok hg h1 h7 (by omega)] at q4;exact⟨_,q1,D,Cy q3 q5 q4 (Mf _),JP _⟩
   ·rw[gO] at ok nf;have hl:=UQ ok h7;have le:=congrArg fj e;simp only[aN,aq,bK] at le
    obtain⟨y,hy,rfl⟩:∃y,1<=y.2.2/\z=zI y:=by
     have hm:zP z∈(zs.map zI).map zP:=by rw[e];simp
     obtain⟨f,hf,ef⟩:=ah.mp hm;obtain⟨y,hy,rfl⟩:=ah.mp hf;exact⟨y,hpos y hy,(B4 ef).symm⟩
    have D:=DG h1 h7 (m6:=m6) ok hy nf (by simp only[aq,aN,bK];omega);have hR:=Hq h1 h7 (m6:=m6) ok nf (by omega);rw[ez,e] at q5;rw[hR] at q5;rw[ez,e];exact⟨_,q1,D,Cz q3 q5 (R0 (by omega)) rfl,rfl⟩
  ·have hR:=Ho (v:=.lst (zs.map zT)) hc;rw[hR] at q5;exact⟨_,q1,DF hc,Cz q3 q5 rfl rfl,rfl⟩
 ·exact .inl ⟨q1,Zav q2⟩
end PW
namespace PW
open PySem L2 VL VX
theorem DI{f g:XE}{s:ZS}{a b:Int}{C:Int->Int->Prop}[∀i j,Decidable (C i j)]{op:Int->Int->Int}(h1:f s=aA (.int a))(h2:g s=aA (.int b))(c:C a b):Zh (DY C op) f g s=aA (.int (op a b)):=by rw[ZH,h1,h2];simp only[aD,Bu,mZ c]
theorem DJ(l m:List Nat):ZW l++ZW m=ZW (l++m):=RV (by rw[Mb,Zr,Zr,Zr])
theorem FF{x y:aR}(h:x.length<=1000)(h':y.length<=1000):YW (.str x) (.str y)=aA (.str (x++y)):=by
 have:(2000:Nat)<=sizeLine:=by decide
 unfold YW;simp only;rw[mZ (by omega)]
theorem JQ(l:List Nat):(ZW l).length=l.length:=by rw[XD,Zr]
theorem FG{l m:List Nat}(h:l.length<=1000)(h':m.length<=1000):YW (.str (ZW l)) (.str (ZW m))=aA (.str (ZW (l++m))):=by rw[FF (by rw[JQ];exact h) (by rw[JQ];exact h'),DJ]
theorem B6(x:aR):dH x (aA ((Zy x).length:Int)) (aA (((Zy x).length:Int)+1))=ZW []:=by
 have h:fZ (aA (x.length:Int)) (aA ((x.length:Int)+1)) 1 x.length=fZ (aA (x.length:Int)) (aA (x.length:Int)) 1 x.length:=by unfold fZ;simp only;rw[ma (show ¬((x.length:Int)<0) by omega),ma (show ¬((x.length:Int)+1<0) by omega),lO (show(x.length:Int)<=(x.length:Int)+1 by omega),lO (show(x.length:Int)<=(x.length:Int) by omega)];simp
 rw[<-XD];have e:dH x (aA (x.length:Int)) (aA ((x.length:Int)+1))=dH x (aA (x.length:Int)) (aA (x.length:Int)):=by unfold dH;rw[h]
 rw[e,XD,Mc (ar _) (ar _)];simp
theorem DK{x:aR}{k:Nat}(h:k<=(Zy x).length):dH x (aA (k:Int)) (aA ((k:Int)+1))=ZW (((Zy x).drop k).take 1):=by
 by_cases q:k=(Zy x).length
 ·subst q;rw[B6];simp
 ·rw[show(k:Int)+1=((k+1:Nat):Int) by omega,Mc (by omega) (by omega),show k+1-k=1 by omega]
theorem DL{x:aR}{k:Nat}(h:k<=(Zy x).length):dH x (aA ((k:Int)+1)) none=ZW ((Zy x).drop (k+1)):=by
 by_cases q:k=(Zy x).length
 ·rw[PyProof.Rows.slice_beyond (by rw[XD];omega),gZ (by omega)];rfl
 ·rw[show(k:Int)+1=((k+1:Nat):Int) by omega,Sn (by omega)]
abbrev marks:aR:=("0123456789:-* x_+\n\t" : String)
theorem Nw:marks.length=19:=rfl
theorem Hw:∀c∈Zy marks,c<128:=by decide +kernel
theorem FH{j:Nat}(h:j<19):∃c,c<128/\ZK (.str marks) (.int (j:Int))=aA (.str (ZW [c])):=by
 have hl:j<(Zy marks).length:=by rw[<-XD,Nw];exact h
 have sz:(1000:Nat)<=sizeLine:=by decide
 refine⟨(Zy marks)[j],Hw _ (dG hl),?_⟩;unfold ZK;simp only;rw[mZ (by rw[Nw];omega)];have:Vv marks.cps.toList (j:Int)=aA (Zy marks)[j]:=Xy (aK hl);rw[this];rfl
theorem KI{N:Nat}{x:aR}{a b:Int}(h:Small N x)(hN:N<=900):∃y,Wz [.str x,.int a,.int b]=aA (.str y)/\Small (N+1) y:=by
 have hx:=h.len;have hls:=h.ls;have gl:=Oh (x:=x) (by omega);obtain⟨k,ek⟩:∃k:Nat,a%(((Zy x).length:Int)+1)=(k:Int):=⟨(a%(((Zy x).length:Int)+1)).toNat,by have:=h8 a (show(((Zy x).length:Int)+1)≠0 by omega);omega⟩;have hk:k<=(Zy x).length:=by have:=gR a (show(0:Int)<((Zy x).length:Int)+1 by omega);omega
 obtain⟨j,ej⟩:∃j:Nat,b%19=(j:Int):=⟨(b%19).toNat,by omega⟩;obtain⟨c,hc,em⟩:=FH (j:=j) (by omega);let S:Option PV->Option PV->Option PV->Option PV->ZS:=λx3 x4 x5 x6=>[aA (.str x),aA (.int a),aA (.int b),x3,x4,x5,x6];let M:Option PV:=aA (.str marks);have e1:Zl 3 (eP (eC (.str "0123456789:-* x_+\n\t"))) (S none none none none)=aA (.nx (S M none none none)):=rfl
 have e2:Zl 4 (eP (Zh YS (Za 1) (Zh Yp (Ze ZR [Za 0]) (eC (.int 1))))) (S M none none none)=aA (.nx (S M (aA (.int (k:Int))) none none)):=by
  have l:Ze ZR [Za 0] (S M none none none)=aA (.int ((Zy x).length:Int)):=gl;have p:Zh Yp (Ze ZR [Za 0]) (eC (.int 1)) (S M none none none)=aA (.int (((Zy x).length:Int)+1)):=by rw[ZH,l];rfl
  have m:Zh YS (Za 1) (Zh Yp (Ze ZR [Za 0]) (eC (.int 1))) (S M none none none)=aA (.int (k:Int)):=by rw[<-ek];exact DI (C:=λ_ j=>0<j) (op:=(· % ·)) rfl p (by omega)
  rw[Zv,vP m];rfl
 have e3:Zl 5 (eP (Zh ZK (Za 3) (Zh YS (Za 2) (eC (.int 19))))) (S M (aA (.int (k:Int))) none none)=aA (.nx (S M (aA (.int (k:Int))) (aA (.str (ZW [c]))) none)):=by
  have m:Zh YS (Za 2) (eC (.int 19)) (S M (aA (.int (k:Int))) none none)=aA (.int (j:Int)):=by rw[<-ej];exact DI (a:=b) (b:=19) (C:=λ_ j=>0<j) (op:=(· % ·)) rfl rfl (by omega)
  have g:Zh ZK (Za 3) (Zh YS (Za 2) (eC (.int 19))) (S M (aA (.int (k:Int))) none none)=aA (.str (ZW [c])):=by rw[ZH,m];exact em
  rw[Zv,V7 g];rfl
 let T:Int->ZS:=λw=>S M (aA (.int (k:Int))) (aA (.str (ZW [c]))) (aA (.int w));have e4:Zl 6 (eP (Zh YS (Zh X8 (Za 2) (eC (.int 19))) (eC (.int 4)))) (S M (aA (.int (k:Int))) (aA (.str (ZW [c]))) none)=aA (.nx (T (b/19%4))):=by have d:Zh X8 (Za 2) (eC (.int 19)) (S M (aA (.int (k:Int))) (aA (.str (ZW [c]))) none)=aA (.int (b/19)):=DI (a:=b) (b:=19) (C:=R4) (op:=(· / ·)) rfl rfl ⟨by omega,by omega⟩;have m:Zh YS (Zh X8 (Za 2) (eC (.int 19))) (eC (.int 4)) (S M (aA (.int (k:Int))) (aA (.str (ZW [c]))) none)=aA (.int (b/19%4)):=DI (a:=b/19) (b:=4) (C:=λ_ j=>0<j) (op:=(· % ·)) d rfl (by omega);rw[Zv,vP m];rfl
 have hk1:((Zy x).take k).length<=1000:=by rw[br];omega
 have gw:∀w,Xm ZU (Za 0) XZ (Y4 (Za 4)) (T w)=aA (.str (ZW ((Zy x).take k))):=λw=>by show ZU (.str x) none (aA (k:Int))=_;rw[W4 (by omega),JI hk]
 have gf:∀w,Xm ZU (Za 0) (Y4 (Za 4)) XZ (T w)=aA (.str (ZW ((Zy x).drop k))):=λw=>by show ZU (.str x) (aA (k:Int)) none=_;rw[W4 (by omega),Sn hk]
 have gp:∀w,Xm ZU (Za 0) (Y4 (Zh Yp (Za 4) (eC (.int 1)))) XZ (T w)=aA (.str (ZW ((Zy x).drop (k+1)))):=λw=>by show ZU (.str x) (aA ((k:Int)+1)) none=_;rw[W4 (by omega),DL hk]
 have gn:∀w,Xm ZU (Za 0) (Y4 (Za 4)) (Y4 (Zh Yp (Za 4) (eC (.int 1)))) (T w)=aA (.str (ZW (((Zy x).drop k).take 1))):=λw=>by show ZU (.str x) (aA (k:Int)) (aA ((k:Int)+1))=_;rw[W4 (by omega),DK hk]
 have two:∀{f g:XE}{s:ZS}{l m:List Nat},f s=aA (.str (ZW l))->g s=aA (.str (ZW m))->l.length<=1000->m.length<=1000->Zh YW f g s=aA (.str (ZW (l++m))):=λ{f g s l m} h1 h2 h3 h4=>by rw[ZH,h1,h2];exact FG h3 h4
 have tk:∀d∈(Zy x).take k,d<128:=λd hd=>h.asc d (bz hd);have dk:∀i,∀d∈(Zy x).drop i,d<128:=λi d hd=>h.asc d (gy hd);have lt:((Zy x).take k).length=k:=by rw[br];omega
 have ld:∀i,((Zy x).drop i).length=(Zy x).length-i:=λi=>by rw[dD]
 have l1:(((Zy x).drop k).take 1).length<=1:=by rw[br];omega
 have sm:∀l:List Nat,l.length<=N+1->(∀d∈l,d<128)->Small (N+1) (ZW l):=λl h1 h2=>Small.of (Zr l) h1 h2;have cT:∀(w v:Int),xB (Zh (YJ aB) (Za 6) (eC (.int v))) (T w)=aA (decide (w=v)):=λw v=>by simp[T,S]
 show ∃y,WC 7 Uq _=_/\_;unfold Uq;show ∃y,(Zk _ _ (S none none none none)).bind Xv=_/\_;rw[ZE e1,ZE e2,ZE e3,ZE e4];generalize b/19%4=w;by_cases q0:w=0
 ·refine⟨ZW ((Zy x).take k++(Zy x).drop (k+1)),?_,sm _ (by rw[aq,lt,ld];omega) λd hd=>?_⟩
  ·have v:=two (gw w) (gp w) hk1 (by rw[ld];omega);rw[ZI,Zu,cT,decide_eq_true q0];simp only[aD,if_true];rw[Hi (V7 v)];rfl
  ·rcases au.mp hd with z | z
   ·exact tk d z
   ·exact dk _ d z
 have s0:∀f:XS,YF (xB (Zh (YJ aB) (Za 6) (eC (.int 0)))) f Zs (T w)=aA (.nx (T w)):=λf=>by rw[Zu,cT,decide_eq_false q0];rfl
 rw[ZE (s0 _)];by_cases q1:w=1
 ·have v1:=two (gw w) (gn w) hk1 (by omega);have v:=two v1 (gf w) (by rw[aq,lt];omega) (by rw[ld];omega);refine⟨ZW ((Zy x).take k++((Zy x).drop k).take 1++(Zy x).drop k),?_,sm _ (by rw[aq,aq,lt,ld];omega) λd hd=>?_⟩
  ·rw[ZI,Zu,cT,decide_eq_true q1];simp only[aD,if_true];rw[Hi (V7 v)];rfl
  ·rcases au.mp hd with z | z
   ·rcases au.mp z with z | z
    ·exact tk d z
    ·exact dk k d (bz z)
   ·exact dk _ d z
 have s1:∀f:XS,YF (xB (Zh (YJ aB) (Za 6) (eC (.int 1)))) f Zs (T w)=aA (.nx (T w)):=λf=>by rw[Zu,cT,decide_eq_false q1];rfl
 rw[ZE (s1 _)];have v1:=two (gw w) (show Za 5 (T w)=aA (.str (ZW [c])) from rfl) hk1 (by simp);have lc:((Zy x).take k++[c]).length<=1000:=by rw[aq,lt];simp;omega
 have ac:∀d∈(Zy x).take k++[c],d<128:=λd hd=>by
  rcases au.mp hd with z | z
  ·exact tk d z
  ·rw[aP.mp z];exact hc
 by_cases q2:w=2
 ·have v:=two v1 (gf w) lc (by rw[ld];omega);refine⟨ZW ((Zy x).take k++[c]++(Zy x).drop k),?_,sm _ (by rw[aq,aq,lt,ld,gh];omega) λd hd=>?_⟩
  ·rw[ZI,Zu,cT,decide_eq_true q2];simp only[aD,if_true];rw[Hi (V7 v)];rfl
  ·rcases au.mp hd with z | z
   ·exact ac d z
   ·exact dk _ d z
 have s2:∀f:XS,YF (xB (Zh (YJ aB) (Za 6) (eC (.int 2)))) f Zs (T w)=aA (.nx (T w)):=λf=>by rw[Zu,cT,decide_eq_false q2];rfl
 rw[ZE (s2 _)];have v:=two v1 (gp w) lc (by rw[ld];omega);refine⟨ZW ((Zy x).take k++[c]++(Zy x).drop (k+1)),?_,sm _ (by rw[aq,aq,lt,ld,gh];omega) λd hd=>?_⟩
 ·rw[Hi (V7 v)];rfl
 ·rcases au.mp hd with z | z
  ·exact ac d z
  ·exact dk _ d z
theorem Sq{a:Nat}(h:a<10):X6 [.int (a:Int)]=aA (.str (ZW [48+a])):=by unfold X6;simp only;rw[mZ (Kx (by omega))];show aA (PV.str (dg a))=_;rw[Zal a h]
def Vq(d:Z9):List Nat:=[48+d.1,45,48+d.2.1]++if d.2.2=1 then [] else [42,48+d.2.2.toNat]
def WB:List Z9->List Nat
 | []=>[]
 | d::r=>32::(Vq d++WB r)
def Vs(n:Nat)(ts:List Z9):List Nat:=[48+n]++58::WB ts
theorem Nx:∀(l m:List Z9),WB (l++m)=WB l++WB m
 | [],m=>rfl
 | d::r,m=>by simp[WB,Nx r m]
theorem FI:((bN 7).all λa=>(bN 7).all λb=>(bN 10).all λt=>decide (t=0) || decide (Xd ([48+a,45,48+b]++if t=1 then [] else [42,48+t])=aA (a,b,t)))=aC:=by decide +kernel
theorem FJ(a:Nat)(ha:a<7)(b:Nat)(hb:b<7)(t:Nat)(ht:t<10)(h1:1<=t):Xd ([48+a,45,48+b]++if t=1 then [] else [42,48+t])=aA (a,b,t):=by have h:=bB.mp (bB.mp (bB.mp FI a (bX.mpr ha)) b (bX.mpr hb)) t (bX.mpr ht);rw[decide_eq_false (show ¬t=0 by omega),gj] at h;exact of_decide_eq_true h
section
variable {n:Nat} {ts:List Z9}
theorem FK{d:Z9}(hn:n<=7)(h:d.1<d.2.1/\d.2.1<n/\1<=d.2.2/\d.2.2<=9):Xd (Vq d)=aA (Hr d):=by
 obtain⟨a,b,t⟩:=d;simp only at h;obtain⟨m,rfl⟩:∃m:Nat,t=(m:Int):=⟨t.toNat,by omega⟩;have:=FJ a (by omega) b (by omega) m (by omega) (by omega);unfold Vq Hr;simp only[cK];rw[<-this];congr 2;by_cases q:m=1
 ·subst q;rfl
 ·rw[ma q,ma (by omega)]
theorem JR{d:Z9}(hn:n<=7)(h:d.1<d.2.1/\d.2.1<n/\1<=d.2.2/\d.2.2<=9):32∉Vq d:=by
 unfold Vq;split<;>simp<;>omega
theorem FL(d:Z9):(Vq d).length<=5:=by
 unfold Vq;split<;>simp
theorem FN{d:Z9}(hn:n<=7)(h:d.1<d.2.1/\d.2.1<n/\1<=d.2.2/\d.2.2<=9):∀c∈Vq d,c<128:=by
 intro c hc;unfold Vq at hc;split at hc<;>simp at hc<;>omega
theorem Oz(hn:n<=7):∀(d:Z9)(us:List Z9),(∀e∈d::us,e.1<e.2.1/\e.2.1<n/\1<=e.2.2/\e.2.2<=9)->S7 (Zm 32 (Vq d++WB us))=aA ((d::us).map Hr)
 | d,[],h=>by rw[show Vq d++WB []=Vq d from bI _,Y7 (JR hn (h d (by simp)))];show(Xd (Vq d)).bind (λz=>(aA []).map (z::·))=_;rw[FK hn (h d (by simp))];rfl
 | d,e::us,h=>by have ih:=Oz hn e us λf hf=>h f (by simp at hf ⊢;exact .inr hf);rw[show Vq d++WB (e::us)=Vq d++32::(Vq e++WB us) from rfl,Y3 (JR hn (h d (by simp)))];show(Xd (Vq d)).bind (λz=>(S7 (Zm 32 (Vq e++WB us))).map (z::·))=_;rw[FK hn (h d (by simp)),ih];rfl
theorem FP:∀n,n<10->ZL [48+n]=aC/\YC [48+n]=n:=by decide +kernel
theorem FQ(ok:DictOk n ts)(hn:n<=7):Vp (Vs n ts)=aA (n,ts.map Hr):=by
 have hh:=FP n (by omega);unfold Vs;rw[Lq (hh:=[48+n]) (r:=WB ts) rfl (by simp;omega),mZ hh.1,hh.2]
 have:SI (WB ts)=aA (ts.map Hr):=by
  cases ts with
  | nil=>rfl
  | cons d r=>
   show(if 32=32 then S7 (Zm 32 (Vq d++WB r)) else none)=_;rw[mZ rfl];exact Oz hn d r ok.ok
 rw[this];rfl
theorem LA:∀us:List Z9,(WB us).length<=6*us.length
 | []=>by simp[WB]
 | d::r=>by have:=LA r;have:=FL d;simp[WB];omega
theorem LB(hn:n<=7):∀us:List Z9,(∀e∈us,e.1<e.2.1/\e.2.1<n/\1<=e.2.2/\e.2.2<=9)->∀c∈WB us,c<128
 | [],_,c,hc=>by cases hc
 | d::r,h,c,hc=>by
  unfold WB at hc;rcases aV.mp hc with z | z
  ·omega
  ·rcases au.mp z with z | z
   ·exact FN hn (h d (by simp)) c z
   ·exact LB hn r (λe he=>h e (by simp[he])) c z
theorem LC(us:List Z9):(Vs n us).length<=2+6*us.length:=by have:=LA us;unfold Vs;simp;omega
theorem KJ(ok:DictOk n ts)(hn:n<=7):Small 300 (ZW (Vs n ts)):=by
 have h1:=LC (n:=n) ts;have h2:=UQ ok hn;refine Small.of (Zr _) (by omega) λc hc=>?_;unfold Vs at hc;rcases au.mp hc with z | z
 ·rw[aP.mp z];omega
 ·rcases aV.mp z with z | z
  ·omega
  ·exact LB hn ts ok.ok c z
end
def Ub(ns:List Int)(n:Nat)(ts:List Z9)(x:Option PV)(x4 x5:Option PV)(x6 x7 x8 x9 x10:Option PV):ZS:=
 [aA (.cst (iL ns)),aA (.int (n:Int)),aA (dP ts),x,x4,x5,x6,x7,x8,x9,x10]
abbrev bW:XS:=(Zk (Zl 3 (eP (Zh YW (Zh YW (Zh YW (Zh YW (Za 3) (eC (.str " "))) (Ze X6 [Za 4])) (eC (.str "-"))) (Ze X6 [Za 5]))))
  (YF (xB (Zh T7 (Zh XM (Za 2) (Yf [Za 4,Za 5])) (eC (.int 1)))) (Zl 3 (eP (Zh YW (Zh YW (Za 3) (eC (.str "*"))) (Ze X6 [Zh XM (Za 2) (Yf [Za 4,Za 5])])))) Zs))
theorem two{f g:XE}{s:ZS}{l m:List Nat}(h1:f s=aA (.str (ZW l)))(h2:g s=aA (.str (ZW m)))(h3:l.length<=1000)(h4:m.length<=1000):Zh YW f g s=aA (.str (ZW (l++m))):=by rw[ZH,h1,h2];exact FG h3 h4
section
variable {ns:List Int} {n:Nat} {ts:List Z9} (ok:DictOk n ts) (hn:n<=7)
include ok hn
theorem Hy{L:List Nat}{d:Z9}(hd:d∈ts)(hL:L.length<=900):bW (Ub ns n ts (aA (.str (ZW L))) (aA (.int (d.1:Int))) (aA (.int (d.2.1:Int))) none none none none none)=aA (.nx (Ub ns n ts (aA (.str (ZW (L++32::Vq d)))) (aA (.int (d.1:Int))) (aA (.int (d.2.1:Int))) none none none none none)):=by
 obtain⟨a,b,t⟩:=d;have hk:=ok.ok _ hd;simp only at hk;obtain⟨m,rfl⟩:∃m:Nat,t=(m:Int):=⟨t.toNat,by omega⟩;have g:=Oc ok (a:=a) (b:=b) (t:=(m:Int)) hd;let S:List Nat->ZS:=λL=>Ub ns n ts (aA (.str (ZW L))) (aA (.int (a:Int))) (aA (.int (b:Int))) none none none none none;have v4:∀L,Ze X6 [Za 4] (S L)=aA (.str (ZW [48+a])):=λL=>by rw[ZC];show X6 [.int (a:Int)]=_;exact Sq (by omega)
 have v5:∀L,Ze X6 [Za 5] (S L)=aA (.str (ZW [48+b])):=λL=>by rw[ZC];show X6 [.int (b:Int)]=_;exact Sq (by omega)
 have vg:∀L,Zh XM (Za 2) (Yf [Za 4,Za 5]) (S L)=aA (.int (m:Int)):=λL=>by rw[ZH];show XM (dP ts) (.tup [.int (a:Int),.int (b:Int)])=_;exact g
 have w1:=two (s:=S L) (show Za 3 (S L)=aA (.str (ZW L)) from rfl) (show eC (.str " ") (S L)=aA (.str (ZW [32])) from rfl) (by omega) (by simp);have w2:=two w1 (v4 L) (by simp;omega) (by simp);have w3:=two w2 (show eC (.str "-") (S L)=aA (.str (ZW [45])) from rfl) (by simp;omega) (by simp);have w4:=two w3 (v5 L) (by simp;omega) (by simp)
 have e1:Zl 3 (eP (Zh YW (Zh YW (Zh YW (Zh YW (Za 3) (eC (.str " "))) (Ze X6 [Za 4])) (eC (.str "-"))) (Ze X6 [Za 5]))) (S L)=aA (.nx (S (L++[32,48+a,45,48+b]))):=by
  rw[Zv,V7 w4];have:L++[32]++[48+a]++[45]++[48+b]=L++[32,48+a,45,48+b]:=by simp
  rw[this];rfl
 show Zk _ _ (S L)=_;rw[ZE e1];generalize hM:L++[32,48+a,45,48+b]=M;have lM:M.length<=904:=by rw[<-hM];simp;omega
 have c:xB (Zh T7 (Zh XM (Za 2) (Yf [Za 4,Za 5])) (eC (.int 1))) (S M)=aA (decide ((1:Int)<(m:Int))):=by rw[Yq,ZH,vg];simp
 rw[Zu,c];simp only[aD];by_cases q:(1:Int)<(m:Int)
 ·rw[decide_eq_true q,mZ rfl];have u1:=two (s:=S M) (show Za 3 (S M)=aA (.str (ZW M)) from rfl) (show eC (.str "*") (S M)=aA (.str (ZW [42])) from rfl) (by omega) (by simp);have vs:Ze X6 [Zh XM (Za 2) (Yf [Za 4,Za 5])] (S M)=aA (.str (ZW [48+m])):=by rw[ZC,ZM,vg];show X6 [.int (m:Int)]=_;exact Sq (by omega)
  have u2:=two u1 vs (by simp;omega) (by simp);rw[Zv,V7 u2];have:M++[42]++[48+m]=L++32::Vq (a,b,(m:Int)):=by unfold Vq;rw[ma (by simp only;omega),<-hM];simp
  rw[this];rfl
 ·rw[decide_eq_false q];have:M=L++32::Vq (a,b,(m:Int)):=by unfold Vq;rw[mZ (by simp only;omega),<-hM];simp
  rw[this];rfl
theorem Hz:∃x4 x5,SE 2 (.many [4,5]) bW (Ub ns n ts (aA (.str (ZW (Vs n [])))) none none none none none none none)=aA (.nx (Ub ns n ts (aA (.str (ZW (Vs n ts)))) x4 x5 none none none none none)):=by
 have hl:=UQ ok hn
 obtain⟨s',q,x4,x5,rfl⟩:=Yz (T:=.many [4,5]) (fb:=bW) (ls:=ts.map kP) (s:=Ub ns n ts (aA (.str (ZW (Vs n [])))) none none none none none none none) (λi st=>∃x4 x5,st=Ub ns n ts (aA (.str (ZW (Vs n (ts.take i))))) x4 x5 none none none none none) ⟨none,none,rfl⟩ (λi l st hl' hJ=>by
  obtain⟨x4,x5,rfl⟩:=hJ;rw[aS] at hl'
  cases he:ts[i]? with
  | none=>rw[he] at hl';cases hl'
  | some d=>
   rw[he] at hl';cases hl';have hi:=(aL.mp he).1;have ht:ts.take (i+1)=ts.take i++[d]:=by rw[g9 hi,(aL.mp he).2]
   have tl:=LC (n:=n) (ts.take i);rw[br] at tl;refine⟨Ub ns n ts (aA (.str (ZW (Vs n (ts.take i))))) (aA (.int (d.1:Int))) (aA (.int (d.2.1:Int))) none none none none none,_,rfl,Hy ok hn (b7 he) (by omega),aA (.int (d.1:Int)),aA (.int (d.2.1:Int)),?_⟩;have:Vs n (ts.take i)++32::Vq d=Vs n (ts.take (i+1)):=by rw[ht];unfold Vs;rw[Nx];simp[WB]
   rw[this])
 refine⟨x4,x5,?_⟩;unfold SE;show((QD (dP ts)).bind λls=>We _ _ ls _)=_;rw[RU];show We (.many [4,5]) bW (ts.map kP) _=_;rw[q,aN,dF]
end
abbrev bCh:XS:=(Zl 3 (Ze Wz [Za 3,Ze Zw [Za 0,Zh Yp (eC (.int 30)) (Zh Pn (eC (.int 2)) (Za 7))],Ze Zw [Za 0,Zh Yp (eC (.int 31)) (Zh Pn (eC (.int 2)) (Za 7))]]))
theorem DM{ns:List Int}{n N:Nat}{ts:List Z9}{x:aR}{x4 x5 x6:Option PV}{i:Nat}(hns:ns.length<=63)(hi:i<4)(h:Small N x)(hN:N<=900):∃y,bCh (Ub ns n ts (aA (.str x)) x4 x5 x6 (aA (.int (i:Int))) none none none)=aA (.nx (Ub ns n ts (aA (.str y)) x4 x5 x6 (aA (.int (i:Int))) none none none))/\Small (N+1) y:=by
 have cl:∀(b:Int)(k:Nat),b+2*(i:Int)=(k:Int)->Ze Zw [Za 0,Zh Yp (eC (.int b)) (Zh Pn (eC (.int 2)) (Za 7))] (Ub ns n ts (aA (.str x)) x4 x5 x6 (aA (.int (i:Int))) none none none)=aA (.int (Xn ns k)):=λb k hk=>by
  have m:Zh Pn (eC (.int 2)) (Za 7) (Ub ns n ts (aA (.str x)) x4 x5 x6 (aA (.int (i:Int))) none none none)=aA (.int (2*(i:Int))):=DI (C:=CMul) (op:=(· * ·)) rfl rfl (.inl ⟨by omega,by omega⟩);have a:Zh Yp (eC (.int b)) (Zh Pn (eC (.int 2)) (Za 7)) (Ub ns n ts (aA (.str x)) x4 x5 x6 (aA (.int (i:Int))) none none none)=aA (.int (k:Int)):=by rw[ZH,m,<-hk];rfl
  rw[ZC];simp only[UX,a,aD,av];exact Ur hns k
 have c1:=cl 30 (30+2*i) (by omega);have c2:=cl 31 (31+2*i) (by omega);obtain⟨y,e,l⟩:=KI (a:=Xn ns (30+2*i)) (b:=Xn ns (31+2*i)) h hN;refine⟨y,?_,l⟩;unfold bCh;rw[Zv,ZC];simp only[UX,c1,c2,aD,av];show(Wz [.str x,.int (Xn ns (30+2*i)),.int (Xn ns (31+2*i))]).map _=_;rw[e];rfl
theorem B7{ns:List Int}{n:Nat}{ts:List Z9}{x:aR}{x4 x5 x6:Option PV}(hns:ns.length<=63)(h:Small 300 x):∃y x7,Wt [] (YG [Zh YS (Ze Zw [Za 0,eC (.int 29)]) (eC (.int 4))]) (.one 7) bCh (Ub ns n ts (aA (.str x)) x4 x5 x6 none none none none)=aA (.nx (Ub ns n ts (aA (.str y)) x4 x5 x6 x7 none none none))/\Small 1000 y:=by
 have c0:Zw [PV.cst (ns.map PV.int),PV.int 29]=aA (PV.int (Xn ns 29)):=Ur hns 29;obtain⟨k,ek⟩:∃k:Nat,Xn ns 29%4=(k:Int):=⟨(Xn ns 29%4).toNat,by omega⟩
 have er:YG [Zh YS (Ze Zw [Za 0,eC (.int 29)]) (eC (.int 4))] (Ya [] (Ub ns n ts (aA (.str x)) x4 x5 x6 none none none none))=aA (Xs k):=by
  refine Xh ?_ (by omega);have c1:Ze Zw [Za 0,eC (.int 29)] (Ya [] (Ub ns n ts (aA (.str x)) x4 x5 x6 none none none none))=aA (.int (Xn ns 29)):=by rw[ZC];simp only[UX,YQ,SV,Ub,Ya];simpa using c0
  have m:Zh YS (Ze Zw [Za 0,eC (.int 29)]) (eC (.int 4)) (Ya [] (Ub ns n ts (aA (.str x)) x4 x5 x6 none none none none))=aA (.int (k:Int)):=by rw[<-ek];exact DI (C:=λ_ j=>0<j) (op:=(· % ·)) c1 rfl (by omega)
  exact m
 obtain⟨s',q,y,x7,e,sm⟩:=Yz (T:=.one 7) (fb:=bCh) (ls:=Xs k) (s:=Ub ns n ts (aA (.str x)) x4 x5 x6 none none none none) (λi st=>∃y x7,st=Ub ns n ts (aA (.str y)) x4 x5 x6 x7 none none none/\Small (300+i) y) ⟨x,none,rfl,h⟩ (λi l st hl hJ=>by
  obtain⟨y,x7,rfl,sm⟩:=hJ;obtain⟨hi,rfl⟩:=VV hl;obtain⟨z,e,sz⟩:=DM (n:=n) (ts:=ts) (x4:=x4) (x5:=x5) (x6:=x6) (i:=i) hns (by omega) sm (by omega);exact⟨Ub ns n ts (aA (.str y)) x4 x5 x6 (aA (.int (i:Int))) none none none,_,rfl,e,z,aA (.int (i:Int)),rfl,sz⟩)
 refine⟨y,x7,?_,sm.mono (by simp[Xs];omega)⟩;rw[Xg,er];simp only[aD];rw[q,e]
def shA:List aR:=[("" : String),(":" : String),("1" : String),("1:" : String),("1: " : String),("01:" : String),("0:" : String),("8:" : String),("2:" : String),("2: 0-1" : String),("2:0-1" : String),("2: 1-0" : String),("2: 0-1*1" : String)]
def F0:List aR:=[("2: 0-1*10" : String),("2: 0-1 0-1" : String),("10:" : String),("3: 0-2" : String),("3: 1-2 0-1*02" : String),("100:" : String),("2: 0-100" : String),("2: 0-1*100" : String)]
theorem FR:∀z∈shA++F0,Small 1000 z:=by
 have h:((shA++F0).all λz=>decide (z.length<=1000)&&(Zy z).all λc=>decide (c<128))=aC:=by decide +kernel
 intro z hz;have:=bB.mp h z hz;rw[bE,decide_eq_true_eq,bB] at this;exact⟨this.1,λc hc=>of_decide_eq_true (this.2 c hc)⟩
section
variable {ns:List Int} {n:Nat} {ts:List Z9} {x x4 x5 x6 x7:Option PV}
theorem Zb5:Zl 8 (YO [eP (eC (.str "")),eP (eC (.str ":")),eP (eC (.str "1")),eP (eC (.str "1:")),eP (eC (.str "1: ")),eP (eC (.str "01:")),eP (eC (.str "0:")),eP (eC (.str "8:")),eP (eC (.str "2:")),eP (eC (.str "2: 0-1")),eP (eC (.str "2:0-1")),eP (eC (.str "2: 1-0")),eP (eC (.str "2: 0-1*1"))]) (Ub ns n ts x x4 x5 x6 x7 none none none)=aA (.nx (Ub ns n ts x x4 x5 x6 x7 (aA (.lst (shA.map .str))) none none)):=rfl
theorem Zb6:Zl 8 (Zh TF (Za 8) (YO [eC (.str "2: 0-1*10"),eC (.str "2: 0-1 0-1"),eC (.str "10:"),eC (.str "3: 0-2"),eC (.str "3: 1-2 0-1*02"),eC (.str "100:"),eC (.str "2: 0-100"),eC (.str "2: 0-1*100")])) (Ub ns n ts x x4 x5 x6 x7 (aA (.lst (shA.map .str))) none none)=aA (.nx (Ub ns n ts x x4 x5 x6 x7 (aA (.lst ((shA++F0).map .str))) none none)):=rfl
theorem Zb7(hns:ns.length<=63):∃z,Zl 3 (eP (Zh ZK (Za 8) (Zh YS (Zh X8 (Ze Zw [Za 0,eC (.int 36)]) (eC (.int 8))) (eC (.int 21))))) (Ub ns n ts x x4 x5 x6 x7 (aA (.lst ((shA++F0).map .str))) none none)=aA (.nx (Ub ns n ts (aA (.str z)) x4 x5 x6 x7 (aA (.lst ((shA++F0).map .str))) none none))/\Small 1000 z:=by
 generalize hS:Ub ns n ts x x4 x5 x6 x7 (aA (.lst ((shA++F0).map .str))) none none=S;have c1:Ze Zw [Za 0,eC (.int 36)] S=aA (.int (Xn ns 36)):=by rw[<-hS];exact Ur hns 36
 have d1:Zh X8 (Ze Zw [Za 0,eC (.int 36)]) (eC (.int 8)) S=aA (.int (Xn ns 36/8)):=DI (C:=R4) (op:=(· / ·)) c1 rfl ⟨by omega,by omega⟩;have m1:Zh YS (Zh X8 (Ze Zw [Za 0,eC (.int 36)]) (eC (.int 8))) (eC (.int 21)) S=aA (.int (Xn ns 36/8%21)):=DI (C:=λ_ j=>0<j) (op:=(· % ·)) d1 rfl (by omega);obtain⟨j,ej⟩:∃j:Nat,Xn ns 36/8%21=(j:Int):=⟨(Xn ns 36/8%21).toNat,by omega⟩;have lj:j<(shA++F0).length:=by show j<21;omega
 rw[ej] at m1;refine⟨(shA++F0)[j],?_,FR _ (dG lj)⟩;have g:Zh ZK (Za 8) (Zh YS (Zh X8 (Ze Zw [Za 0,eC (.int 36)]) (eC (.int 8))) (eC (.int 21))) S=aA (.str (shA++F0)[j]):=by rw[ZH,m1,<-hS];show Vv ((shA++F0).map PV.str) (j:Int)=_;exact Xy (by rw[aS,aK lj];rfl)
 rw[Zv,V7 g,<-hS];rfl
end
theorem FT{ns:List Int}{n:Nat}{ts:List Z9}{y:aR}{x4 x5 x6 x7:Option PV}(hns:ns.length<=63)(h:Small 1000 y):∃z x8,YF (xB (Zh (YJ aB) (Zh YS (Ze Zw [Za 0,eC (.int 36)]) (eC (.int 8))) (eC (.int 3)))) (Zk (Zl 8 (YO [eP (eC (.str "")),eP (eC (.str ":")),eP (eC (.str "1")),eP (eC (.str "1:")),eP (eC (.str "1: ")),eP (eC (.str "01:")),eP (eC (.str "0:")),eP (eC (.str "8:")),eP (eC (.str "2:")),eP (eC (.str "2: 0-1")),eP (eC (.str "2:0-1")),eP (eC (.str "2: 1-0")),eP (eC (.str "2: 0-1*1"))])) (Zk (Zl 8 (Zh TF (Za 8) (YO [eC (.str "2: 0-1*10"),eC (.str "2: 0-1 0-1"),eC (.str "10:"),eC (.str "3: 0-2"),eC (.str "3: 1-2 0-1*02"),eC (.str "100:"),eC (.str "2: 0-100"),eC (.str "2: 0-1*100")]))) (Zl 3 (eP (Zh ZK (Za 8) (Zh YS (Zh X8 (Ze Zw [Za 0,eC (.int 36)]) (eC (.int 8))) (eC (.int 21)))))))) Zs (Ub ns n ts (aA (.str y)) x4 x5 x6 x7 none none none)=aA (.nx (Ub ns n ts (aA (.str z)) x4 x5 x6 x7 x8 none none))/\Small 1000 z:=by
 have c1:Ze Zw [Za 0,eC (.int 36)] (Ub ns n ts (aA (.str y)) x4 x5 x6 x7 none none none)=aA (.int (Xn ns 36)):=Ur hns 36;have m1:Zh YS (Ze Zw [Za 0,eC (.int 36)]) (eC (.int 8)) (Ub ns n ts (aA (.str y)) x4 x5 x6 x7 none none none)=aA (.int (Xn ns 36%8)):=DI (C:=λ_ j=>0<j) (op:=(· % ·)) c1 rfl (by omega);have c:xB (Zh (YJ aB) (Zh YS (Ze Zw [Za 0,eC (.int 36)]) (eC (.int 8))) (eC (.int 3))) (Ub ns n ts (aA (.str y)) x4 x5 x6 x7 none none none)=aA (decide (Xn ns 36%8=3)):=by rw[Yq,ZH,m1];simp
 rw[Zu,c];simp only[aD];by_cases q:Xn ns 36%8=3
 ·rw[decide_eq_true q,mZ rfl];obtain⟨z,e,sz⟩:=Zb7 (n:=n) (ts:=ts) (x:=aA (.str y)) (x4:=x4) (x5:=x5) (x6:=x6) (x7:=x7) hns;exact⟨z,_,by rw[ZE Zb5,ZE Zb6,e],sz⟩
 ·rw[decide_eq_false q];exact⟨y,none,rfl,h⟩
theorem law_true(ns:List Int)(hns:ns.length<=63):D_law [.cst (iL ns)]=aA (.bl aC):=by
 have c0:Zw [PV.cst (ns.map PV.int),PV.int 0]=aA (PV.int (Xn ns 0)):=Ur hns 0;obtain⟨n,hn1,hn7,en⟩:∃n:Nat,1<=n/\n<=7/\1+Xn ns 0%7=(n:Int):=⟨(1+Xn ns 0%7).toNat,by omega,by omega,by omega⟩;have e1:Zl 1 (eP (Zh Yp (eC (.int 1)) (Zh YS (Ze Zw [Za 0,eC (.int 0)]) (eC (.int 7))))) [aA (.cst (iL ns)),none,none,none,none,none,none,none,none,none,none]=aA (.nx [aA (.cst (iL ns)),aA (.int (n:Int)),none,none,none,none,none,none,none,none,none]):=by simp[c0,en]
 obtain⟨ts,et,ok,hg⟩:=Fb (ns:=ns) (XW:=1) (n:=n) hns hn1 hn7;have et:WZ [PV.cst (ns.map PV.int),PV.int 1,PV.int (n:Int)]=aA (dP ts):=et;have e2:Zl 2 (Ze WZ [Za 0,eC (.int 1),Za 1]) [aA (.cst (iL ns)),aA (.int (n:Int)),none,none,none,none,none,none,none,none,none]=aA (.nx (Ub ns n ts none none none none none none none none)):=by rw[Zv,ZC];show((WZ [PV.cst (ns.map PV.int),PV.int 1,PV.int (n:Int)])).map _=_;rw[et];rfl
 have e3:Zl 3 (eP (Zh YW (Ze X6 [Za 1]) (eC (.str ":")))) (Ub ns n ts none none none none none none none none)=aA (.nx (Ub ns n ts (aA (.str (ZW (Vs n [])))) none none none none none none none)):=by
  have v:Ze X6 [Za 1] (Ub ns n ts none none none none none none none none)=aA (.str (ZW [48+n])):=by rw[ZC];show X6 [.int (n:Int)]=_;exact Sq (by omega)
  rw[Zv,V7 (two v (show eC (.str ":") _=aA (.str (ZW [58])) from rfl) (by simp) (by simp))];rfl
 obtain⟨x4,x5,e4⟩:=Hz (ns:=ns) ok hn7;have tsm:=KJ ok hn7;have wt:=FQ ok hn7;have sq:=Nl ok hn7;generalize hX:ZW (Vs n ts)=X at e4 tsm;have wX:Vp (Zy X)=aA (n,ts.map Hr):=by rw[<-hX,Zr];exact wt
 have e5:Zl 6 (eP (Za 3)) (Ub ns n ts (aA (.str X)) x4 x5 none none none none none)=aA (.nx (Ub ns n ts (aA (.str X)) x4 x5 (aA (.str X)) none none none none)):=rfl;obtain⟨y,x7,e6,sy⟩:=B7 (n:=n) (ts:=ts) (x4:=x4) (x5:=x5) (x6:=aA (.str X)) hns tsm;obtain⟨z,x8,e7,sz⟩:=FT (n:=n) (ts:=ts) (x4:=x4) (x5:=x5) (x6:=aA (.str X)) (x7:=x7) hns sy;have e8:Zl 9 (Ze Wy [Za 3]) (Ub ns n ts (aA (.str z)) x4 x5 (aA (.str X)) x7 x8 none none)=aA (.nx (Ub ns n ts (aA (.str z)) x4 x5 (aA (.str X)) x7 x8 (aA (KA (Vp (Zy z)))) none)):=by rw[Zv,ZC];show(Wy [.str z]).map _=_;rw[KC sz];rfl
 let T:Option PV->ZS:=λv=>Ub ns n ts (aA (.str z)) x4 x5 (aA (.str X)) x7 x8 (aA (KA (Vp (Zy z)))) v;have e9:Zl 10 (eP (Yf [eC (.int 2),eC .non])) (T none)=aA (.nx (T (aA (.tup [.int 2,.non])))):=rfl
 obtain⟨v,e10,tv,cv⟩:∃v,YF (xB (Vc aC (Za 9))) (Zl 10 (Ze Vz [Zh ZK (Za 9) (eC (.int 0)),Zh ZK (Za 9) (eC (.int 1))])) Zs (T (aA (.tup [.int 2,.non])))=aA (.nx (T (aA v)))/\YR [.str z]=aA v/\Wc 8 v v=aC:=by
  rcases FE sz with⟨w,t⟩ | ⟨m,zs,v,w,du,t,c⟩
  ·refine⟨_,?_,t,rfl⟩;have c9:xB (Vc aC (Za 9)) (T (aA (.tup [.int 2,.non])))=aA aB:=by show xB (Vc aC (Za 9)) (Ub ns n ts (aA (.str z)) x4 x5 (aA (.str X)) x7 x8 (aA (KA (Vp (Zy z)))) _)=_;rw[w];rfl
   rw[Zu,c9];rfl
  ·refine⟨v,?_,t,c⟩;have c9:xB (Vc aC (Za 9)) (T (aA (.tup [.int 2,.non])))=aA aC:=by show xB (Vc aC (Za 9)) (Ub ns n ts (aA (.str z)) x4 x5 (aA (.str X)) x7 x8 (aA (KA (Vp (Zy z)))) _)=_;rw[w];rfl
   rw[Zu,c9];simp only[aD,if_true];have i0:Zh ZK (Za 9) (eC (.int 0)) (T (aA (.tup [.int 2,.non])))=aA (.int (m:Int)):=by show ZK (KA (Vp (Zy z))) (.int 0)=_;rw[w];show Vv [PV.int (m:Int),.lst (zs.map zT)] ((0:Nat):Int)=_;exact Xy rfl
   have i1:Zh ZK (Za 9) (eC (.int 1)) (T (aA (.tup [.int 2,.non])))=aA (.lst (zs.map zT)):=by show ZK (KA (Vp (Zy z))) (.int 1)=_;rw[w];show Vv [PV.int (m:Int),.lst (zs.map zT)] ((1:Nat):Int)=_;exact Xy rfl
   rw[Zv,ZC,ZM,ZM,i0,i1];show(Vz [.int (m:Int),.lst (zs.map zT)]).map _=_;rw[du];rfl
 have tX:=Hv (tsm.mono (by omega)) wX ok hg hn1 hn7;have g1:Zh (YJ aB) (Ze YR [Za 3]) (Za 10) (T (aA v))=aA (.bl aC):=by rw[ZH];show(YR [.str z]).bind (λa=>YJ aB a v)=_;rw[tv];exact Ly aB cv
 have g2:Zh (YJ aB) (Ze YR [Za 6]) (Yf [eC .non,Ze Y1 [Za 2,Za 1]]) (T (aA v))=aA (.bl aC):=by
  have r0:Yf [eC .non,Ze Y1 [Za 2,Za 1]] (T (aA v))=aA (.tup [.non,wP (Uv n ts)]):=by rw[TH,ZM,ZM,ZC];show(eK (aA PV.non) λa=>((Y1 [dP ts,.int (n:Int)]).bind λb=>(aA []).map (b::·)).map (a::·)).map PV.tup=_;rw[sq];rfl
  rw[ZH,r0];show(YR [.str X]).bind (λa=>YJ aB a (.tup [.non,wP (Uv n ts)]))=_;rw[tX];exact Ly aB (JP _)
 show WC 11 JE _=_;unfold JE;show(Zk _ _ [aA (.cst (iL ns)),none,none,none,none,none,none,none,none,none,none]).bind Xv=_;rw[ZE e1,ZE e2,ZE e3,ZE e4,ZE e5,ZE e6,ZE e7,ZE e8,ZE e9,ZE e10];rw[Wf,Wa,MS,Yq,g1];simp only[aD,UZ,if_true,g2];rfl
end PW
namespace PW
open PySem L2 VL
theorem cstS_mk{K:aG}{h:bV}{mg:aR->Option aE}{x v:aR}{t:mR}(X:K.In h)(G:h.Ns ao mg)(y:bH K ao x=aA (aA (.str v t))):EX mg x v:=⟨t,ak X G y⟩
theorem cst_mk{K:aG}{h:bV}{mg:aR->Option aE}{x:aR}{v:Int}{t:mR}(X:K.In h)(G:h.Ns ao mg)(y:bH K ao x=aA (aA (.int v t))):FY mg x v:=⟨t,ak X G y⟩
section
open PySem.Spec PyProof.Rows VX
variable {P:bC} {w:b6} {K:aG} {mg:aR->Option aE} {base:bV}
abbrev Sr:bj:=Cn 0 (P4 2)
theorem FU{C Cb fI:aH}{fd:dy}(Fn:Fun K "__init__" "NoWeb.__init__" Sr fI fd)(ex:exiIn K C veT "ValueError.__new__" fI=aC)(BI:BInit K Cb "ValueError.__init__")(mB:mg "PurseError" = aA (.ref Cb))(sa:az K (.ref C) "__setattr__" = aA (aA (.builtin "object.__setattr__")))(ve:veOver K C=aC)(tk:iB K C "place" = aA none)(hd:(gM K C).any (·.hasDict)=aC) :
  Tq P w K mg base Mz 1 fI fd ["self","place"] (A9 C "place"):=
 Fn.ok (k:=0) (N:=["self","place"]) ⟨rfl,rfl,rfl,by decide +kernel,rfl,by decide +kernel,by decide +kernel⟩ (λ_ _ _ _ h=>h.1) λcdv A outer s H vs Q E hr h=>by refine⟨_,Tj (Vt (MX (pl:=?pl) F.excBase_ValueError BI ex rfl mB rfl (Yh (pv 0) (Yh (Jw hr (pv 1)) XI)))) (Ra (Ju ex sa ve tk hd rfl (pv 0) (pv 1))),?_⟩;exact Ni (a:="self") (b:="place") h
abbrev Ss:bj:=Cn 0 (P4 3)
theorem FV{C Cb fI:aH}{fd:dy}(Fn:Fun K "__init__" "Apart.__init__" Ss fI fd)(ex:exiIn K C veT "ValueError.__new__" fI=aC)(BI:BInit K Cb "ValueError.__init__")(mB:mg "PurseError" = aA (.ref Cb))(sa:az K (.ref C) "__setattr__" = aA (aA (.builtin "object.__setattr__")))(ve:veOver K C=aC)(tk:iB K C "houses" = aA none)(hd:(gM K C).any (·.hasDict)=aC) :
  Tq P w K mg base Mz 1 fI fd ["self","houses"] (A9 C "houses"):=
 Fn.ok (k:=0) (N:=["self","houses"]) ⟨rfl,rfl,rfl,by decide +kernel,rfl,by decide +kernel,by decide +kernel⟩ (λ_ _ _ _ h=>h.1) λcdv A outer s H vs Q E hr h=>by refine⟨_,Tj (Vt (MX (pl:=?pl) F.excBase_ValueError BI ex rfl mB rfl (Yh (pv 0) (Yh (Jw hr (pv 1)) XI)))) (Ra (Ju ex sa ve tk hd rfl (pv 0) (pv 1))),?_⟩;exact Ni (a:="self") (b:="houses") h
end
theorem all_mk{P:bC}{w:b6}{K:aG}{h:bV}{mg:aR->Option aE}{fa:aH}(X:K.In h)(G:h.Ns ao mg)(hfa:mg "law" = aA (.ref fa))(B:R1 mg)
  (Z_FIGURES:EX mg "FIGURES" "0123456789")
  (Z_MOST_FIGURES_IN_WEBS:FY mg "MOST_FIGURES_IN_WEBS" 2)
  (Z_MOST_HOUSES:FY mg "MOST_HOUSES" 7)
  (Z_MOST_TIMES:FY mg "MOST_TIMES" 9)
  (d0:Def K mg "_law_cell" P5)
  (d1:Def K mg "_law_renamed" TU)
  (d2:Def K mg "_law_read_times" V5)
  (d3:Def K mg "_law_times" Qt)
  (d4:Def K mg "_law_figures" TV)
  (d5:Def K mg "_law_tie" N4)
  (d6:Def K mg "_law_reading" TX)
  (d7:Def K mg "_law_changed" TY)
  (d8:Def K mg "_law_square" S3)
  (d9:Def K mg "_law_due" N7)
  (d10:Def K mg "_law_kind" P6)
  (d11:Def K mg "is_plain" S4)
  (d12:Def K mg "read_small" VD)
  (d13:Def K mg "reached" Qu)
  (d14:Def K mg "fits" Ks)
  (d15:Def K mg "web_of" RT)
  (d16:Def K mg "read_times" VF)
  (d17:Def K mg "read_tie" U8)
  (d18:Def K mg "read_web" V6)
  (d19:Def K mg "_law_told" P9)
  (d20:Def K mg "law" G1)
  {CNoWeb CApart CNoText CNoOrder CTooMany CNotSettled CNoTree CNoTotal CNoEnds CNoRow CNoName Cb fW fA:aH} {odW anW odA anA:Option aH} {slW slA:Array (Option aE)} {kVW dcW pmW cdW ctW kVA dcA pmA cdA ctA:aE}
  (qNoWeb:bH K ao "NoWeb" = aA (aA (.ref CNoWeb)))
  (qApart:bH K ao "Apart" = aA (aA (.ref CApart)))
  (qNoText:bH K ao "NoText" = aA (aA (.ref CNoText)))
  (qNoOrder:bH K ao "NoOrder" = aA (aA (.ref CNoOrder)))
  (qTooMany:bH K ao "TooMany" = aA (aA (.ref CTooMany)))
  (qNotSettled:bH K ao "NotSettled" = aA (aA (.ref CNotSettled)))
  (qNoTree:bH K ao "NoTree" = aA (aA (.ref CNoTree)))
  (qNoTotal:bH K ao "NoTotal" = aA (aA (.ref CNoTotal)))
  (qNoEnds:bH K ao "NoEnds" = aA (aA (.ref CNoEnds)))
  (qNoRow:bH K ao "NoRow" = aA (aA (.ref CNoRow)))
  (qNoName:bH K ao "NoName" = aA (aA (.ref CNoName)))
  (qB:bH K ao "PurseError" = aA (aA (.ref Cb)))
  (xB:cB K Cb "BaseException" = aC)
  (g1:PySem.W.specialIn K (.ref Cb) "__getattribute__" = aA (aA (.builtin "type.__getattribute__")))
  (g2:PySem.W.readsIn K Cb (.type "type")=aC)
  (g3:PySem.W.findCls K (.ref Cb) (.type "type") "__init__" = aA (.val (.builtin "ValueError.__init__")))
  (iW:az K (.ref CNoWeb) "__init__" = aA (aA (.ref fW)))
  (lW:K.lookup fW=aA ⟨.type "function",odW,.func (cV "__init__" "NoWeb.__init__" (XX Sr) (YL Sr) (Zp Sr) .none kVW dcW pmW anW cdW ctW),slW⟩)
  (cW:fu K cdW "NoWeb.__init__" = aC)
  (kW:eM K (.ref fW)=aC)
  (eW:VX.exiIn K CNoWeb VX.veT "ValueError.__new__" fW=aC)
  (sW:az K (.ref CNoWeb) "__setattr__" = aA (aA (.builtin "object.__setattr__")))
  (vW:VX.veOver K CNoWeb=aC)
  (uW:iB K CNoWeb "place" = aA none)
  (hW:(gM K CNoWeb).any (·.hasDict)=aC)
  (bW:VX.belowIn K CNoWeb Cb=aC)
  (nW:az K (.ref CNoWeb) "place" = aA none)
  (x1W:cB K CNoWeb "BaseException" = aC)
  (x4W:az K (.ref CNoWeb) "__getattribute__" = aA (aA (.builtin "BaseException.__getattribute__")))
  (x5W:az K (.ref CNoWeb) "__getattr__" = aA none)
  (x6W:az K (.ref CNoWeb) "__class__" = aA (aA (.builtin "object.__class__")))
  (x7W:gL K CNoWeb (.type "object")=aA aC)
  (x8W:aX K (.ref CNoWeb) (.type "ValueError")=aA aC)
  (tNoWebW:aX K (.ref CNoWeb) (.ref CNoWeb)=aA aC)
  (tApartW:aX K (.ref CNoWeb) (.ref CApart)=aA aB)
  (tNoTextW:aX K (.ref CNoWeb) (.ref CNoText)=aA aB)
  (tNoOrderW:aX K (.ref CNoWeb) (.ref CNoOrder)=aA aB)
  (tTooManyW:aX K (.ref CNoWeb) (.ref CTooMany)=aA aB)
  (tNotSettledW:aX K (.ref CNoWeb) (.ref CNotSettled)=aA aB)
  (tNoTreeW:aX K (.ref CNoWeb) (.ref CNoTree)=aA aB)
  (tNoTotalW:aX K (.ref CNoWeb) (.ref CNoTotal)=aA aB)
  (tNoEndsW:aX K (.ref CNoWeb) (.ref CNoEnds)=aA aB)
  (tNoRowW:aX K (.ref CNoWeb) (.ref CNoRow)=aA aB)
  (tNoNameW:aX K (.ref CNoWeb) (.ref CNoName)=aA aB)
  (iA:az K (.ref CApart) "__init__" = aA (aA (.ref fA)))
  (lA:K.lookup fA=aA ⟨.type "function",odA,.func (cV "__init__" "Apart.__init__" (XX Ss) (YL Ss) (Zp Ss) .none kVA dcA pmA anA cdA ctA),slA⟩)
  (cA:fu K cdA "Apart.__init__" = aC)
  (kA:eM K (.ref fA)=aC)
  (eA:VX.exiIn K CApart VX.veT "ValueError.__new__" fA=aC)
  (sA:az K (.ref CApart) "__setattr__" = aA (aA (.builtin "object.__setattr__")))
  (vA:VX.veOver K CApart=aC)
  (uA:iB K CApart "houses" = aA none)
  (hA:(gM K CApart).any (·.hasDict)=aC)
  (bA:VX.belowIn K CApart Cb=aC)
  (nA:az K (.ref CApart) "houses" = aA none)
  (x1A:cB K CApart "BaseException" = aC)
  (x4A:az K (.ref CApart) "__getattribute__" = aA (aA (.builtin "BaseException.__getattribute__")))
  (x5A:az K (.ref CApart) "__getattr__" = aA none)
  (x6A:az K (.ref CApart) "__class__" = aA (aA (.builtin "object.__class__")))
  (x7A:gL K CApart (.type "object")=aA aC)
  (x8A:aX K (.ref CApart) (.type "ValueError")=aA aC)
  (tNoWebA:aX K (.ref CApart) (.ref CNoWeb)=aA aB)
  (tApartA:aX K (.ref CApart) (.ref CApart)=aA aC)
  (tNoTextA:aX K (.ref CApart) (.ref CNoText)=aA aB)
  (tNoOrderA:aX K (.ref CApart) (.ref CNoOrder)=aA aB)
  (tTooManyA:aX K (.ref CApart) (.ref CTooMany)=aA aB)
  (tNotSettledA:aX K (.ref CApart) (.ref CNotSettled)=aA aB)
  (tNoTreeA:aX K (.ref CApart) (.ref CNoTree)=aA aB)
  (tNoTotalA:aX K (.ref CApart) (.ref CNoTotal)=aA aB)
  (tNoEndsA:aX K (.ref CApart) (.ref CNoEnds)=aA aB)
  (tNoRowA:aX K (.ref CApart) (.ref CNoRow)=aA aB)
  (tNoNameA:aX K (.ref CApart) (.ref CNoName)=aA aB)
  (x0T:gK K CNoText [.type "ValueError",.type "Exception",.type "BaseException",.type "object"] "ValueError.__new__" = aC)
  (x1T:cB K CNoText "BaseException" = aC)
  (x3T:VX.belowIn K CNoText Cb=aC)
  (x4T:az K (.ref CNoText) "__getattribute__" = aA (aA (.builtin "BaseException.__getattribute__")))
  (x5T:az K (.ref CNoText) "__getattr__" = aA none)
  (x6T:az K (.ref CNoText) "__class__" = aA (aA (.builtin "object.__class__")))
  (x7T:gL K CNoText (.type "object")=aA aC)
  (x8T:aX K (.ref CNoText) (.type "ValueError")=aA aC)
  (tNoWebT:aX K (.ref CNoText) (.ref CNoWeb)=aA aB)
  (tApartT:aX K (.ref CNoText) (.ref CApart)=aA aB)
  (tNoTextT:aX K (.ref CNoText) (.ref CNoText)=aA aC)
  (tNoOrderT:aX K (.ref CNoText) (.ref CNoOrder)=aA aB)
  (tTooManyT:aX K (.ref CNoText) (.ref CTooMany)=aA aB)
  (tNotSettledT:aX K (.ref CNoText) (.ref CNotSettled)=aA aB)
  (tNoTreeT:aX K (.ref CNoText) (.ref CNoTree)=aA aB)
  (tNoTotalT:aX K (.ref CNoText) (.ref CNoTotal)=aA aB)
  (tNoEndsT:aX K (.ref CNoText) (.ref CNoEnds)=aA aB)
  (tNoRowT:aX K (.ref CNoText) (.ref CNoRow)=aA aB)
  (tNoNameT:aX K (.ref CNoText) (.ref CNoName)=aA aB)
  : ∃fd:dy,(∀(s:aI)(u:aE),kI s fd ⟨[u],[]⟩ [("_law_script",u)])/\∀base:bV,K.In base->base.Ns ao mg->Tq P w K mg base Mz 8 fa fd ["_law_script"] (X9 K D_law 1):=by
 have mB:=ak X G qB;have BI:VX.BInit K Cb "ValueError.__init__":=⟨g1,g2,g3⟩;have FW:Fun K "__init__" "NoWeb.__init__" Sr fW _:=LO (st:=Sr) lW cW kW
 have QW:∀base:bV,VX.QF "NoWeb" P w K mg base CNoWeb Cb:=λbase=>
  ⟨qNoWeb,ak X G qNoWeb,⟨fW,_,_,eW,lW,rfl,FW.binds (λ_ _ _ _ _ _ us hl=>match us,hl with | [_,_],_=>rfl),FU FW eW BI mB sW vW uW hW⟩,⟨qNoWeb,⟨x4W,x5W,x6W,x7W,x1W⟩,nW,hW⟩,bW,λcx hc=>by
   unfold VX.nms at hc;simp only[aV,jV,or_false] at hc;rcases hc with rfl | rfl | rfl | rfl | rfl | rfl | rfl | rfl | rfl | rfl | rfl
   ·exact⟨CNoWeb,ak X G qNoWeb,tNoWebW⟩
   ·exact⟨CApart,ak X G qApart,tApartW⟩
   ·exact⟨CNoText,ak X G qNoText,tNoTextW⟩
   ·exact⟨CNoOrder,ak X G qNoOrder,tNoOrderW⟩
   ·exact⟨CTooMany,ak X G qTooMany,tTooManyW⟩
   ·exact⟨CNotSettled,ak X G qNotSettled,tNotSettledW⟩
   ·exact⟨CNoTree,ak X G qNoTree,tNoTreeW⟩
   ·exact⟨CNoTotal,ak X G qNoTotal,tNoTotalW⟩
   ·exact⟨CNoEnds,ak X G qNoEnds,tNoEndsW⟩
   ·exact⟨CNoRow,ak X G qNoRow,tNoRowW⟩
   ·exact⟨CNoName,ak X G qNoName,tNoNameW⟩,x8W⟩
 have FA:Fun K "__init__" "Apart.__init__" Ss fA _:=LO (st:=Ss) lA cA kA
 have QA:∀base:bV,VX.QF "Apart" P w K mg base CApart Cb:=λbase=>
  ⟨qApart,ak X G qApart,⟨fA,_,_,eA,lA,rfl,FA.binds (λ_ _ _ _ _ _ us hl=>match us,hl with | [_,_],_=>rfl),FV FA eA BI mB sA vA uA hA⟩,⟨qApart,⟨x4A,x5A,x6A,x7A,x1A⟩,nA,hA⟩,bA,λcx hc=>by
   unfold VX.nms at hc;simp only[aV,jV,or_false] at hc;rcases hc with rfl | rfl | rfl | rfl | rfl | rfl | rfl | rfl | rfl | rfl | rfl
   ·exact⟨CNoWeb,ak X G qNoWeb,tNoWebA⟩
   ·exact⟨CApart,ak X G qApart,tApartA⟩
   ·exact⟨CNoText,ak X G qNoText,tNoTextA⟩
   ·exact⟨CNoOrder,ak X G qNoOrder,tNoOrderA⟩
   ·exact⟨CTooMany,ak X G qTooMany,tTooManyA⟩
   ·exact⟨CNotSettled,ak X G qNotSettled,tNotSettledA⟩
   ·exact⟨CNoTree,ak X G qNoTree,tNoTreeA⟩
   ·exact⟨CNoTotal,ak X G qNoTotal,tNoTotalA⟩
   ·exact⟨CNoEnds,ak X G qNoEnds,tNoEndsA⟩
   ·exact⟨CNoRow,ak X G qNoRow,tNoRowA⟩
   ·exact⟨CNoName,ak X G qNoName,tNoNameA⟩,x8A⟩
 have QT:VX.QN "NoText" K mg CNoText Cb:=⟨qNoText,ak X G qNoText,mB,x0T,⟨x4T,x5T,x6T,x7T,x1T⟩,xB,x3T,λcx hc=>by
  unfold VX.nms at hc;simp only[aV,jV,or_false] at hc;rcases hc with rfl | rfl | rfl | rfl | rfl | rfl | rfl | rfl | rfl | rfl | rfl
  ·exact⟨CNoWeb,ak X G qNoWeb,tNoWebT⟩
  ·exact⟨CApart,ak X G qApart,tApartT⟩
  ·exact⟨CNoText,ak X G qNoText,tNoTextT⟩
  ·exact⟨CNoOrder,ak X G qNoOrder,tNoOrderT⟩
  ·exact⟨CTooMany,ak X G qTooMany,tTooManyT⟩
  ·exact⟨CNotSettled,ak X G qNotSettled,tNotSettledT⟩
  ·exact⟨CNoTree,ak X G qNoTree,tNoTreeT⟩
  ·exact⟨CNoTotal,ak X G qNoTotal,tNoTotalT⟩
  ·exact⟨CNoEnds,ak X G qNoEnds,tNoEndsT⟩
  ·exact⟨CNoRow,ak X G qNoRow,tNoRowT⟩
  ·exact⟨CNoName,ak X G qNoName,tNoNameT⟩,x8T⟩
 refine Gm d20 hfa (λ_ _ _ _ _ _ _=>rfl) λbase f fd _ _ F=>?_;have Q:VX.Q6 P w K mg base CNoText CNoWeb CApart Cb:=⟨QT,⟨mB,xB,QW base,QA base⟩⟩;have C_l_cell:=Ha (P:=P) (w:=w) (base:=base) d0 B;have C_l_renamed:=N1 (P:=P) (w:=w) (base:=base) d1 B;have C_l_read_times:=QQ (P:=P) (w:=w) (base:=base) d2 B;have C_l_times:=Kq (P:=P) (w:=w) (base:=base) d3 B C_l_cell C_l_read_times C_l_renamed;have C_l_figures:=N3 (P:=P) (w:=w) (base:=base) d4 B;have C_l_tie:=GX (P:=P) (w:=w) (base:=base) d5 B C_l_figures;have C_l_reading:=N5 (P:=P) (w:=w) (base:=base) d6 B C_l_figures C_l_tie;have C_l_changed:=N6 (P:=P) (w:=w) (base:=base) d7 B;have C_l_square:=M9 (P:=P) (w:=w) (base:=base) d8 B;have C_l_due:=GY (P:=P) (w:=w) (base:=base) d9 B C_l_square;have C_l_kind:=Hb (P:=P) (w:=w) (base:=base) d10 B  Q;have C_is_plain:=Lb (P:=P) (w:=w) (base:=base) d11 B Z_FIGURES;have C_read_small:=OI (P:=P) (w:=w) (base:=base) d12 B Z_MOST_FIGURES_IN_WEBS C_is_plain;have X_read_small:=P7 (P:=P) (w:=w) (base:=base) d12 B Q Z_MOST_FIGURES_IN_WEBS C_is_plain;have C_reached:=Kr (P:=P) (w:=w) (base:=base) d13 B;have C_fits:=Dr (P:=P) (w:=w) (base:=base) d14 B Z_MOST_TIMES;have C_web_of:=Hd (P:=P) (w:=w) (base:=base) d15 B Z_MOST_HOUSES C_fits C_reached;have XY_web_of:=Kt (P:=P) (w:=w) (base:=base) d15 B Q Z_MOST_HOUSES C_fits C_reached;have C_read_times:=OJ (P:=P) (w:=w) (base:=base) d16 B C_read_small;have X_read_times:=P8 (P:=P) (w:=w) (base:=base) d16 B Q C_read_small X_read_small;have C_read_tie:=Lc (P:=P) (w:=w) (base:=base) d17 B C_read_times C_read_small;have X_read_tie:=N8 (P:=P) (w:=w) (base:=base) d17 B Q C_read_times C_read_small X_read_times X_read_small;have C_read_web:=Ld (P:=P) (w:=w) (base:=base) d18 B C_read_small C_read_tie C_web_of;have X_read_web:=N9 (P:=P) (w:=w) (base:=base) d18 B Q C_read_small C_read_tie X_read_small X_read_tie;have XY_read_web:=Ma (P:=P) (w:=w) (base:=base) d18 B Q C_read_small C_read_tie XY_web_of;have C_l_told:=He (P:=P) (w:=w) (base:=base) d19 B C_read_web C_l_kind Q X_read_web XY_read_web;exact BQ F B C_l_cell C_l_times C_l_changed C_l_reading C_l_due C_l_told C_l_square
end PW
namespace PySem.W.Fast
def tw9543767540963206524:=()
def tw7130688566130192330:=()
def tw5770127692478570255:=()
def tw15106794308779912941:=()
def tw10282652747824996140:=()
def tw12134722698584953754:=()
def tw3422830693370979071:=()
def tw4102130314177958093:=()
def tw8764495086876414981:=()
def tw310768678406340824:=()
def tw7348011518835092765:=()
def tw9877231500863891757:=()
def tw3885333108483457585:=()
def tw455149043096501956:=()
def tw5238124680310104196:=()
def tw9766993005028432754:=()
def tw5534250381176888104:=()
def tw15693571293446617866:=()
def tw1209183916410949507:=()
def tw713074969372328618:=()
def tw8730608635304222585:=()
def tw7456047195128968743:=()
def tw8508565774353336438:=()
def tw16977265833033403978:=()
def tw18431662050166503817:=()
def tw6975324675948788031:=()
def tw7367716566407747316:=()
def tw9194638441295019880:=()
def tw12696756220868999715:=()
def tw7583351675745304557:=()
def tw18221357111723528157:=()
def tw3523781548597521165:=()
def tw8569645692957392741:=()
def tw11421591671602364313:=()
def tw8015514654714226549:=()
def tw13297951666238517398:=()
def tw10111022729995429022:=()
def tw10779389910386455288:=()
def tw16530520385915366869:=()
def tw6140184533549629038:=()
def tw213284815213389077:=()
def tw5083219193017335782:=()
def tw10236507191576152822:=()
def tw12347070757216906877:=()
def tw17171056333210103982:=()
def tw2020151164292435882:=()
def tw13630050609057204403:=()
def tw7383901362722231103:=()
def tw9242744893068399173:=()
def tw14299987004859056857:=()
def tw3161450903107508851:=()
def tw14967925097990086265:=()
def tw16910541884391549995:=()
def tw14416040993402215989:=()
def tw6199672949749062643:=()
def tw15946556239485283088:=()
def tw18260853421426215023:=()
def tw11720501393670567417:=()
def tw543780567717858898:=()
def tw3584571889370370114:=()
def tw5802316996651459852:=()
def tw14817930192646069624:=()
def tw7489545595230143356:=()
def tw12527209145263248937:=()
def tw13025257181074286399:=()
def tw11897186169767565278:=()
def tw10794756845155184165:=()
def tw8845592421652202137:=()
def tw15381733209052124784:=()
def tw15268749180685246044:=()
def tw4683853998287511039:=()
def tw3141954245980533486:=()
def tw11715984676955962702:=()
def tw14804564631700503206:=()
def tw18245198809296634052:=()
def tw15522727273953394054:=()
def tw4859119663456481756:=()
def tw12763851130207436168:=()
def tw12641059212151909085:=()
def tw5183415708456684801:=()
def tw2589484277022345614:=()
def tw202032101266872331:=()
def tw16816587645789009722:=()
def tw6284322971734920446:=()
def tw9620022830773560993:=()
def tw5615931357339716563:=()
def tw10631612290491490378:=()
def tw1986770287279050587:=()
def tw18026268148393723010:=()
end PySem.W.Fast
open PySem PySem.W PyProof.Rows
set_option maxRecDepth 100000 in
set_option maxHeartbeats 0 in
theorem PySem.Challenge.cw_purseweb_k04_whole_webs_read_holds : PySem.Challenge.rw_purseweb_k04_whole_webs_read.Holds := by
 w_on;o_law;k_head;(case hw=>w_witness2)
 k_fill
 refine VL.law_walk (l:=ir) (D:=PW.D_law) (x:="_law_script") 8 rfl rfl ⟨rfl,by decide,by decide,rfl⟩ PW.law_true (λw h Y=>PySem.W.kIn_of Y) ?F
 case F=>
  intro w mg fa h KX G hmg
  refine' PW.all_mk KX G hmg ?B ?Z0 ?Z1 ?Z2 ?Z3 ?d0 ?d1 ?d2 ?d3 ?d4 ?d5 ?d6 ?d7 ?d8 ?d9 ?d10 ?d11 ?d12 ?d13 ?d14 ?d15 ?d16 ?d17 ?d18 ?d19 ?d20 ?qNoWeb ?qApart ?qNoText ?qNoOrder ?qTooMany ?qNotSettled ?qNoTree ?qNoTotal ?qNoEnds ?qNoRow ?qNoName ?qB ?xB ?g1 ?g2 ?g3 ?iW ?lW ?cW ?kW ?eW ?sW ?vW ?uW ?hW ?bW ?nW ?x1W ?x4W ?x5W ?x6W ?x7W ?x8W ?tNoWebW ?tApartW ?tNoTextW ?tNoOrderW ?tTooManyW ?tNotSettledW ?tNoTreeW ?tNoTotalW ?tNoEndsW ?tNoRowW ?tNoNameW ?iA ?lA ?cA ?kA ?eA ?sA ?vA ?uA ?hA ?bA ?nA ?x1A ?x4A ?x5A ?x6A ?x7A ?x8A ?tNoWebA ?tApartA ?tNoTextA ?tNoOrderA ?tTooManyA ?tNotSettledA ?tNoTreeA ?tNoTotalA ?tNoEndsA ?tNoRowA ?tNoNameA ?x0T ?x1T ?x3T ?x4T ?x5T ?x6T ?x7T ?x8T ?tNoWebT ?tApartT ?tNoTextT ?tNoOrderT ?tTooManyT ?tNotSettledT ?tNoTreeT ?tNoTotalT ?tNoEndsT ?tNoRowT ?tNoNameT
  case B=>constructor<;>(refine PySem.W.mg_none_of KX G ?_;k_is)
  case Z1 | Z2 | Z3=>(refine' PW.cst_mk KX G ?y;(case y=>k_is))
  case Z0=>(refine' PW.cstS_mk KX G ?y;(case y=>k_is))
  case d0 | d1 | d2 | d3 | d4 | d5 | d6 | d7 | d8 | d9 | d10 | d11 | d12 | d13 | d14 | d15 | d16 | d17 | d18 | d19 | d20=>(refine' L2.def_mk KX G ?a ?l ?c ?k;(case a=>k_is);(case l=>k_is);(case c=>k_is);(case k=>k_is))
  (case qNoWeb=>k_is)
  (case qApart=>k_is)
  (case qNoText=>k_is)
  (case qNoOrder=>k_is)
  (case qTooMany=>k_is)
  (case qNotSettled=>k_is)
  (case qNoTree=>k_is)
  (case qNoTotal=>k_is)
  (case qNoEnds=>k_is)
  (case qNoRow=>k_is)
  (case qNoName=>k_is)
  (case qB=>k_is)
  (case xB=>kernel_rfl)
  (case g1=>kernel_rfl)
  (case g2=>kernel_rfl)
  (case g3=>kernel_rfl)
  (case iW=>k_is)
  (case lW=>k_is)
  (case cW=>k_is)
  (case kW=>k_is)
  (case eW=>kernel_rfl)
  (case sW=>k_is)
  (case vW=>kernel_rfl)
  (case uW=>kernel_rfl)
  (case hW=>kernel_rfl)
  (case bW=>kernel_rfl)
  (case nW=>k_is)
  (case x1W=>kernel_rfl)
  (case x4W=>k_is)
  (case x5W=>k_is)
  (case x6W=>k_is)
  (case x7W=>k_is)
  (case x8W=>kernel_rfl)
  (case tNoWebW=>kernel_rfl)
  (case tApartW=>kernel_rfl)
  (case tNoTextW=>kernel_rfl)
  (case tNoOrderW=>kernel_rfl)
  (case tTooManyW=>kernel_rfl)
  (case tNotSettledW=>kernel_rfl)
  (case tNoTreeW=>kernel_rfl)
  (case tNoTotalW=>kernel_rfl)
  (case tNoEndsW=>kernel_rfl)
  (case tNoRowW=>kernel_rfl)
  (case tNoNameW=>kernel_rfl)
  (case iA=>k_is)
  (case lA=>k_is)
  (case cA=>k_is)
  (case kA=>k_is)
  (case eA=>kernel_rfl)
  (case sA=>k_is)
  (case vA=>kernel_rfl)
  (case uA=>kernel_rfl)
  (case hA=>kernel_rfl)
  (case bA=>kernel_rfl)
  (case nA=>k_is)
  (case x1A=>kernel_rfl)
  (case x4A=>k_is)
  (case x5A=>k_is)
  (case x6A=>k_is)
  (case x7A=>k_is)
  (case x8A=>kernel_rfl)
  (case tNoWebA=>kernel_rfl)
  (case tApartA=>kernel_rfl)
  (case tNoTextA=>kernel_rfl)
  (case tNoOrderA=>kernel_rfl)
  (case tTooManyA=>kernel_rfl)
  (case tNotSettledA=>kernel_rfl)
  (case tNoTreeA=>kernel_rfl)
  (case tNoTotalA=>kernel_rfl)
  (case tNoEndsA=>kernel_rfl)
  (case tNoRowA=>kernel_rfl)
  (case tNoNameA=>kernel_rfl)
  (case x0T=>k_exc)
  (case x1T=>kernel_rfl)
  (case x3T=>kernel_rfl)
  (case x4T=>k_is)
  (case x5T=>k_is)
  (case x6T=>k_is)
  (case x7T=>k_is)
  (case x8T=>kernel_rfl)
  (case tNoWebT=>kernel_rfl)
  (case tApartT=>kernel_rfl)
  (case tNoTextT=>kernel_rfl)
  (case tNoOrderT=>kernel_rfl)
  (case tTooManyT=>kernel_rfl)
  (case tNotSettledT=>kernel_rfl)
  (case tNoTreeT=>kernel_rfl)
  (case tNoTotalT=>kernel_rfl)
  (case tNoEndsT=>kernel_rfl)
  (case tNoRowT=>kernel_rfl)
  (case tNoNameT=>kernel_rfl)
