import PyProof.Rows.All
import Wide.All
import OpenK.AllK
import Wide.FinOn
import Lean
import PyProof.EqAt
import PyProof.EqKinds
import PyProof.TupleCall
import PyProof.NeKinds
import PyProof.ListMulRoad
import PyProof.WalkInts
import PyProof.ListRange
import KE.KRevIter
import KE.KSortTup
import KE.KDictSum
import PyProof.Rows.SortWalk
import PyProof.ExcInit
import PyProof.InstStoreFacts
import OpenK.KMake
import OpenK.KCls
import PyProof.FString2
import PyProof.TupleOfSeq
import KE.KUnpack
import KE.KMinKey
import PySem.Challenge.RW_purseweb_k73_led_to_a_break_purse
open Option renaming none → aA,bind_some → aV,isSome_iff_exists → cT,map_some → dQ,map_eq_some_iff → gz,isSome_some → lg,isSome_map → mV,getD_none → ml,bind → nB,none → oS,some → ag
open Bool renaming false → aB,true → aC,and_eq_true → bC,false_ne_true → bx,eq_iff_iff → i7,or_true → ip,or_eq_true → kT,and_eq_true_iff → kj,not_eq_true' → mZ
open List renaming range → aD,getD_eq_getElem?_getD → aF,getElem?_eq_getElem → aJ,length_map → aL,mem_singleton → aN,replicate → aQ,mem_cons_of_mem → aR,getElem?_eq_some_iff → aS,size_toArray → aT,getElem?_map → aU,mem_range → aW,mem_cons → aX,length_append → aY,mem_append → ah,map_cons → ak,mem_cons_self → ao,mem_append_right → aq,map_congr_left → ar,getElem?_append_left → au,nodup_cons → aw,mem_append_left → bA,getElem?_append_right → bH,mem_map → bJ,length_cons → bK,map_append → bM,all_eq_true → bN,map_map → bQ,getElem?_set → bS,getElem_mem → bT,lookup_cons → bZ,getElem?_replicate → bc,length_drop → bh,sum_cons → bp,length_take → br,length_range → bt,getElem?_range → bz,take_of_length_le → cB,mem_of_getElem? → cE,nodup_nil → cF,getElem?_eq_none → cK,append_nil → cL,not_mem_nil → cM,mem_filter → cQ,length_set → cR,getElem_of_mem → cq,nodup_append → dJ,take_succ_eq_append_getElem → dM,replicate_succ → dO,find?_cons → dP,length_replicate → dR,length_singleton → dS,zip_cons_cons → dU,getElem?_set_ne → dY,sum_append → di,nodup_range → dt,mem_of_find?_eq_some → eI,range_succ → eQ,getElem?_set_self → fJ,map_nil → fL,contains_cons → fM,find?_eq_none → fQ,count_cons → fT,flatten_cons → fV,append_assoc → fX,exists_mem_of_ne_nil → gH,length_flatMap → gM,getElem?_take_of_lt → gQ,set_eq_of_length_le → gV,of_mem_zip → gZ,mem_filterMap → g8,getElem?_drop → gk,length_eq_zero_iff → gu,drop_eq_nil_of_le → iB,ext_getElem? → iC,range_succ_eq_map → iD,mem_flatMap → iN,ext_getElem → iO,length → iR,mem_iff_getElem → iV,mem_of_mem_take → iX,foldl_cons → i5,filterMap_cons → ie,length_pos_iff → ig,filter_eq_self → ij,mem_map_of_mem → ik,map_set → jA,ne_nil_of_mem → jQ,getElem?_zip_eq_some → jV,all_cons → ja,filterMap_cons_some → jb,length_erase_of_mem → jh,take_length → jq,any_eq_true → js,all_map → kF,length_pos_of_mem → kJ,sum_nil → kK,length_nil → kQ,find?_some → kX,take_append_drop → k6,length_filter_le → k7,mem_of_mem_drop → kg,mem_erase_of_ne → kl,drop_zero → km,filter → kq,any_cons → lT,map_take → lV,map_drop → lY,foldl → la,filter_append → mD,map_replicate → mE,count_eq_zero → mH,flatMap_cons → m9,pairwise_map → ma,filter_congr → md,getElem_inj → me,cons_append → mv,map_flatMap → mw,nil_append → nC,take_zero → n6,take_nil → oA,drop_nil → oB
open PySem.W renaming Frag → aE,findIn → bg,fnOf → cV,kia_one → cZ,codeIn → cy,kitOne → cz,nsIn → dD,looks_findIn → dZ,keepIn → dw,ktsIn → el,InstAt → fD,kla_fn → fu,tabObj → gC,callWith_K → gg,lookIn → gv,tabIn → iQ,kts_cls → i8,mroIn → j7,mg_of → j9,clsIn → jc,cellsFrom_some → jw,envX → kH,mem_of_lookupK → kI,instObj → kO,CodeHd → k8,specialIn → mK,kitx_list → mL,kitx_dict → mM,plainGet → mf,handedIn → mq,takerIn → nI,noTabs → nj,ownOf → oE
open PySem renaming Value → aG,wpAny_bind → aI,Addr → aK,Shared → aM,starEach → aO,wpAny_pure → a9,Str → aj,wpAny → av,Program → ay,Expr → bB,Heap → bR,Around → bU,wpAny_mono → bW,mainGlobals → bX,World → b9,Stmt → ba,foldedSetIterable → bq,wpAny_field → cD,wpAny_loadPart_at → cG,mem_of_lookup → cU,wpAny_Call_Name_kw → cX,behindInMarks → cY,Obj → cg,backTo → ck,wpAny_isSubtype_exc → cu,bootBuiltins → dC,excClassObj → dH,wpAny_newObj_type → dI,wpAny_holding → dW,Pos → da,wpAny_truthy_bool → df,wpAny_callSpecial?_slot → dh,binaryOp → dj,Scope → du,wpAny_seqItems → dy,wpAny_setField_rec → dz,rawInt → eF,compareOp → eJ,swapsWith → eK,wpAny_passesOwn → eM,cLine → eT,FuncData → eU,NameKind → eV,strLen_append → fA,wpAny_call_entry → fE,codeAny_mono → fK,sysModules → fZ,call_meets → fg,IsPair → fj,codeAny_call_builtin → gA,ExcBaseFacts → gD,wpAny_standAt → gO,wpAny_comprehension_free → gU,ExceptHandler → gW,wpAny_execs_nil → gX,codeAny → gY,wpAny_ite_false → g0,wpAny_call → g9,sizeLine_eq → gn,sliceBounds → gs,bindArgs → gx,wpAny_setField → iA,ofString_length → iK,wpAny_execs_cons → iM,wpAny_onRaise → iP,wpAny_updateSeq_pair → iU,wpAny_loadPart' → i6,getAttrByItsOwn → i9,codeAmong → jE,noteFrame → jF,builtinsNs → jG,assignEach → jI,tupleKind_room_in1 → jK,closureFor → jL,newFunctionEnv → jM,Env → jR,wpAny_binaryOp_repeat_ref → jT,attributeBase → j6,noFill_tuple_add → jn,compEnvC → jo,concat_meets → jx,getItem → jy,typeIs_int → kB,Builtin → kD,letOwnedTupleGo → kP,IsZip → kR,wpAny_isTrue_Compare1 → k4,wpAny_loadName_local → k9,wpAny_Expr_any → ka,keywordEach → kb,wpAny_newFunctionEnv → ke,unbindBehindTheSuite → kh,tupleKind → ku,PassesOwn → ky,Arguments → kz,notedBy → lA,wpAny_loadName_cell → lG,seq_tuple_add → lN,wpAny_attempt → lU,isTrue → l3,wpAny_pyIter_tuple → l4,IsPart → l8,wpAny_rule → lj,int_text_length_le → mC,GenState → mI,standAt → mJ,BindsTo → mQ,wpAny_typeOf → mR,seqIndex_neg → mS,valueAt → mU,OwnTail → mX,callerA → m6,cellsFrom → mh,Model → mx,seqIndex_of → my,wpAny_letGo → nA,Keyword → nM,wpAny_Name → nO,CmpOp → nP,Operator → nQ,Result → nS,backToKw → nU,bindL → nV,bindC → nX,atKey → nZ,isInstance → n9,defaultsOf → nh,Str → oJ,Within → oK,pyNext → oN,findBy → oO
open PySem.Heap renaming get?_push_of_some → aH,lt_size → aP,get?_push_size → af,get?_update_other → cA,size_push → cS,SameBut → cj,get?_update_self → cw,get?_none_of_le → dX,get?_update_ne → lM,get?_push_at → mY,ExtBut → mz
open Nat renaming lt_of_lt_of_le → aZ,le_refl → aa,ne_of_lt → az,le_trans → bO,lt_irrefl → bu,le_of_lt → cO,lt_of_le_of_lt → dE,ne_of_gt → dk,zero_le → eY,lt_succ_of_lt → eZ,lt_succ_self → fF,le_add_right → fG,min_eq_left → fS,mod_eq_of_lt → gG,le_succ_of_le → iG,mul_le_mul → iH,le_succ → iT,mul_le_mul_right → iZ,lt_succ_iff_lt_or_eq → jk,min_eq_right → jr,mod_lt → kM,zero_lt_one → kY,add_left_cancel → lJ,mod_eq_sub_mod → mF,mul_comm → mT,lt_trans → mW,sub_zero → m7,strongRecOn → nH
open Option.some renaming inj → bG
open Ne renaming symm → bP
open PySem.F renaming plainAttrs_list → bV,slot_list_append → cH,type_list_append → cI,args_tuple_add_2 → gR,entry_tuple_add → gp,slot_tuple_add → gy,slot_list_insert → jd,type_list_insert → je,slot_list_extend → jf,type_list_extend → jg
open True renaming intro → bY
open PySem.NameKind renaming free → bj,cell → dm
open False renaming elim → bw
open Int renaming toNat_natCast → cC,mul_comm → cP,mul_assoc → c9,le_refl → dq,neg_mul → e7,zero_mul → e8,mul_left_comm → fY,mul_zero → gF,toNat_of_nonneg → gK,mul_nonneg → iI,add_zero → jB,natAbs_mul → jO,emod_lt_of_pos → jP,eq_of_mul_eq_mul_left → jW,mul_sub → j4,mul_fdiv_cancel_left → ji,emod_nonneg → kZ,add_mul → kf,mul_add → kn,one_mul → ko,toNat → lE,ofNat_inj → lZ,fdiv → n8
open PyProof.Rows renaming callWith_type1 → cJ,slot_tuple_getitem → fB,step_dedup → fH,envOfC → gh,AllBare → jX,IntsAre → jz,subscriptTail_builtinR → kA,seqObj → ly,boot_range → nR,Subscript_ → nY,IsTup → oH
open Classical renaming byContradiction → cN
open PySem.Obj renaming data_mapFields → dG,mapFields → e9,isFreed_of_fields → fU,mapSeq → gj,cls_mapFields → jY
open PySem.Value renaming ref → dN,none → g7,int → jD,type → nN,isStrOf → nu,str → oG
open Array renaming getElem?_eq_some_iff → eB,length_toList → fC,toList_append → gJ,toArray_toList → iY,find?_toList → jJ,toList → oM
open PySem.Builtin.Slice renaming slicePlaces → eG,sliceAdjust → jS
open PySem.PyData renaming int → fO,hasDictAll → jZ,shownAll → kU,showableAll → lz,depthAll → nE,depth → oP,tuple → oQ
open ForInStep renaming yield → fR
open PySem.Builtin.Int renaming intBits → gL
open PySem.Builtin.List renaming listTooLong → gS
open PySem.PassesOwn renaming never → g6
open PySem.Builtin.ObjectAttr renaming ownThenClass → iJ
open PySem.Calls renaming evalArgs_plain → iS,Name_function_global → jH,callWith_builtin → kC,spliced_cons → l6,spliced_nil → mP
open PySem.Challenge renaming pw_purseweb_k73_led_to_a_break_purse → iu,rw_purseweb_k73_led_to_a_break_purse → jC
open PySem.Code renaming quiet_builtin → jN,isFrame → mO
open PySem.Builtin.SmallTypes renaming nextOf → jU
open Or renaming inl → j8,inr → kd
open PySem.Str renaming empty → jm,ofString → kG
open PySem.W.WData renaming weightAll → ju,int → mm
open PySem.Around renaming under → jv,frames_deeper → kc
open PySem.SeqAt renaming EqAt → kE
open PySem.SeqAt.EqAt renaming same → kS,int_int → lu,of_refs → lx
open PySem.Heap.SameBut renaming update → lH
open PyProof.Rows.IsTup renaming new → mj
open Sum renaming inl → nJ,inr → nK
open List.Perm renaming refl → nt
open PySem.IsRange renaming new → oR
open PySem.Shared renaming heap → oU
theorem oX.{u}{c:Prop}{h:Decidable c}(b:c){a:Sort u}{t e:a}:ite c t e=t:=if_pos b
theorem oY.{u}{c:Prop}{h:Decidable c}(b:Not c){a:Sort u}{t e:a}:ite c t e=e:=if_neg b
noncomputable section
set_option Elab.async false
set_option linter.all false
set_option maxRecDepth 100000
namespace L2
open PySem PySem.Spec PyProof.Rows
abbrev YR:=Sum Int aj
noncomputable def NL:YR->aG->Bool
 | .inl k,v=>aG.isInt k v
 | .inr x,v=>nu x v
noncomputable def Zk6(w:b9):YR->Int
 | .inl k=>hashInt k
 | .inr x=>hashStr w x
theorem Ym:∀{k:YR}{v:aG},NL k v=aC->(∃i t,k=nJ i/\v=jD i t)\/(∃x t,k=nK x/\v=oG x t)
 | .inl i,v,h=>by obtain⟨t,e⟩:=aG.isInt_shape h;exact .inl ⟨i,t,rfl,e⟩
 | .inr x,v,h=>by obtain⟨t,e⟩:=aG.isStrOf_shape h;exact .inr ⟨x,t,rfl,e⟩
theorem F3(i:Int)(t:Tok):NL (.inl i) (.int i t)=aC:=by simp[NL,aG.isInt]
theorem F4(x:aj)(t:Tok):NL (.inr x) (.str x t)=aC:=by simp[NL,nu]
theorem Ze5(a b:Int):decide ((nJ a:YR)=nJ b)=(a==b):=by grind
theorem Ze6(a b:aj):decide ((nK a:YR)=nK b)=decide (a=b):=by simp
theorem Ze7(a:Int)(b:aj):decide ((nJ a:YR)=nK b)=aB:=decide_eq_false (λq=>nomatch q)
theorem Ze8(a:aj)(b:Int):decide ((nK a:YR)=nJ b)=aB:=decide_eq_false (λq=>nomatch q)
noncomputable def Yv(prog:ay)(w:b9):PySem.KeyKind prog w YR where
 is:=NL
 hash:=Zk6 w
 inj:=λv a b ha hb=>by
  rcases Ym ha with⟨i,t,rfl,rfl⟩ | ⟨x,t,rfl,rfl⟩
  ·rcases Ym hb with⟨j,u,rfl,e⟩ | ⟨y,u,rfl,e⟩
   ·injection e with e1 _;rw[e1]
   ·exact nomatch e
  ·rcases Ym hb with⟨j,u,rfl,e⟩ | ⟨y,u,rfl,e⟩
   ·exact nomatch e
   ·injection e with e1 _;rw[e1]
 byValue:=λk v h=>by rcases Ym h with⟨i,t,rfl,rfl⟩ | ⟨x,t,rfl,rfl⟩<;>rfl
 pyHash:=λhv h=>by
  rcases Ym hv with⟨i,t,rfl,rfl⟩ | ⟨x,t,rfl,rfl⟩
  ·exact wpAny_pyHash_int h
  ·exact wpAny_pyHash_str h
 eqBool:=λhu hv h=>by
  rcases Ym hu with⟨i,t,rfl,rfl⟩ | ⟨x,t,rfl,rfl⟩
  ·rcases Ym hv with⟨j,u,rfl,rfl⟩ | ⟨y,u,rfl,rfl⟩
   ·rw[Ze5] at h;exact wpAny_eqBool_int h
   ·rw[Ze7] at h;exact kE.int_str i t y u _ _ _ _ h
  ·rcases Ym hv with⟨j,u,rfl,rfl⟩ | ⟨y,u,rfl,rfl⟩
   ·rw[Ze8] at h;exact kE.str_int x t j u _ _ _ _ h
   ·rw[Ze6] at h;exact wpAny_eqBool_str h
 «strs»:=λk x t v h=>by
  rcases Ym h with⟨i,u,rfl,e⟩ | ⟨y,u,rfl,e⟩
  ·exact nomatch e
  ·injection e with e1 _;subst e1;cases v<;>rfl
theorem Kh(prog:ay)(w:b9)(i:Int)(t:Tok):(Yv prog w).is (.inl i) (.int i t)=aC:=F3 i t
theorem Ki(prog:ay)(w:b9)(x:aj)(t:Tok):(Yv prog w).is (.inr x) (.str x t)=aC:=F4 x t
inductive V where
 | non | bl (b:Bool) | int (i:Int) | str (x:aj) | byt (b:Array UInt8) | flt (b:UInt64) | ref (a:aK) | ty (n:String)
 deriving DecidableEq
noncomputable def RelV:V->aG->Prop
 | .non,u=>u=g7
 | .bl b,u=>u=aG.bool b
 | .int i,u=>∃t,u=jD i t
 | .str x,u=>∃t,u=oG x t
 | .byt b,u=>∃t,u=aG.bytes b t
 | .flt b,u=>∃t,u=aG.float b t
 | .ref a,u=>u=dN a
 | .ty n,u=>u=nN n
abbrev Vals:List V->List aG->Prop:=Paired RelV
theorem Vals.length{xs:List V}{a:List aG}(r:Vals xs a):xs.length=a.length:=Paired.length r
theorem Vals.get:∀{xs:List V}{us:List aG}{i:Nat}{x:V},Vals xs us->xs[i]?=ag x->∃u,us[i]?=ag u/\RelV x u
 | _,_,_,_,.nil,e=>by simp at e
 | _,_,0,_,.cons r _,e=>by simp at e;subst e;exact⟨_,rfl,r⟩
 | _,_,i+1,x,.cons _ t,e=>by obtain⟨u,b,a⟩:=Vals.get (i:=i) (x:=x) t (by simpa using e);exact⟨u,by simpa using b,a⟩
theorem Vals.set{x:V}{u:aG}(r:RelV x u):∀{xs:List V}{us:List aG}(i:Nat),Vals xs us->Vals (xs.set i x) (us.set i u)
 | _,_,_,.nil=>.nil
 | _,_,0,.cons _ t=>.cons r t
 | _,_,i+1,.cons q t=>.cons q (Vals.set r i t)
theorem Vals.append:∀{xs ys:List V}{us ws:List aG},Vals xs us->Vals ys ws->Vals (xs++ys) (us++ws)
 | _,_,_,_,.nil,s=>s
 | _,_,_,_,.cons r t,s=>.cons r (Vals.append t s)
theorem Vals.take:∀{xs:List V}{us:List aG}(n:Nat),Vals xs us->Vals (xs.take n) (us.take n)
 | _,_,0,_=>.nil
 | _,_,_+1,.nil=>.nil
 | _,_,n+1,.cons r t=>.cons r (Vals.take n t)
theorem Vals.drop:∀{xs:List V}{us:List aG}(n:Nat),Vals xs us->Vals (xs.drop n) (us.drop n)
 | _,_,0,r=>r
 | _,_,_+1,.nil=>.nil
 | _,_,n+1,.cons _ t=>Vals.drop n t
noncomputable def RelO:Option V->Option aG->Prop
 | some v,ag u=>RelV v u
 | none,aA=>True
 | _,_=>False
noncomputable def KV{κ:Type}:List (κ×V)->List (κ×aG)->Prop:=Paired λ(p:κ×V) (q:κ×aG)=>p.1=q.1/\RelV p.2 q.2
noncomputable def kV:YR->V
 | .inl i=>.int i
 | .inr x=>.str x
inductive HO where
 /-- a list -/
 | lst (xs:List V)
 /-- a tuple (never changes) -/
 | tup (xs:List V)
 /-- a dict whose keys are ints and texts;one whose keys are tuples of ints and texts (the empty one is both) -/
 | dK (o5:List (YR×V)) | dT (o5:List (List YR×V))
 /-- a set of ints: oW members,oW size -/
 | set (S:Int->Bool) (n:Nat)
 /-- an instance of the class at C,oW dict at dx,oW attributes -/
 | ins (C dx:aK) (fs:List (aj×V))
 /-- the dict of the instance at x -/
 | own (x:aK)
 /-- the dict of an exception -/
 | xd (fs:List (aj×V))
 /-- a bound method,f of x -/
 | met (f x:aK)
 /-- a range object lo,lo+1,.. below hi -/
 | rng (lo hi:Int)
 /-- a thing that is known to the object (the script;a dict while a loop walks it): read,never written while it is so -/
 | frz (o:cg) (u:HO)
 /-- a code object's table -/
 | tbl (ps:Array aG)
 /-- any other thing,by what is aC of oW one object (a def of one's own: SetO a S n:=HO.ext λh=>..) -/
 | ext (φ:bR->Prop)
abbrev Hp:=aK->Option HO
noncomputable def upd(H:Hp)(a:aK)(o:HO):Hp:=λb=>if b=a then ag o else H b
theorem Zl{H:Hp}{a:aK}{o:HO}:upd H a o a=ag o:=by unfold upd;rw[oX rfl]
theorem upd_ne{H:Hp}{a b:aK}{o:HO}(h:b≠a):upd H a o b=H b:=by unfold upd;rw[oY h]
theorem Zh9{H:Hp}{a b:aK}{o u:HO}(h:H a=ag o)(h':H b=ag u)(d:o≠u):a≠b:=by grind
theorem Zn{H:Hp}{a b:aK}{o:HO}(h:H a=ag o)(h':H b=aA):a≠b:=by grind
noncomputable def QN(x:aj):Bool:=x=="tree_of" || x=="still_by" || x=="made_of"
noncomputable def Pp(x:aj):aj:=x++".<locals>."++"<lambda>"
noncomputable def J5(o:cg)(q:aj):Prop:=∃vs t,o.data = .fields vs/\vs[1]?=ag (.str q t)
noncomputable def Zia(q:aj)(H:Hp)(ps:List aG):Prop:=TriplesOk ps/\∀pos v,jE pos ps=ag v->∃c o,v = .ref c/\H c=ag (.frz o (.own 0))/\J5 o q
theorem Pq{h:bR}{T:aG}{xs:Array aG}{n:Nat}{o:cg}(e:(h.push { cls:=T,data:=.seq xs n }).get? h.objs.size=ag o):o.dict=aA:=by rw[af _ rfl] at e;cases e;rfl
section
variable (P:ay) (w:b9)
noncomputable def ObjOk(H:Hp)(h:bR)(a:aK):HO->Prop
 | .lst xs=>xs.length<=sizeLine/\∃(oW:List aG) (n:Nat),Vals xs oW/\h.get? a=ag { cls:=.type "list",data:=.seq oW.toArray n }
 | .tup xs=>(xs.length<=sizeLine/\∀o,h.get? a=ag o->o.dict=aA)/\∃oW:List aG,Vals xs oW/\oH h a oW.toArray
 | .dK o5=>o5.length<=sizeLine/\(a==fZ)=aB/\∃vs,KV o5 vs/\h.DictOf (Yv P w) a vs
 | .dT o5=>o5.length<=sizeLine/\(a==fZ)=aB/\∃xs:List (List YR×aK×aG),
   Paired (λ(p:List YR×V) (q:List YR×aK×aG)=>p.1=q.1/\H q.2.1=ag (.tup (p.1.map kV))/\RelV p.2 q.2.2) o5 xs/\
   ∃o es ep,h.get? a=ag o/\o.ExactDict/\o.data = .dict es ep/\es.toList=xs.map (entryOfKey (ku (Yv P w)))/\(xs.map (·.1)).Nodup
 | .set S n=>h.SetOf (intKind P w) a S n
 | .ins C dx fs=>H dx=ag (.own a)/\fs.length<=1000/\dx≠a/\h.get? a=ag (kO C dx)/\
   ∃mA,h.Ns1 dx mA/\(∀f,RelO (fs.lookup f) (mA f))/\oK mA (fs.map (·.1))
 | .own _=>∃o,h.get? a=ag o
 | .xd fs=>∃mA,h.Ns1 a mA/\∀f,RelO (fs.lookup f) (mA f)
 | .rng lo hi=>∃t u v,h.get? a=ag { cls:=.type "range",data:=.fields #[.int lo t,.int hi u,.int 1 v] }
 | .frz o u=>h.get? a=ag o/\ObjOk H h a u
 | .tbl ps=>∃(q:aj) (t:Tok) (ps':Array aG),ps[0]?=ag (.str q t)/\h.get? a=ag { cls:=.none,data:=.fields ps' }/\Zia q H ps'.toList
 | .met f x=>h.get? a=ag (PySem.W.methodObj (.ref f) (.ref x))
 | .ext φ=>φ h/\(∃o,h.get? a=ag o)/\∀h1 h2:bR,φ h1->(∀o,h1.get? a=ag o->h2.get? a=ag o)->φ h2
noncomputable def HOk(H:Hp)(h:bR):Prop:=∀a o,H a=ag o->ObjOk P w H h a o
end
section
variable {P:ay} {w:b9} {H H':Hp} {h h':bR} {a:aK} {o:HO}
theorem ObjOk.lt(x:ObjOk P w H h a o):a<h.objs.size:=by
 cases o with
 | lst xs=>obtain⟨_,_,_,_,e⟩:=x;exact aP e
 | tup xs=>obtain⟨_,_,_,p⟩:=x;exact p.lt
 | dK o5=>obtain⟨_,_,_,_,o,_,_,e,_⟩:=x;exact aP e
 | dT o5=>obtain⟨_,_,_,_,o,_,_,e,_⟩:=x;exact aP e
 | set S n=>obtain⟨o,_,_,_,e,_⟩:=x;exact aP e
 | ins C dx fs=>obtain⟨_,_,_,e,_⟩:=x;exact aP e
 | own y=>obtain⟨_,e⟩:=x;exact aP e
 | xd fs=>obtain⟨_,⟨_,_,_,e,_⟩,_⟩:=x;exact aP e
 | rng lo hi=>obtain⟨_,_,_,e⟩:=x;exact aP e
 | frz ob u=>obtain⟨e,_⟩:=x;exact aP e
 | tbl ps=>obtain⟨_,_,_,_,e,_⟩:=x;exact aP e
 | met f y=>exact aP (show h.get? a=ag _ from x)
 | ext φ=>obtain⟨_,⟨_,e⟩,_⟩:=x;exact aP e
theorem Paired.mapP{c d:Type}{F G:c->d->Prop}:∀{l₁:List c}{l₂:List d},Paired F l₁ l₂->(∀a b,F a b->G a b)->Paired G l₁ l₂
 | _,_,.nil,_=>.nil
 | _,_,.cons r t,f=>.cons (f _ _ r) (Paired.mapP t f)
theorem ObjOk.stay(x:ObjOk P w H h a o)(k:∀b u,(b=a\/H b=ag (.own a))->h.get? b=ag u->h'.get? b=ag u)
  (I:∀b,H b=ag (.own a)->H' b=ag (.own a)) (E:∀b xs,H b=ag (.tup xs)->H' b=ag (.tup xs)) (N:∀b u,H b=ag (.frz u (.own 0))->H' b=ag (.frz u (.own 0))):ObjOk P w H' h' a o:=by
 induction o with
 | lst xs=>obtain⟨z,l,n,r,e⟩:=x;exact⟨z,l,n,r,k _ _ (.inl rfl) e⟩
 | tup xs=>obtain⟨z,l,r,g,e,c⟩:=x;exact⟨⟨z.1,λo q=>by rw[k _ _ (.inl rfl) e] at q;cases q;exact z.2 _ e⟩,l,r,g,k _ _ (.inl rfl) e,c⟩
 | dK o5=>obtain⟨z,y,vs,r,g,i,ep,e,c⟩:=x;exact⟨z,y,vs,r,g,i,ep,k _ _ (.inl rfl) e,c⟩
 | dT o5=>
  obtain⟨z,y,xs,r,g,i,ep,e,c⟩:=x;exact⟨z,y,xs,Paired.mapP r λp q z=>⟨z.1,E _ _ z.2.1,z.2.2⟩,g,i,ep,k _ _ (.inl rfl) e,c⟩
 | set S n=>obtain⟨g,i,ep,t,e,c⟩:=x;exact⟨g,i,ep,t,k _ _ (.inl rfl) e,c⟩
 | ins C dx fs=>
  obtain⟨d,z,ne,e,j,⟨B,i,ep,m,c⟩,r⟩:=x;exact⟨I _ d,z,ne,k _ _ (.inl rfl) e,j,⟨B,i,ep,k _ _ (.inr d) m,c⟩,r⟩
 | own y=>obtain⟨g,e⟩:=x;exact⟨g,k _ _ (.inl rfl) e⟩
 | xd fs=>obtain⟨j,⟨B,i,ep,e,c⟩,r⟩:=x;exact⟨j,⟨B,i,ep,k _ _ (.inl rfl) e,c⟩,r⟩
 | rng lo hi=>obtain⟨t,u,v,e⟩:=x;exact⟨t,u,v,k _ _ (.inl rfl) e⟩
 | frz g u ih=>obtain⟨e,q⟩:=x;exact⟨k _ _ (.inl rfl) e,ih q⟩
 | tbl ps=>
  obtain⟨q,t,A,L,e,D,M⟩:=x;refine⟨q,t,A,L,k a _ (.inl rfl) e,D,λs v J=>?_⟩;obtain⟨c,o,F,m,G⟩:=M s v J;exact⟨c,o,F,N c o m,G⟩
 | met f y=>
  have e:=x;exact k a _ (.inl rfl) e
 | ext φ=>obtain⟨p,⟨o,e⟩,st⟩:=x;exact⟨st _ _ p λo q=>k _ _ (.inl rfl) q,⟨o,k _ _ (.inl rfl) e⟩,st⟩
theorem HOk.lt(x:HOk P w H h)(e:H a=ag o):a<h.objs.size:=(x a o e).lt
theorem HOk.fresh(x:HOk P w H h)(e:h.objs.size<=a):H a=aA:=by
 cases q:H a with
 | none=>rfl
 | some u=>exact absurd (aZ (x.lt q) e) (bu _)
theorem HOk.kept(x:HOk P w H h)(k:∀b u,h.get? b=ag u->h'.get? b=ag u):HOk P w H h':=λa o e=>
 (x a o e).stay (λb u _ q=>k b u q) (λ_ q=>q) (λ_ _ q=>q) λ_ _ q=>q
theorem HOk.laid(x:HOk P w H h)(k:∀b u,h.get? b=ag u->h'.get? b=ag u)(g:h.objs.size<=a)(new:ObjOk P w (upd H a o) h' a o):HOk P w (upd H a o) h':=λb u e=>by
 have d:=x.fresh g;by_cases f:b=a
 ·subst f;rw[Zl] at e;cases e;exact new
 ·rw[upd_ne f] at e;exact(x b u e).stay (λc v _ q=>k c v q) (λc q=>by rw[upd_ne (Zn q d)];exact q) (λc xs q=>by rw[upd_ne (Zn q d)];exact q) λc u q=>by rw[upd_ne (Zn q d)];exact q
end
noncomputable def Rd(H:Hp)(a:aK)(u:HO):Prop:=H a=ag u\/∃o,H a=ag (.frz o u)
theorem Rd.ok{P:ay}{w:b9}{H:Hp}{h:bR}{a:aK}{u:HO}(r:Rd H a u)(x:HOk P w H h):ObjOk P w H h a u:=by
 rcases r with r | ⟨o,r⟩
 ·exact x a u r
 ·obtain⟨_,q⟩:=x a _ r;exact q
noncomputable def Uq:Option HO->Prop
 | some (.lst _)=>True
 | some (.dK _)=>True
 | some (.dT _)=>True
 | some (.set _ _)=>True
 | some (.ins _ _ _)=>True
 | some (.ext _)=>True
 | _=>False
section
variable {P:ay} {w:b9} {H:Hp} {h h':bR} {x e:aK} {o':HO}
theorem HOk.write(ok:HOk P w H h)(f:Uq (H x))(n:e=x\/H e=ag (.own x))(k:∀b u,b≠e->h.get? b=ag u->h'.get? b=ag u)(l:∃u,h'.get? e=ag u)
  (new:ObjOk P w (upd H x o') h' x o'):HOk P w (upd H x o') h':=λb u q=>by
 have d:∀c y,H c=ag (.own y)->c≠x:=λc y r z=>by subst z;rw[r] at f;exact f
 have g:∀c xs,H c=ag (.tup xs)->c≠x:=λc xs r z=>by subst z;rw[r] at f;exact f
 by_cases j:b=x
 ·subst j;rw[Zl] at q;cases q;exact new
 ·rw[upd_ne j] at q;by_cases a:b=e
  ·have m:H b=ag (.own x):=by
    rcases n with z | z
    ·exact absurd (a.trans z) j
    ·rw[a];exact z
   rw[q] at m;cases m;obtain⟨v,o⟩:=l;exact⟨v,by rw[a];exact o⟩
  ·refine(ok b u q).stay (λc v i r=>k c v ?_ r) (λc r=>by rw[upd_ne (d c b r)];exact r) (λc xs r=>by rw[upd_ne (g c xs r)];exact r) λc v r=>by rw[upd_ne (λz=>by subst z;rw[r] at f;exact f)];exact r
   rcases i with rfl | i
   ·exact a
   ·rintro rfl;rcases n with z | z
    ·exact d c b i z
    ·rw[i] at z;cases z;exact j rfl
end
structure Un(fs ex:List aK)(H H':Hp)(h h':bR):Prop where
 keep:∀b o,h.get? b=ag o->H b=aA->b∉fs->b∉ex->h'.get? b=ag o
 slot:∀b o,h.get? b=ag o->H b=aA->b∈fs->b∉ex->∃sl,h'.get? b=ag { o with slots:=sl }
 free:∀b o,h.get? b=ag o->H b=aA->b∉ex->H' b=aA
 there:∀b o,h.get? b=ag o->b∉ex->∃o',h'.get? b=ag o'
 tups:∀b xs,H b=ag (.tup xs)->H' b=ag (.tup xs)
 frzs:∀b o u,H b=ag (.frz o u)->H' b=ag (.frz o u)
 tbls:∀b ps,H b=ag (.tbl ps)->∃more,H' b=ag (.tbl (ps++more))
section
variable {fs fs' ex ex':List aK} {H H1 H2:Hp} {h h1 h2 h':bR} {a x e:aK} {o:HO}
theorem Un.any(u:Un fs ex H H1 h h1){b:aK}{a:cg}(q:h.get? b=ag a)(n:H b=aA)(c:b∉ex):∃sl,h1.get? b=ag { a with slots:=sl }:=by
 by_cases d:b∈fs
 ·exact u.slot b a q n d c
 ·exact⟨a.slots,u.keep b a q n d c⟩
theorem Un.kept(k:∀b u,h.get? b=ag u->h'.get? b=ag u):Un fs ex H H h h':=
 ⟨λb a q _ _ _=>k b a q,λb a q _ _ _=>⟨a.slots,k b a q⟩,λ_ _ _ n _=>n,λb a q _=>⟨a,k b a q⟩,λ_ _ q=>q,λ_ _ _ q=>q,λ_ c q=>⟨#[],by rw[q];simp⟩⟩
theorem Un.refl:Un fs ex H H h h:=Un.kept λ_ _ q=>q
theorem Un.laid(k:∀b u,h.get? b=ag u->h'.get? b=ag u)(d:h.objs.size<=a)(c:H a=aA):Un fs ex H (upd H a o) h h' where
 keep:=λb u q _ _ _=>k b u q
 slot:=λb u q _ _ _=>⟨u.slots,k b u q⟩
 free:=λb u q n _=>by rw[upd_ne (az (aZ (aP q) d))];exact n
 there:=λb u q _=>⟨u,k b u q⟩
 tups:=λb xs q=>by rw[upd_ne (Zn q c)];exact q
 frzs:=λb u xs q=>by rw[upd_ne (Zn q c)];exact q
 tbls:=λb e q=>⟨#[],by rw[upd_ne (Zn q c),q];simp⟩
theorem Un.write(c:Uq (H x))(j:e=x\/H e=ag (.own x))(k:∀b u,b≠e->h.get? b=ag u->h'.get? b=ag u)(f:∃u,h'.get? e=ag u):Un fs ex H (upd H x o) h h':=by
 have g:∀b,H b=aA->b≠x:=λb n z=>by subst z;rw[n] at c;exact c
 have i:∀b,H b=aA->b≠e:=λb n z=>by
  subst z;rcases j with r | r
  ·exact g b n r
  ·rw[n] at r;cases r
 have d:∀b u,H b=ag u->¬Uq (ag u)->b≠x:=λb u q nm z=>by subst z;rw[q] at c;exact nm c
 refine⟨λb u q n _ _=>k b u (i b n) q,λb u q n _ _=>⟨u.slots,k b u (i b n) q⟩,λb u q n _=>by rw[upd_ne (g b n)];exact n,λb u q _=>?_,
  λb xs q=>by rw[upd_ne (d b _ q λz=>z)];exact q,λb u xs q=>by rw[upd_ne (d b _ q λz=>z)];exact q,λb l q=>⟨#[],by rw[upd_ne (d b _ q λz=>z),q];simp⟩⟩
 by_cases a:b=e
 ·subst a;exact f
 ·exact⟨u,k b u a q⟩
end
noncomputable def TabsH(K:aE)(mg:aj->Option aG)(base:bR)(H:Hp):Prop:=∀(q:aj)(c:aK),QN q=aC->cy K (.ref c) q=aC->
 ∃Pt ps t,k8 base c Pt/\H Pt=ag (.tbl ps)/\ps[0]?=ag (.str (Pp q) t)/\base.BuiltinsAt mg Pt
theorem TabsH.un{K:aE}{mg:aj->Option aG}{base:bR}{fs f:List aK}{H e:Hp}{h h':bR}(t:TabsH K mg base H)(u:Un fs f H e h h'):TabsH K mg base e:=λq c m k=>by
 obtain⟨Pt,d,tk,i,g,a,j⟩:=t q c m k;obtain⟨more,l⟩:=u.tbls Pt d g
 have b:0<d.size:=by
  cases z:d.size with
  | zero=>rw[Array.getElem?_eq_none (by omega)] at a;cases a
  | succ n=>omega
 exact⟨Pt,_,tk,i,l,by rw[Array.getElem?_append_left b];exact a,j⟩
noncomputable def trk(h:bR)(H:Hp):List aK:=(aD h.objs.size).filter λa=>(H a).isSome
noncomputable def MD(h:bR)(H:Hp):bR:=PySem.W.hideAll h (trk h H)
theorem F5(h:bR)(H:Hp):(MD h H).objs.size=h.objs.size:=PySem.W.hideAll_size _ _
theorem DR{h:bR}{H:Hp}{b:aK}{o:cg}(e:h.get? b=ag o)(n:H b=aA):(MD h H).get? b=ag o:=
 PySem.W.hideAll_get _ e λa=>by have q:=(cQ.mp a).2;rw[n] at q;simp at q
theorem Zaa{h:bR}{H:Hp}{b:aK}{o:cg}(e:(MD h H).get? b=ag o):h.get? b=ag o/\H b=aA:=by
 have a:=PySem.W.of_hideAll (trk h H) e;refine⟨a,?_⟩
 cases q:H b with
 | none=>rfl
 | some x=>
  have c:b∈trk h H:=cQ.mpr ⟨aW.mpr (aP a),by simp[q]⟩;have z:(MD h H).get? b=aA:=PySem.W.hideAll_none (trk h H) c;rw[z] at e;cases e
noncomputable def Zab(g h:bR)(L:aK):List (aK×cg):=(aD h.objs.size).filterMap λa=>if a=L\/(g.get? a).isSome=aC then aA else(h.get? a).map λo=>(a,o)
noncomputable def o6(g h:bR)(L d:aK):List (aK×cg):=(Zab g h L).filter λp=>decide (p.1≠d)
structure Mod(K:aE)(mg:aj->Option aG)(base:bR):Prop where
 kin:K.In base
 glob:base.Ns bX mg
 blt:∃mb,base.Ns jG mb/\∀x:aj,x≠"__name__"->mb x=dC x
 nolimit:base.NoLimit
structure Cx where
 prog:ay
 w:b9
 K:aE
 mg:aj->Option aG
 base:bR
 A:bU
 N:List aj
 s₀:aM
 H₀:Hp
 env:jR
 outer:List jR
 stack:List jR
 ex:List aK
 fn:aj->Bool
 calm:Bool
 pn:List (aK×cg)
 xe:aG->aM->Prop
noncomputable def Nx(l:List jR):List aK:=l.filterMap (·.frame)
abbrev Cx.fs(X:Cx):List aK:=Nx X.outer
noncomputable def Vis(sc:du)(x:aj):Prop:=sc.names.lookup x=ag .local\/sc.names.lookup x=ag .cell\/sc.names.lookup x=ag .free
noncomputable def DS(sc:du)(x:aj):Prop:=sc.names.lookup x=ag .local\/sc.names.lookup x=ag .cell
noncomputable def Zk7(env:jR)(h:bR)(m:aj->Option aG)(x:aj)(u:aG):Prop:=
 (env.kindOf x=ag .local/\m x=ag u)\/((env.kindOf x=ag .cell\/env.kindOf x=ag .free)/\∃c,env.cells.lookup x=ag c/\h.IsCell c (ag u))
structure Cx.Ok(X:Cx):Prop where
 mod:Mod X.K X.mg X.base
 kind:X.env.scope.kind = .function
 glob:X.env.globals=bX
 blt:X.env.builtins=jG
 above:X.s₀.heap.objs.size<=X.env.locals
 inj:∀x y c,X.env.cells.lookup x=ag c->X.env.cells.lookup y=ag c->x=y
 has:∀x,(X.env.kindOf x=ag .cell\/X.env.kindOf x=ag .free)->∃c,X.env.cells.lookup x=ag c
 cab:∀x c,X.fn x=aC->X.env.cells.lookup x=ag c->X.s₀.heap.objs.size<=c
 hd:X.calm=aC->X.A.handled=aA
 frames:X.A.frames=ag X.stack
 stk:X.stack=X.outer\/(X.stack=X.env::X.outer/\X.env.frame=ag X.env.locals)
 exf:∀b∈X.ex,b≠X.env.locals/\∀x c,X.env.cells.lookup x=ag c->c≠b
 bs:∀b o,X.base.get? b=ag o->X.s₀.heap.get? b=ag o/\X.H₀ b=aA
 bsz:X.base.objs.size<=X.s₀.heap.objs.size
 noex:∀b o,X.base.get? b=ag o->b∉X.ex
 exfs:∀b∈X.ex,b∉X.fs
 funs:X.s₀.heap.FunFrames X.base X.outer
 frf:∀b∈X.fs,X.H₀ b=aA
 tab:TabsH X.K X.mg X.base X.H₀
 cod:∀q:aj,X.env.func≠aA->X.env.qual=q++".<locals>."->QN q=aC->cy X.K X.env.code q=aC
structure Inv(X:Cx)(o4:List (aK×cg))(U:List (Option V))(H:Hp)(s:aM):Prop where
 ok:X.Ok
 os:s.os=X.s₀.os
 bare:jX s.gens
 base:Un X.fs X.ex X.H₀ H X.s₀.heap s.heap
 loc:∃m,s.heap.Ns X.env.locals m/\∀(i:Nat)(x:aj)(v:V),X.N[i]?=ag x->U[i]?=ag (ag v)->Vis X.env.scope x->∃u,RelV v u/\Zk7 X.env s.heap m x u
 cell:∀x c,X.env.cells.lookup x=ag c->∃v,s.heap.IsCell c v
 free:H X.env.locals=aA
 freeC:∀x c,X.env.cells.lookup x=ag c->H c=aA
 pin:∀p∈X.pn++o4,s.heap.get? p.1=ag p.2/\H p.1=aA/\p.1≠X.env.locals/\p.1∉X.fs/\∀v,p.2.data≠.cell v
 hok:HOk X.prog X.w H s.heap
 len:U.length=X.N.length
section
variable {X:Cx} {o4:List (aK×cg)} {U:List (Option V)} {H H':Hp} {s:aM} {h':bR}
theorem Cx.Ok.nofr(ok:X.Ok){b:aK}{o:cg}(e:X.base.get? b=ag o):b∉X.fs:=λa=>by have:=(ok.funs.mem a).1;rw[e] at this;cases this
theorem Inv.bs(I:Inv X o4 U H s):∀b o,X.base.get? b=ag o->s.heap.get? b=ag o/\H b=aA:=λb o e=>
 ⟨I.base.keep b o (I.ok.bs b o e).1 (I.ok.bs b o e).2 (I.ok.nofr e) (I.ok.noex b o e),I.base.free b o (I.ok.bs b o e).1 (I.ok.bs b o e).2 (I.ok.noex b o e)⟩
theorem Inv.bk(I:Inv X o4 U H s):∀b o,X.base.get? b=ag o->s.heap.get? b=ag o:=λb o e=>(I.bs b o e).1
theorem Inv.mod(I:Inv X o4 U H s):Mod X.K X.mg X.base:=I.ok.mod
theorem Inv.kIn(I:Inv X o4 U H s):X.K.In s.heap:=I.ok.mod.kin.keeps I.bk
theorem Inv.fr(I:Inv X o4 U H s):∃m,Fr X.base X.env.locals s.heap m:=
 let⟨m,a,_⟩:=I.loc
 ⟨m,a,I.bk,bO I.ok.bsz I.ok.above⟩
theorem Inv.lt(I:Inv X o4 U H s):X.env.locals<s.heap.objs.size:=let⟨_,a,_⟩:=I.loc;a.lt
theorem Inv.sz(I:Inv X o4 U H s):X.s₀.heap.objs.size<=s.heap.objs.size:=bO I.ok.above (cO I.lt)
theorem Inv.nofs(I:Inv X o4 U H s){a:aK}(h:s.heap.objs.size<=a):a∉X.fs:=λc=>by obtain⟨_,o,b,_⟩:=I.ok.funs.mem c;exact absurd (aZ (aP b) (bO I.sz h)) (bu _)
theorem Inv.cne(I:Inv X o4 U H s):∀x c,X.env.cells.lookup x=ag c->c≠X.env.locals:=λx c e z=>by obtain⟨v,o,d,hd⟩:=I.cell x c e;obtain⟨m,⟨g,f,ep,b,a,_⟩,_⟩:=I.loc;rw[z,b] at d;cases d;rw[a] at hd;cases hd
theorem Inv.funs(I:Inv X o4 U H s):s.heap.FunFrames X.base X.outer:=by
 have all:∀(l:List jR),(∀b∈Nx l,b∈X.fs)->X.s₀.heap.FunFrames X.base l->s.heap.FunFrames X.base l:=by
  intro l
  induction l with
  | nil=>intro _ _;trivial
  | cons env r ih=>
   intro hs h;obtain⟨f,⟨L,o,d,j,i,hd⟩,g⟩:=h;have a:L∈X.fs:=hs L (by unfold Nx;rw[ie,d];exact ao);obtain⟨k,e⟩:=I.base.slot L o i (I.ok.frf L a) a λz=>I.ok.exfs L z a;exact⟨f,⟨L,_,d,j,e,hd⟩,ih (λb c=>hs b (by unfold Nx;rw[ie,d];exact aR _ c)) g⟩
 exact all X.outer (λ_ c=>c) I.ok.funs
theorem Inv.stack(I:Inv X o4 U H s):s.heap.FunFrames X.base X.stack:=by
 rcases I.ok.stk with e | ⟨e,b⟩
 ·rw[e];exact I.funs
 ·rw[e];obtain⟨m,a,_⟩:=I.loc;refine .cons (by rw[I.ok.kind];decide) b a ?_ I.funs;exact dX (bO I.ok.bsz I.ok.above)
theorem Inv.stkSub(I:Inv X o4 U H s):∀b∈Nx X.stack,b∈X.env.locals::X.fs:=λb a=>by
 rcases I.ok.stk with e | ⟨e,c⟩
 ·rw[e] at a;exact aR _ a
 ·rw[e] at a;unfold Nx at a;rw[ie,c] at a;exact a
theorem Inv.stkFree(I:Inv X o4 U H s):∀b∈Nx X.stack,H b=aA:=λb a=>by
 rcases aX.mp (I.stkSub b a) with e | a
 ·rw[e];exact I.free
 ·obtain⟨_,o,c,_⟩:=I.ok.funs.mem a;exact I.base.free b o c (I.ok.frf b a) λz=>I.ok.exfs b z a
theorem Inv.step{S:Array mI}{t':Nat}{Z:Drawn}{ch:List aK}(I:Inv X o4 U H s)
  (j:∀b∈ch,(b∈X.ex\/X.s₀.heap.objs.size<=b)/\b≠X.env.locals/\(∀x c,X.env.cells.lookup x=ag c->c≠b)/\∀p∈X.pn++o4,p.1≠b)
  (h:∀b o,b≠X.env.locals->b∉X.fs->b∉ch->s.heap.get? b=ag o->H b=aA->h'.get? b=ag o)
  (y:∀b o,b≠X.env.locals->b∈X.fs->b∉ch->s.heap.get? b=ag o->H b=aA->∃N,h'.get? b=ag { o with slots:=N }) (free:∀b o,b∉ch->s.heap.get? b=ag o->H b=aA->H' b=aA)
  (A:∀b o,b∉ch->s.heap.get? b=ag o->∃J,h'.get? b=ag J)
  (E:∀b xs,H b=ag (.tup xs)->H' b=ag (.tup xs)) (L:∀b o u,H b=ag (.frz o u)->H' b=ag (.frz o u)) (G:∀b M,H b=ag (.tbl M)->∃more,H' b=ag (.tbl (M++more)))
  (W:∀m,s.heap.Ns X.env.locals m->h'.Ns X.env.locals m) (P:HOk X.prog X.w H' h') (Y:jX S) :
  Inv X o4 U H' { s with heap:=h',gens:=S,drawn:=Z,toks:=t' }:=by
 have F:∀b o,X.s₀.heap.get? b=ag o->b≠X.env.locals:=λb o e=>az (aZ (aP e) I.ok.above)
 have w:∀b o,X.s₀.heap.get? b=ag o->b∉X.ex->b∉ch:=λb o e a B=>by
  rcases(j b B).1 with z | z
  ·exact a z
  ·exact absurd (aZ (aP e) z) (bu _)
 have f:∀x c,X.env.cells.lookup x=ag c->∀v,s.heap.IsCell c v->h'.IsCell c v:=λx c e v ⟨o,C,hd⟩=>by
  have g:=λz=>(j c z).2.2.1 x c e rfl;by_cases T:c∈X.fs
  ·obtain⟨N,q⟩:=y c o (I.cne x c e) T g C (I.freeC x c e);exact⟨_,q,hd⟩
  ·exact⟨o,h c o (I.cne x c e) T g C (I.freeC x c e),hd⟩
 refine⟨I.ok,I.os,Y,⟨λb o e n B a=>?_,λb o e n B a=>?_,λb o e n a=>?_,λb o e a=>?_,λb xs e=>E b xs (I.base.tups b xs e),λb o xs e=>L b o xs (I.base.frzs b o xs e),λb M e=>?_⟩,?_,λx c e=>?_,?_,λx c e=>?_,λp Q=>?_,P,I.len⟩
 ·exact h b o (F b o e) B (w b o e a) (I.base.keep b o e n B a) (I.base.free b o e n a)
 ·obtain⟨N,t⟩:=I.base.slot b o e n B a;obtain⟨O,D⟩:=y b _ (F b o e) B (w b o e a) t (I.base.free b o e n a);exact⟨O,D⟩
 ·obtain⟨J,t⟩:=I.base.there b o e a;exact free b J (w b o e a) t (I.base.free b o e n a)
 ·obtain⟨J,t⟩:=I.base.there b o e a;exact A b J (w b o e a) t
 ·obtain⟨m1,t⟩:=I.base.tbls b M e;obtain⟨m2,D⟩:=G b _ t;exact⟨m1++m2,by rw[D,Array.append_assoc]⟩
 ·obtain⟨m,hn,hl⟩:=I.loc;refine⟨m,W m hn,λi x v t D e3=>?_⟩;obtain⟨u,r,l⟩:=hl i x v t D e3;refine⟨u,r,?_⟩;rcases l with l | ⟨k,c,e,z⟩
  ·exact .inl l
  ·exact .inr ⟨k,c,e,f x c e _ z⟩
 ·obtain⟨v,z⟩:=I.cell x c e;exact⟨v,f x c e v z⟩
 ·obtain⟨m,⟨o,_,_,C,_⟩,_⟩:=I.loc;exact free _ o (λz=>(j _ z).2.1 rfl) C I.free
 ·obtain⟨v,o,C,hd⟩:=I.cell x c e;exact free c o (λz=>(j c z).2.2.1 x c e rfl) C (I.freeC x c e)
 ·obtain⟨e,n,ne,R,d⟩:=I.pin p Q;have g:=λz=>(j p.1 z).2.2.2 p Q rfl;exact⟨h p.1 p.2 ne R g e n,free p.1 p.2 g e n,ne,R,d⟩
theorem Inv.un{t':Nat}(I:Inv X o4 U H s)(u:Un X.fs [] H H' s.heap h')(g:HOk X.prog X.w H' h'):Inv X o4 U H' { s with heap:=h',toks:=t' }:=by
 obtain⟨m,⟨o,q,ep,h,r⟩,_⟩:=id I.loc;obtain⟨l,i⟩:=u.any h I.free (by simp)
 exact I.step (ch:=[]) (λ_ z=>nomatch z) (λb o _ f _ e n=>u.keep b o e n f (by simp)) (λb o _ f _ e n=>u.slot b o e n f (by simp)) (λb o _ e n=>u.free b o e n (by simp)) (λb o _ e=>u.there b o e (by simp)) u.tups u.frzs u.tbls (λp j=>by
  obtain⟨t,c,d,a,k⟩:=j;rw[h] at a;cases a;exact⟨_,c,d,i,k⟩) g I.bare
theorem Inv.call{l:Array mI}{t':Nat}{v:Drawn}{ch:List aK}(I:Inv X o4 U H s)(u:Un (Nx X.stack) ch H H' s.heap h')(j:HOk X.prog X.w H' h')(t:jX l)
  (f:∀b∈ch,(b∈X.ex\/X.s₀.heap.objs.size<=b)/\b≠X.env.locals/\(∀x c,X.env.cells.lookup x=ag c->c≠b)/\∀p∈X.pn++o4,p.1≠b) :
  Inv X o4 U H' { s with heap:=h',gens:=l,drawn:=v,toks:=t' }:=by
 obtain⟨m,⟨o,C,ep,k,r⟩,_⟩:=id I.loc;obtain⟨A,g⟩:=u.any k I.free λz=>(f _ z).2.1 rfl
 exact I.step f (λb o g y a e n=>u.keep b o e n (λz=>(aX.mp (I.stkSub b z)).elim g y) a) (λb o _ _ a e n=>u.any e n a) (λb o a e n=>u.free b o e n a) (λb o a e=>u.there b o e a) u.tups u.frzs u.tbls (λB q=>by
  obtain⟨D,h,i,d,w⟩:=q;rw[k] at d;cases d;exact⟨_,h,i,g,w⟩) j t
theorem Inv.turned{t':Nat}{a:aK}(I:Inv X o4 U H s)(k:∀b o,b≠a->s.heap.get? b=ag o->h'.get? b=ag o)(w:H a=aA)(g:a≠X.env.locals)
  (h:a∈X.ex\/X.s₀.heap.objs.size<=a) (j:∀x c,X.env.cells.lookup x=ag c->c≠a) (l:∀p∈X.pn++o4,p.1≠a):Inv X o4 U H { s with heap:=h',toks:=t' }:=by
 have f:∀b u,H b=ag u->b≠a:=λb u e z=>by rw[z,w] at e;cases e
 refine I.step (ch:=[a]) (λb y=>?_) (λb o _ _ d e _=>k b o (λz=>d (by simp[z])) e) (λb o _ _ d e _=>⟨o.slots,k b o (λz=>d (by simp[z])) e⟩) (λ_ _ _ _ n=>n)
  (λb o d e=>⟨o,k b o (λz=>d (by simp[z])) e⟩) (λ_ _ e=>e) (λ_ _ _ e=>e) (λb B e=>⟨#[],by rw[e];simp⟩) (λm i=>?_) (λb u e=>?_) I.bare
 ·have e:b=a:=by simpa using y
  subst e;exact⟨h,g,j,l⟩
 ·obtain⟨o,A,ep,t,r⟩:=i;exact⟨o,A,ep,k _ o (bP g) t,r⟩
 ·refine(I.hok b u e).stay (λc v d q=>k c v ?_ q) (λ_ q=>q) (λ_ _ q=>q) λ_ _ q=>q;rcases d with z | z
  ·rw[z];exact f b u e
  ·exact f c _ z
theorem Inv.tok(I:Inv X o4 U H s)(t:Nat):Inv X o4 U H { s with toks:=t }:=I.un Un.refl I.hok
theorem Inv.kept{t':Nat}(I:Inv X o4 U H s)(k:∀b u,s.heap.get? b=ag u->h'.get? b=ag u):Inv X o4 U H { s with heap:=h',toks:=t' }:=I.un (Un.kept k) (I.hok.kept k)
theorem Inv.laid{a:aK}{o:HO}{t':Nat}(I:Inv X o4 U H s)(k:∀b u,s.heap.get? b=ag u->h'.get? b=ag u)(c:s.heap.objs.size<=a)(new:ObjOk X.prog X.w (upd H a o) h' a o) :
  Inv X o4 U (upd H a o) { s with heap:=h',toks:=t' }:=I.un (Un.laid k c (I.hok.fresh c)) (I.hok.laid k c new)
theorem Inv.write{x e:aK}{o:HO}{t':Nat}(I:Inv X o4 U H s)(d:Uq (H x))(c:e=x\/H e=ag (.own x))(k:∀b u,b≠e->s.heap.get? b=ag u->h'.get? b=ag u)(a:∃u,h'.get? e=ag u)
  (new:ObjOk X.prog X.w (upd H x o) h' x o):Inv X o4 U (upd H x o) { s with heap:=h',toks:=t' }:=I.un (Un.write d c k a) (I.hok.write d c k a new)
theorem Inv.weak{b:List (Option V)}(I:Inv X o4 U H s)(c:b.length=U.length)(w:∀(i:Nat) v,b[i]?=ag (ag v)->U[i]?=ag (ag v)):Inv X o4 b H s:=
 ⟨I.ok,I.os,I.bare,I.base,let⟨m,d,a⟩:=I.loc;⟨m,d,λi x v f e g=>a i x v f (w i v e) g⟩,I.cell,I.free,I.freeC,I.pin,I.hok,c.trans I.len⟩
theorem Inv.pins_of{a:List (aK×cg)}(I:Inv X o4 U H s)(h:∀p∈a,s.heap.get? p.1=ag p.2/\H p.1=aA/\p.1≠X.env.locals/\p.1∉X.fs/\∀v,p.2.data≠.cell v):Inv X a U H s:=
 ⟨I.ok,I.os,I.bare,I.base,I.loc,I.cell,I.free,I.freeC,λp b=>(ah.mp b).elim (λz=>I.pin p (bA _ z)) (h p),I.hok,I.len⟩
theorem Pr{N:List aj}(d:N.Nodup){i j:Nat}{x:aj}(a:N[i]?=ag x)(b:N[j]?=ag x):i=j:=by obtain⟨g,e⟩:=aS.mp a;obtain⟨f,c⟩:=aS.mp b;exact(me d).mp (e.trans c.symm)
theorem F6{M:mx}{A:bU}{E:aG->aM->Prop}{i:Nat}{x:aj}{v:V}{u:aG}{Q:Unit->aM->Prop}(I:Inv X o4 U H s)(hN:X.N.Nodup)(L:X.N[i]?=ag x)(t:DS X.env.scope x)(r:RelV v u)
  (h:∀s',Inv X o4 (U.set i (ag v)) H s'->(∃a,cj a s.heap s'.heap/\(a=X.env.locals\/X.env.cells.lookup x=ag a))->Q () s') (hf:X.fn x=aC\/X.env.scope.names.lookup x=ag .local:=by first | exact .inl rfl | exact .inr rfl | assumption):av M A (storeName X.env x u) Q E s:=by
 obtain⟨m,hn,hl⟩:=id I.loc;have O:(X.env.scope.kind==.class || (X.env.scope.kind==.module&&X.env.locals != X.env.globals))=aB:=by rw[I.ok.kind];rfl
 have N:i<U.length:=by rw[I.len];exact(aS.mp L).1
 have cne:=I.cne
 have g:∀{a:aK}{h':bR},(∃o,s.heap.get? a=ag o/\H a=aA)->cj a s.heap h'->HOk X.prog X.w H h':=λ{a h'} ha hs b ob e=>by
  obtain⟨_,_,w⟩:=ha;refine(I.hok b ob e).stay (λc T l q=>(hs.2 c ?_).trans q) (λ_ q=>q) (λ_ _ q=>q) λ_ _ q=>q;rintro rfl;rcases l with rfl | l
  ·rw[w] at e;cases e
  ·rw[w] at l;cases l
 rcases t with C | C
 ·refine wpAny_storeName_local C hn (λh' Z hs=>?_) O;obtain⟨oL,_,_,hoL,_⟩:=id hn;refine h _ ⟨I.ok,I.os,I.bare,⟨λb o e n G t=>?_,λb o e n G t=>?_,I.base.free,λb o e t=>?_,I.base.tups,I.base.frzs,I.base.tbls⟩,⟨_,Z,λj y v' f B e3=>?_⟩,λy c e=>?_,I.free,I.freeC,λp hp=>?_,g ⟨oL,hoL,I.free⟩ hs,by simpa using I.len⟩ ⟨_,hs,.inl rfl⟩
  ·exact(hs.2 b (az (aZ (aP e) I.ok.above))).trans (I.base.keep b o e n G t)
  ·obtain⟨Y,f⟩:=I.base.slot b o e n G t;exact⟨Y,(hs.2 b (az (aZ (aP e) I.ok.above))).trans f⟩
  ·obtain⟨o',f⟩:=I.base.there b o e t;exact⟨o',(hs.2 b (az (aZ (aP e) I.ok.above))).trans f⟩
  ·by_cases F:j=i
   ·subst F;rw[L] at f;cases f;rw[fJ N] at B;cases B;exact⟨u,r,.inl ⟨C,by simp⟩⟩
   ·rw[dY (bP F)] at B;obtain⟨u',r',q⟩:=hl j y v' f B e3;refine⟨u',r',?_⟩;rcases q with⟨k,e⟩ | ⟨k,c,e,z⟩
    ·refine .inl ⟨k,?_⟩;have:y≠x:=λe=>F (Pr hN f (e▸L));simp[this,e]
    ·exact .inr ⟨k,c,e,z.sameBut hs (cne y c e)⟩
  ·obtain⟨T,z⟩:=I.cell y c e;exact⟨T,z.sameBut hs (cne y c e)⟩
  ·obtain⟨e,n,ne,nf,d⟩:=I.pin p hp;exact⟨(hs.2 p.1 ne).trans e,n,ne,nf,d⟩
 ·have D:X.fn x=aC:=by
   rcases hf with z | z
   ·exact z
   ·rw[z] at C;cases C
  obtain⟨c,l⟩:=I.ok.has x (.inl C);obtain⟨T,z⟩:=I.cell x c l;refine wpAny_storeName_cell I.ok.kind C l z (λh' J hs=>?_);obtain⟨oc,P,S⟩:=id z;refine h { s with heap:=h' } ⟨I.ok,I.os,I.bare,⟨λb o e n G t=>?_,λb o e n G t=>?_,I.base.free,λb o e t=>?_,I.base.tups,I.base.frzs,I.base.tbls⟩,⟨m,hn.sameBut hs (bP (cne x c l)),λj y v' f B e3=>?_⟩,λy W e=>?_,I.free,I.freeC,λp hp=>?_,g ⟨oc,P,I.freeC x c l⟩ hs,by simpa using I.len⟩ ⟨c,hs,.inr l⟩
  ·exact(hs.2 b (az (aZ (aP e) (I.ok.cab x c D l)))).trans (I.base.keep b o e n G t)
  ·obtain⟨Y,f⟩:=I.base.slot b o e n G t;exact⟨Y,(hs.2 b (az (aZ (aP e) (I.ok.cab x c D l)))).trans f⟩
  ·obtain⟨o',f⟩:=I.base.there b o e t;exact⟨o',(hs.2 b (az (aZ (aP e) (I.ok.cab x c D l)))).trans f⟩
  ·by_cases F:j=i
   ·subst F;rw[L] at f;cases f;rw[fJ N] at B;cases B;exact⟨u,r,.inr ⟨.inl C,c,l,J⟩⟩
   ·rw[dY (bP F)] at B;obtain⟨u',r',q⟩:=hl j y v' f B e3;refine⟨u',r',?_⟩;rcases q with q | ⟨k,W,e,z'⟩
    ·exact .inl q
    ·refine .inr ⟨k,W,e,z'.sameBut hs ?_⟩;rintro rfl;exact F (Pr hN f (I.ok.inj _ _ _ e l▸L))
  ·by_cases R:W=c
   ·subst R;exact⟨_,J⟩
   ·obtain⟨w2,z2⟩:=I.cell y W e;exact⟨w2,z2.sameBut hs R⟩
  ·obtain⟨e,n,ne,nf,d⟩:=I.pin p hp;refine⟨(hs.2 p.1 ?_).trans e,n,ne,nf,d⟩;intro q;rw[q,P] at e;have q':oc=p.2:=bG e;exact d T (by rw[<-q'];exact S)
theorem Vo{M:mx}{A:bU}{E:aG->aM->Prop}{i:Nat}{x:aj}{v:V}{u:aG}{Q:Unit->aM->Prop}(I:Inv X o4 U H s)(d:X.N.Nodup)(e:X.N[i]?=ag x)(b:DS X.env.scope x)(r:RelV v u)
  (h:∀a,Inv X o4 (U.set i (ag v)) H a->Q () a) (f:X.fn x=aC\/X.env.scope.names.lookup x=ag .local:=by first | exact .inl rfl | exact .inr rfl | assumption):av M A (storeName X.env x u) Q E s:=
 F6 I d e b r (λa c _=>h a c) f
theorem Inv.call'{a:aM}{ch:List aK}(I:Inv X o4 U H s)(g:a.os=s.os)(u:Un (Nx X.stack) ch H H' s.heap a.heap)(d:HOk X.prog X.w H' a.heap)(h:jX a.gens)
  (f:∀b∈ch,(b∈X.ex\/X.s₀.heap.objs.size<=b)/\b≠X.env.locals/\(∀x c,X.env.cells.lookup x=ag c->c≠b)/\∀p∈X.pn++o4,p.1≠b):Inv X o4 U H' a:=by
 obtain⟨h',i,k,t',j⟩:=a;have e:=g;subst e;exact I.call u d h f
end
abbrev XK:=aG->Option aK->Hp->Prop
abbrev St:=List (Option V)
abbrev VK:=V->Hp->Prop
abbrev TE:=St->Hp->VK->Prop
abbrev TT:=St->Hp->(Bool->Hp->Prop)->Prop
abbrev TA:=St->Hp->(List V->Hp->Prop)->Prop
structure Yz where
 nx:St->Hp->Prop
 rt:VK
 bk:St->Hp->Prop:=λ_ _=>False
 ct:St->Hp->Prop:=λ_ _=>False
abbrev TS:=Yz->St->Hp->Prop
noncomputable def EP(X:Cx)(o4:List (aK×cg))(U:St)(Q:VK)(u:aG)(s':aM):Prop:=∃v H',Inv X o4 U H' s'/\RelV v u/\Q v H'
noncomputable def TP(X:Cx)(o4:List (aK×cg))(U:St)(Q:Bool->Hp->Prop)(b:Bool)(s':aM):Prop:=∃H',Inv X o4 U H' s'/\Q b H'
noncomputable def AP(X:Cx)(o4:List (aK×cg))(U:St)(Q:List V->Hp->Prop)(us:List aG)(s':aM):Prop:=∃vs H',Inv X o4 U H' s'/\Vals vs us/\Q vs H'
noncomputable def SP(X:Cx)(o4:List (aK×cg))(D:Yz)(f:Flow)(s':aM):Prop:=
 match f with
 | .next=>∃U' H',Inv X o4 U' H' s'/\D.nx U' H'
 | .brk=>∃U' H',Inv X o4 U' H' s'/\D.bk U' H'
 | .cont=>∃U' H',Inv X o4 U' H' s'/\D.ct U' H'
 | .ret u=>∃v U' H',Inv X o4 U' H' s'/\RelV v u/\D.rt v H'
noncomputable def PE(X:Cx)(e:bB)(t:TE):Prop:=
 ∀(o4:List (aK×cg))(s:aM)(U:St)(H:Hp)(Q:VK),Inv X o4 U H s->t U H Q->av (model X.prog X.w) X.A (eval e X.env) (EP X o4 U Q) X.xe s
noncomputable def PT(X:Cx)(e:bB)(t:TT):Prop:=
 ∀(o4:List (aK×cg))(s:aM)(U:St)(H:Hp)(Q:Bool->Hp->Prop),Inv X o4 U H s->t U H Q->av (model X.prog X.w) X.A (l3 e X.env (eval e X.env)) (TP X o4 U Q) X.xe s
noncomputable def PW(X:Cx)(e:bB)(t:TT):Prop:=
 ∀(whole:Sem aG)(o4:List (aK×cg))(s:aM)(U:St)(H:Hp)(Q:Bool->Hp->Prop),Inv X o4 U H s->t U H Q->av (model X.prog X.w) X.A (l3 e X.env whole) (TP X o4 U Q) X.xe s
theorem PW.pt{X:Cx}{e:bB}{t:TT}(h:PW X e t):PT X e t:=h _
noncomputable def PA(X:Cx)(es:List bB)(t:TA):Prop:=
 ∀(pos:da)(o4:List (aK×cg))(s:aM)(U:St)(H:Hp)(Q:List V->Hp->Prop),Inv X o4 U H s->t U H Q->av (model X.prog X.w) X.A (spliced (ck pos (aO es X.env))) (AP X o4 U Q) X.xe s
noncomputable def PS(X:Cx)(st:ba)(t:TS):Prop:=
 ∀(o4:List (aK×cg))(s:aM)(U:St)(H:Hp)(D:Yz),Inv X o4 U H s->t D U H->av (model X.prog X.w) X.A (exec st X.env) (SP X o4 D) X.xe s
noncomputable def PSs(X:Cx)(st:List ba)(t:TS):Prop:=
 ∀(o4:List (aK×cg))(s:aM)(U:St)(H:Hp)(D:Yz),Inv X o4 U H s->t D U H->av (model X.prog X.w) X.A (execs st X.env) (SP X o4 D) X.xe s
theorem Yf{b:Type}{t:Sem b}{Q c:b->aM->Prop}{M:mx}{A:bU}{E:aG->aM->Prop}{s:aM}(h:av M A t Q E s)(d:∀a s,Q a s->c a s):av M A t c E s:=bW h d λ_ _ x=>x
section
variable {X:Cx}
theorem bin{a b:bB}{k l:TE}(m:PE X a k)(w:PE X b l){g:List (aK×cg)}{s:aM}{U:St}{H:Hp}{R:V->V->Hp->Prop}(I:Inv X g U H s)(h:k U H λx i=>l U i λy c=>R x y c)
  {j:Type} {Q:j->aM->Prop} {f:aG->aG->Sem j}
  (A:∀v u s2 x y c,Inv X g U c s2->RelV x v->RelV y u->R x y c->av (model X.prog X.w) X.A (f v u) Q X.xe s2) :
  av (model X.prog X.w) X.A (eval a X.env) (λv d=>av (model X.prog X.w) X.A (eval b X.env) (λu e=>av (model X.prog X.w) X.A (f v u) Q X.xe e) X.xe d) X.xe s:=by
 refine Yf (m g s U H _ I h) λv s1 ⟨x,i,t,o,n⟩=>?_;refine Yf (w g s1 U i _ t n) λu s2 ⟨y,c,p,z,q⟩=>?_;exact A v u s2 x y c p o z q
noncomputable def TV(i:Nat):TE:=λU H Q=>∃v,U[i]?=ag (ag v)/\Q v H
noncomputable def tC(v:V):TE:=λ_ H Q=>Q v H
theorem DT{i:Nat}{x:aj}{g:da}(p:X.N[i]?=ag x)(n:Vis X.env.scope x)(hd:(x==("__debug__" : aj))=aB:=by decide)(f:(x==("__classdict__" : aj))=aB:=by decide):PE X (.Name x g) (TV i):=by
 intro q s U H Q I h;obtain⟨v,e,h⟩:=h;obtain⟨m,o,t⟩:=I.loc;obtain⟨u,r,l⟩:=t i x v p e n;have d:EP X q U Q u s:=⟨v,H,I,r,h⟩;rcases l with⟨b,k⟩ | ⟨b,c,j,a⟩
 ·exact nO (k9 I.ok.kind b o k d) hd
 ·rcases b with b | b
  ·exact nO (lG I.ok.kind b j a d) hd
  ·exact nO (wpAny_loadName_free I.ok.kind b j a d f) hd
theorem Ze9{i j pos}:PE X (.Constant (.int i) j pos) (tC (.int i)):=λ_ _ _ H _ I h=>wpAny_Constant_int ⟨.int i,H,I.tok _,⟨_,rfl⟩,h⟩
theorem Zib{b j pos}:PE X (.Constant (.bool b) j pos) (tC (.bl b)):=λ_ _ _ H _ I h=>Constant_bool ⟨.bl b,H,I,rfl,h⟩
theorem Zfa{j pos}:PE X (.Constant .none j pos) (tC .non):=λ_ _ _ H _ I h=>Constant_none ⟨.non,H,I,rfl,h⟩
theorem DU{x j pos}:PE X (.Constant (.str x) j pos) (tC (.str x)):=λ_ _ _ H _ I h=>Calls.Constant_str ⟨.str x,H,I.tok _,⟨_,rfl⟩,h⟩
noncomputable def Gl(X:Cx)(x:aj):Prop:=X.env.kindOf x=ag .globalImplicit
theorem Wg{E:aG->aM->Prop}{d:List (aK×cg)}{s:aM}{U:St}{H:Hp}{x:aj}{u:aG}{a:da}{Q:aG->aM->Prop}(I:Inv X d U H s)(c:Gl X x)(b:X.mg x=ag u)(h:Q u s)
  (hd:(x==("__debug__" : aj))=aB:=by decide):av (model X.prog X.w) X.A (eval (.Name x a) X.env) Q E s:=
 jH I.ok.kind c (Calls.loadGlobal_global (by rw[I.ok.glob];exact I.mod.glob.keeps I.bk) b h) hd
theorem VD{E:aG->aM->Prop}{i:List (aK×cg)}{s:aM}{U:St}{H:Hp}{x:aj}{u:aG}{a:da}{Q:aG->aM->Prop}(I:Inv X i U H s)(d:Gl X x)(c:X.mg x=aA)(f:dC x=ag u)(h:Q u s)
  (g:x≠"__name__":=by decide) (hd:(x==("__debug__" : aj))=aB:=by decide):av (model X.prog X.w) X.A (eval (.Name x a) X.env) Q E s:=by
 obtain⟨j,b,e⟩:=I.mod.blt;exact jH I.ok.kind d (Calls.loadGlobal_builtin (by rw[I.ok.glob];exact I.mod.glob.keeps I.bk) c (by rw[I.ok.blt];exact b.keeps I.bk) ((e x g).trans f) h) hd
theorem Zac{x:aj}{v:V}{u:aG}{a:da}(c:Gl X x)(b:X.mg x=ag u)(r:RelV v u)(hd:(x==("__debug__" : aj))=aB:=by decide):PE X (.Name x a) (tC v):=
 λ_ _ _ H _ I h=>Wg I c b ⟨v,H,I,r,h⟩ hd
theorem Zad{x:aj}{v:V}{u:aG}{a:da}(e:Gl X x)(b:X.mg x=aA)(c:dC x=ag u)(r:RelV v u)(d:x≠"__name__":=by decide)(hd:(x==("__debug__" : aj))=aB:=by decide):PE X (.Name x a) (tC v):=
 λ_ _ _ H _ I h=>VD I e b c ⟨v,H,I,r,h⟩ d hd
variable {a b:bB} {ta tb:TE} {pos:da}
noncomputable def PC(X:Cx)(op:nP)(a b:bB)(t:TE):Prop:=
 ∀(o4:List (aK×cg))(s:aM)(U:St)(H:Hp)(Q:VK),Inv X o4 U H s->t U H Q->
  av (model X.prog X.w) X.A (eval a X.env) (λv s₁=>av (model X.prog X.w) X.A (eval b X.env) (λu s₂=>av (model X.prog X.w) X.A (eJ op v u) (EP X o4 U Q) X.xe s₂) X.xe s₁) X.xe s
theorem DV(b:bB){op:nP}(h:op≠.In)(c:op≠.NotIn):cY op b=aB:=by
 have d:(op==nP.In)=aB:=by cases op<;>first | rfl | exact absurd rfl h
 have a:(op==nP.NotIn)=aB:=by cases op<;>first | rfl | exact absurd rfl c
 cases b<;>simp[cY,d,a]
noncomputable def Zdz(ta:TE):TE:=λU H Q=>ta U H λx H1=>Q (.bl (!decide (x = .non))) H1
theorem RelV.none_iff{x:V}{v:aG}(r:RelV x v):(v==g7)=decide (x = .non):=by
 cases x with
 | non=>cases r;rfl
 | bl _=>cases r;rfl
 | int _=>obtain⟨t,rfl⟩:=r;rfl
 | str _=>obtain⟨t,rfl⟩:=r;rfl
 | byt _=>obtain⟨t,rfl⟩:=r;rfl
 | flt _=>obtain⟨t,rfl⟩:=r;rfl
 | ref _=>cases r;rfl
 | ty _=>cases r;rfl
theorem Zae{j pos'}(e:PE X a ta):PC X .IsNot a (.Constant .none j pos') (Zdz ta):=by intro f s U H Q I h;refine Yf (e f s U H _ I h) λv s1 ⟨x,b,c,d,g⟩=>?_;exact Constant_none (isnot_none_gen ⟨.bl _,b,c,by rw[d.none_iff];rfl,g⟩)
noncomputable def tB(t:TE):TT:=λU H Q=>t U H λx H1=>∃c,x = .bl c/\Q c H1
theorem DW{op:nP}{t:TE}(h:PC X op a b t)(e:cY op b=aB:=by first | exact DV _ (by decide) (by decide) | rfl):PT X (.Compare a [op] [b] pos) (tB t):=by intro m s U H Q I i;refine k4 (Yf (h m s U H _ I i) λv s1 e=>Yf e λu s2 f=>Yf f λc n ⟨x,j,l,k,g⟩=>?_) e;obtain⟨d,rfl,q⟩:=g;cases k;exact df ⟨j,l,q⟩
theorem Zfb{e:bB}{t:TE}(h:PE X e t)(i:∀whole,l3 e X.env whole=(do let v <-whole;mJ e.pos;holding [v] (truthy v)):=by intro _;rfl):PT X e (tB t):=by intro j s U H Q I b;refine isTrue_plain (Yf (h j s U H _ I b) λv s1 ⟨x,c,g,f,a⟩=>?_) (i _);obtain⟨d,rfl,q⟩:=a;cases f;exact df ⟨c,g,q⟩
variable {tA tB':TT} {o6:List bB}
noncomputable def Zic(t u:TT):TT:=λU H Q=>t U H λc H1=>if c=aC then u U H1 Q else Q aB H1
noncomputable def tOr(t u:TT):TT:=λU H Q=>t U H λc H1=>if c=aC then Q aC H1 else u U H1 Q
noncomputable def Zk8(t:TT):TT:=λU H Q=>t U H λc H1=>Q (!c) H1
theorem Zaf(b:PT X a tA):PW X (.BoolOp .And [a] pos) tA:=by
 intro f d s U H Q I h;refine isTrue_and (Yf (b d s U H Q I h) λc s1 e=>?_)
 cases c with
 | true=>exact isTrue_and_nil e
 | false=>exact e
theorem Zfc(b:PT X a tA):PW X (.BoolOp .Or [a] pos) tA:=by
 intro f d s U H Q I h;refine isTrue_or (Yf (b d s U H Q I h) λc s1 e=>?_)
 cases c with
 | false=>exact isTrue_or_nil e
 | true=>exact e
theorem Zfd(k:PT X a tA)(j:PW X (.BoolOp .And (b::o6) pos) tB'):PW X (.BoolOp .And (a::b::o6) pos) (Zic tA tB'):=by
 intro i f s U H Q I h;refine isTrue_and (Yf (k f s U H _ I h) λc s1 ⟨d,e,g⟩=>?_)
 cases c with
 | true=>exact j i f s1 U d Q e g
 | false=>exact⟨d,e,g⟩
theorem Zid(k:PT X a tA)(j:PW X (.BoolOp .Or (b::o6) pos) tB'):PW X (.BoolOp .Or (a::b::o6) pos) (tOr tA tB'):=by
 intro i f s U H Q I h;refine isTrue_or (Yf (k f s U H _ I h) λc s1 ⟨d,e,g⟩=>?_)
 cases c with
 | true=>exact⟨d,e,g⟩
 | false=>exact j i f s1 U d Q e g
theorem Zfe(d:PT X a tA):PT X (.UnaryOp .Not a pos) (Zk8 tA):=by intro e s U H Q I h;exact isTrue_not (d e s U H (λc b=>Q (!c) b) I h)
noncomputable def Zie(ta tb:TE):TE:=λU H Q=>ta U H λx H1=>∃c,x = .bl c/\if c=aC then tb U H1 Q else Q (.bl aB) H1
noncomputable def Zif(ta:TE):TE:=λU H Q=>ta U H λx H1=>∃c,x = .bl c/\Q (.bl (!c)) H1
theorem Zff{op}{t:TE}(h:PE X a t):PE X (.BoolOp op [a] pos) t:=λb s U H Q I c=>BoolOp_one (h b s U H Q I c)
theorem Zfg(j:PE X a ta)(i:PE X (.BoolOp .And (b::o6) pos) tb):PE X (.BoolOp .And (a::b::o6) pos) (Zie ta tb):=by
 intro g s U H Q I h;refine BoolOp_and (Yf (j g s U H _ I h) λv s1 ⟨x,e,f,k,d⟩=>?_);obtain⟨c,rfl,d⟩:=d;cases k;refine df ?_
 cases c with
 | true=>exact i g s1 U e Q f d
 | false=>exact⟨.bl aB,e,f,rfl,d⟩
theorem Zfh(g:PE X a ta):PE X (.UnaryOp .Not a pos) (Zif ta):=by intro i s U H Q I h;refine UnaryOp_ (Yf (g i s U H _ I h) λv s1 ⟨x,d,e,f,b⟩=>?_);obtain⟨c,rfl,b⟩:=b;cases f;exact not_of (df ⟨.bl (!c),d,e,rfl,b⟩)
noncomputable def tIf(t:TT)(ta tb:TE):TE:=λU H Q=>t U H λc H1=>if c=aC then ta U H1 Q else tb U H1 Q
theorem DY{c:bB}(l:PT X c tA)(k:PE X a ta)(j:PE X b tb):PE X (.IfExp c a b pos) (tIf tA ta tb):=by
 intro e s U H Q I h;refine wpAny_IfExp (Yf (l e s U H _ I h) λd s1 ⟨f,g,i⟩=>?_)
 cases d with
 | true=>exact k e s1 U f Q g i
 | false=>exact j e s1 U f Q g i
end
noncomputable def SqL(K:aE)(H:Hp)(a:aK)(xs:List V):Prop:=
 Rd H a (.lst xs)\/
  ∃(o:cg) (oW:Array aG) (n:Nat),K.lookup a=ag o/\o.cls = .type "list"/\o.dict=aA/\o.data = .seq oW n/\oW.size<=sizeLine/\Vals xs oW.toList
noncomputable def SqT(K:aE)(H:Hp)(a:aK)(xs:List V):Prop:=
 Rd H a (.tup xs)\/
  ∃(o:cg) (oW:Array aG) (n:Nat),K.lookup a=ag o/\o.cls = .type "tuple"/\o.data = .seq oW n/\oW.size<=sizeLine/\Vals xs oW.toList
noncomputable def Zk9:aG->Option V
 | .none=>ag .non
 | .bool b=>ag (.bl b)
 | .int i _=>ag (.int i)
 | .str x _=>ag (.str x)
 | .bytes b _=>ag (.byt b)
 | .float b _=>ag (.flt b)
 | .ref a=>ag (.ref a)
 | .type n=>ag (.ty n)
 | _=>aA
theorem RelV.abs{x:V}{u:aG}(r:RelV x u):Zk9 u=ag x:=by
 cases x with
 | non=>cases r;rfl
 | bl _=>cases r;rfl
 | int _=>obtain⟨t,rfl⟩:=r;rfl
 | str _=>obtain⟨t,rfl⟩:=r;rfl
 | byt _=>obtain⟨t,rfl⟩:=r;rfl
 | flt _=>obtain⟨t,rfl⟩:=r;rfl
 | ref _=>cases r;rfl
 | ty _=>cases r;rfl
theorem RelV.inj{x y:V}{u:aG}(r:RelV x u)(q:RelV y u):x=y:=bG (r.abs.symm.trans q.abs)
theorem Vals.inj:∀{xs ys:List V}{us:List aG},Vals xs us->Vals ys us->xs=ys
 | _,_,_,.nil,.nil=>rfl
 | _,_,_,.cons r t,.cons r' t'=>by rw[r.inj r',Vals.inj t t']
section
variable {X:Cx} {o4:List (aK×cg)} {U:St} {H:Hp} {s:aM} {a:aK} {xs ys:List V}
theorem SqL.of{K:aE}(h:H a=ag (.lst xs)):SqL K H a xs:=.inl (.inl h)
theorem SqT.of{K:aE}(h:H a=ag (.tup xs)):SqT K H a xs:=.inl (.inl h)
theorem Inv.list(I:Inv X o4 U H s)(h:SqL X.K H a xs):∃b:List aG,Vals xs b/\PlainL s.heap a b.toArray/\xs.length<=sizeLine:=by
 rcases h with h | ⟨o,b,n,c,d,hd,hs,f,r⟩
 ·obtain⟨z,b,n,r,e⟩:=h.ok I.hok;exact⟨b,r,⟨_,n,e,rfl,rfl,rfl⟩,z⟩
 ·refine⟨b.toList,r,⟨o,n,I.kIn a o c,d,hd,by simpa using hs⟩,?_⟩;have e:=r.length;simp only[fC] at e;omega
theorem Inv.tuple(I:Inv X o4 U H s)(h:SqT X.K H a xs):∃b:List aG,Vals xs b/\oH s.heap a b.toArray/\xs.length<=sizeLine:=by
 rcases h with h | ⟨o,b,n,c,d,hs,f,r⟩
 ·obtain⟨z,b,r,p⟩:=h.ok I.hok;exact⟨b,r,p,z.1⟩
 ·refine⟨b.toList,r,⟨o,I.kIn a o c,d,n,by simpa using hs⟩,?_⟩;have e:=r.length;simp only[fC] at e;omega
theorem Inv.list_inj(I:Inv X o4 U H s)(h:SqL X.K H a xs)(h':SqL X.K H a ys):xs=ys:=by
 obtain⟨i,r,⟨o,n,e,_,_,d⟩,_⟩:=I.list h;obtain⟨b,g,⟨j,k,c,_,_,f⟩,_⟩:=I.list h';rw[e] at c;cases c;rw[d] at f;injection f with d1 _
 have:i=b:=by simpa using congrArg oM d1
 subst this;exact r.inj g
theorem Inv.tuple_inj(I:Inv X o4 U H s)(h:SqT X.K H a xs)(h':SqT X.K H a ys):xs=ys:=by
 obtain⟨i,r,⟨o,e,_,n,d⟩,_⟩:=I.tuple h;obtain⟨b,g,⟨j,c,_,k,f⟩,_⟩:=I.tuple h';rw[e] at c;cases c;rw[d] at f;injection f with d1 _
 have:i=b:=by simpa using congrArg oM d1
 subst this;exact r.inj g
end
abbrev Cx.wish(X:Cx)(E:aG->aM->Prop):Cx:={ X with xe:=E }
abbrev Cx.nox(X:Cx):Cx:=X.wish λ_ _=>False
theorem Cx.Ok.wish{X:Cx}(ok:X.Ok)(E:aG->aM->Prop):(X.wish E).Ok:=
 ⟨ok.mod,ok.kind,ok.glob,ok.blt,ok.above,ok.inj,ok.has,ok.cab,ok.hd,ok.frames,ok.stk,ok.exf,ok.bs,ok.bsz,ok.noex,ok.exfs,ok.funs,ok.frf,ok.tab,ok.cod⟩
theorem Cx.Ok.unwish{X:Cx}{E:aG->aM->Prop}(ok:(X.wish E).Ok):X.Ok:=
 ⟨ok.mod,ok.kind,ok.glob,ok.blt,ok.above,ok.inj,ok.has,ok.cab,ok.hd,ok.frames,ok.stk,ok.exf,ok.bs,ok.bsz,ok.noex,ok.exfs,ok.funs,ok.frf,ok.tab,ok.cod⟩
section
variable {X:Cx} {o4:List (aK×cg)} {U:St} {H:Hp} {s:aM} {E:aG->aM->Prop}
theorem Inv.wish(I:Inv X o4 U H s)(E:aG->aM->Prop):Inv (X.wish E) o4 U H s:=⟨I.ok.wish E,I.os,I.bare,I.base,I.loc,I.cell,I.free,I.freeC,I.pin,I.hok,I.len⟩
theorem Inv.unwish(I:Inv (X.wish E) o4 U H s):Inv X o4 U H s:=⟨I.ok.unwish,I.os,I.bare,I.base,I.loc,I.cell,I.free,I.freeC,I.pin,I.hok,I.len⟩
theorem SP.unwish{D:Yz}{f:Flow}{c:aM}(h:SP (X.wish E) o4 D f c):SP X o4 D f c:=by
 cases f with
 | next=>obtain⟨b,a,I,q⟩:=h;exact⟨b,a,I.unwish,q⟩
 | brk=>obtain⟨b,a,I,q⟩:=h;exact⟨b,a,I.unwish,q⟩
 | cont=>obtain⟨b,a,I,q⟩:=h;exact⟨b,a,I.unwish,q⟩
 | ret u=>obtain⟨v,b,a,I,r,q⟩:=h;exact⟨v,b,a,I.unwish,r,q⟩
theorem PSs.nox{st:List ba}{t:TS}(h:PSs X.nox st t):PSs X st t:=λb s U H D I a=>
 bW (h b s U H D (I.wish _) a) (λ_ _ q=>q.unwish) λ_ _ z=>bw z
end
section
variable {X:Cx} {st:ba} {o6:List ba} {t u:TS} {e:bB} {te:TE} {pos:da}
noncomputable def Zd0:TS:=λD U H=>D.nx U H
noncomputable def Zig(t u:TS):TS:=λD U H=>t { D with nx:=u D } U H
theorem Zag:PSs X [] Zd0:=λ_ _ U H _ I h=>gX ⟨U,H,I,h⟩
theorem Sq(g:PS X st t)(d:PSs X o6 u):PSs X (st::o6) (Zig t u):=by
 intro a s U H D I h;refine iM (Yf (g a s U H { D with nx:=u D } I h) λf s1 q=>?_)
 cases f with
 | next=>
  obtain⟨e,b,c,q⟩:=q;exact d a s1 e b D c q
 | ret v=>exact q
 | brk=>exact q
 | cont=>exact q
theorem ME(b:PS X st t):PSs X [st] t:=by
 intro a s U H D I h;refine iM (Yf (b a s U H D I h) λf s1 q=>?_)
 cases f with
 | next=>exact gX q
 | ret v=>exact q
 | brk=>exact q
 | cont=>exact q
theorem Inv.quiet{a:List (aK×cg)}{U:St}{H:Hp}{s:aM}(I:Inv X a U H s):interactive X.env=aB:=by simp[interactive,I.ok.kind]
noncomputable def Kj(te:TE):TS:=λD U H=>te U H λ_ H1=>D.nx U H1
theorem YH(b:PE X e te)(hs:eK e aA pos.line X.env=pure aB:=by rfl):PS X (.Expr e pos) (Kj te):=by intro d s U H D I h;exact ka (Yf (b d s U H _ I h) λv s1 ⟨x,a,c,g,f⟩=>⟨U,a,c,f⟩) I.quiet hs
noncomputable def Zla(te:TE):TS:=λD U H=>te U H D.rt
theorem J6(c:PE X e te):PS X (.Return (ag e) pos) (Zla te):=by intro f s U H D I h;exact wpAny_Return_some (Yf (c f s U H _ I h) λv s1 ⟨x,a,b,d,g⟩=>⟨x,U,a,b,d,g⟩)
noncomputable def Zlb(c:TT)(t u:TS):TS:=λD U H=>c U H λb H1=>if b=aC then t D U H1 else u D U H1
theorem Zd1{c:bB}{a b:List ba}{i:TT}(l:PT X c i)(k:PSs X a t)(m:PSs X b u):PS X (.If c a b pos) (Zlb i t u):=by
 intro e s U H D I h;refine wpAny_If (Yf (l e s U H _ I h) λd s1 ⟨g,j,f⟩=>?_)
 cases d with
 | true=>exact k e s1 U g D j f
 | false=>exact m e s1 U g D j f
end
abbrev TG:=V->St->Hp->(St->Hp->Prop)->Prop
abbrev TGs:=List V->St->Hp->(St->Hp->Prop)->Prop
noncomputable def PG(X:Cx)(target:bB)(t:TG):Prop:=
 ∀(o4:List (aK×cg))(s:aM)(U:St)(H:Hp)(v:V)(u:aG)(Q:St->Hp->Prop),Inv X o4 U H s->RelV v u->t v U H Q->
  av (model X.prog X.w) X.A (assign target X.env u) (λ_ s'=>∃U' H',Inv X o4 U' H' s'/\Q U' H') X.xe s
noncomputable def PGs(X:Cx)(ts:List bB)(t:TGs):Prop:=
 ∀(o4:List (aK×cg))(s:aM)(U:St)(H:Hp)(vs:List V)(us:List aG)(Q:St->Hp->Prop),Inv X o4 U H s->Vals vs us->t vs U H Q->
  av (model X.prog X.w) X.A (assignInOrder ((jI ts X.env).map (·.2)) us) (λ_ s'=>∃U' H',Inv X o4 U' H' s'/\Q U' H') X.xe s
abbrev Zfi:=V->V->V->Hp->(Hp->Prop)->Prop
noncomputable def Zih(X:Cx)(t:Zfi):Prop:=
 ∀(o4:List (aK×cg))(s:aM)(U:St)(H:Hp)(o i v:V)(ov iv u:aG)(Q:Hp->Prop),Inv X o4 U H s->RelV o ov->RelV i iv->RelV v u->t o i v H Q->
  av (model X.prog X.w) X.A (setItem ov iv u) (λ_ s'=>∃H',Inv X o4 U H' s'/\Q H') X.xe s
abbrev TIp:=V->V->Hp->VK->Prop
noncomputable def PIp(X:Cx)(op:nQ)(t:TIp):Prop:=
 ∀(o4:List (aK×cg))(s:aM)(U:St)(H:Hp)(x y:V)(v u:aG)(Q:VK),Inv X o4 U H s->RelV x v->RelV y u->t x y H Q->
  av (model X.prog X.w) X.A (inplaceOp op v u) (EP X o4 U Q) X.xe s
section
variable {X:Cx} {pos:da}
noncomputable def Sr(i:Nat):TG:=λv U H Q=>Q (U.set i (ag v)) H
theorem Ss{i:Nat}{x:aj}(b:X.N.Nodup)(d:X.N[i]?=ag x)(a:DS X.env.scope x)(e:X.fn x=aC\/X.env.scope.names.lookup x=ag .local:=by first | exact .inl rfl | exact .inr rfl | assumption):PG X (.Name x pos) (Sr i):=by intro g s U H v u Q I r h;exact wpAny_assign_Name (Vo I b d a r (λf c=>⟨_,H,c,h⟩) e)
noncomputable def Zii:TGs:=λvs U H Q=>vs=[]/\Q U H
noncomputable def Zd3(t:TG)(u:TGs):TGs:=λvs U H Q=>∃v r,vs=v::r/\t v U H λU' H'=>u r U' H' Q
theorem Yn:PGs X [] Zii:=by intro a s U H vs b Q I r h;obtain⟨e,h⟩:=h;subst e;cases r;exact assignInOrder_nil ⟨U,H,I,h⟩
theorem Zw{e:bB}{a:List bB}{t:TG}{u:TGs}(c:PG X e t)(d:PGs X a u)
  (hs:(jI (e::a) X.env).map (·.2)=assign e X.env::(jI a X.env).map (·.2):=by rfl):PGs X (e::a) (Zd3 t u):=by
 intro b s U H vs k Q I r h;obtain⟨v,l,f,h⟩:=h;subst f
 cases r with
 | cons r rr=>
  rw[hs];refine assignInOrder_cons (Yf (c b s U H _ _ _ I r h) λ_ s1 ⟨U1,i,j,g⟩=>?_);exact d b s1 U1 i _ _ Q j rr g
noncomputable def Zij(K:aE)(n:Nat)(t:TGs):TG:=λv U H Q=>∃a xs,v = .ref a/\SqT K H a xs/\xs.length=n/\t xs U H Q
theorem YM{c:List bB}{k:Nat}{t:TGs}{n:Nat}(q:X.calm=aC)(h:PGs X c t)
  (m:(jI c X.env).length=n:=by rfl) (d:(jI c X.env).findIdx? (·.1)=aA:=by rfl):PG X (.Tuple c k pos) (Zij X.K n t):=by
 intro x s U H v u Q I r f;obtain⟨a,xs,j,y,l,f⟩:=f;subst j;cases r;obtain⟨z,g,i,A⟩:=I.tuple y;refine assign_Tuple_tuple (I.ok.hd q) i (by simp[m,<-l,g.length]) d λh' p=>?_;have w:=I.kept (t':=s.toks) λb o e=>p b o (az (aP e)) e;exact h x _ U H xs _ Q w (by simpa using g) f
noncomputable def Zfj(to ti:TE)(t:Zfi):TG:=λv U H Q=>to U H λo H1=>ti U H1 λi H2=>t o i v H2 λH3=>Q U H3
theorem TX{o i:bB}{e d:TE}{t:Zfi}(m:PE X o e)(g:PE X i d)(hs:Zih X t)
  (C:∀v,assign (.Subscript o i pos) X.env v=(do
   let a <-holding [v] (eval o X.env);let b <-holding [v,a] (eval i X.env)
   mJ pos
   holding [v,a,b] (setItem a b v)
   release [v,a,b] []):=by intro _;rfl):PG X (.Subscript o i pos) (Zfj e d t):=by
 intro c s U H v u Q I r h;refine aI (dW (Yf (m c s U H _ I h) λa s1 ⟨x,n,z,p,l⟩=>?_));refine aI (dW (Yf (g c s1 U n _ z l) λb s2 ⟨y,f,q,A,w⟩=>?_));refine aI (gO (aI (dW (Yf (hs c s2 U f x y v a b u _ q p A r w) λ_ D ⟨B,j,k⟩=>?_))));exact wpAny_release ⟨U,B,j,k⟩
noncomputable def J7(te:TE)(g:TG):TS:=λD U H=>te U H λx H1=>g x U H1 D.nx
theorem TY{a e:bB}{b:TE}{g:TG}(n:PE X e b)(f:PG X a g)(hs:swapsWithSole [a] e pos.line X.env=pure aB:=by rfl)(j:swappedStores [a] e X.env=pure aA:=by rfl)
  (d:(jI [a] X.env).map (·.2)=[assign a X.env]:=by rfl):PS X (.Assign [a] e pos) (J7 b g):=by
 intro c s U H D I h;refine wpAny_Assign_stores (Yf (n c s U H _ I h) λv s1 ⟨x,k,m,l,i⟩=>?_) hs j;rw[d];exact Yf (f c s1 U k x v _ m l i) λ_ s2 q=>q
theorem Zfk{i:Nat}{x:aj}{e:bB}{a:TE}{pos':da}(j:X.N.Nodup)(b:X.N[i]?=ag x)(f:DS X.env.scope x)(m:PE X e a)(hs:eK e (ag (.Name x pos')) pos.line X.env=pure aB:=by rfl)(o:X.fn x=aC\/X.env.scope.names.lookup x=ag .local:=by first | exact .inl rfl | exact .inr rfl | assumption) :
  PS X (.Assign [.Name x pos'] e pos) (J7 a (Sr i)):=by
 intro n s U H D I h;refine wpAny_Assign_Name (Yf (m n s U H _ I h) λv s1 ⟨y,d,l,g,c⟩=>?_) hs;exact Vo l j b f g (λs2 k=>⟨_,d,k,c⟩) o
noncomputable def Zik(i:Nat)(te:TE)(ti:TIp):TS:=λD U H=>∃x,U[i]?=ag (ag x)/\te U H λy H1=>ti x y H1 λz H2=>D.nx (U.set i (ag z)) H2
theorem Zfl{i:Nat}{x:aj}{e:bB}{o:TE}{op:nQ}{t:TIp}{pos':da}(O:X.N.Nodup)(p:X.N[i]?=ag x)(g:DS X.env.scope x)(T:PE X e o)(G:PIp X op t)(Y:X.fn x=aC\/X.env.scope.names.lookup x=ag .local:=by first | exact .inl rfl | exact .inr rfl | assumption) :
  PS X (.AugAssign (.Name x pos') op e pos) (Zik i o t):=by
 intro n s U H D I h;obtain⟨v,E,h⟩:=h;obtain⟨m,M,J⟩:=I.loc;have j:Vis X.env.scope x:=by rcases g with k | k;exact .inl k;exact .inr (.inl k)
 obtain⟨u,r,l⟩:=J i x v p E j;refine wpAny_AugAssign_Name ?_;have q:av (model X.prog X.w) X.A (eval e X.env) (λw d=>av (model X.prog X.w) X.A (inplaceOp op u w) (λr f=>av (model X.prog X.w) X.A (storeName X.env x r) (λ_=>SP X n D .next) X.xe f) X.xe d) X.xe s:=by refine Yf (T n s U H _ I h) λw s1 ⟨y,L,S,N,F⟩=>?_;refine Yf (G n s1 U L v y u w _ S r N F) λz s2 ⟨Z,A,P,W,R⟩=>?_;exact Vo P O p g W (λs3 C=>⟨_,A,C,R⟩) Y
 rcases l with⟨a,B⟩ | ⟨a,c,Q,b⟩
 ·exact k9 I.ok.kind a M B q
 ·rcases a with a | a
  ·exact lG I.ok.kind a Q b q
  ·rcases g with k | k
   ·have:X.env.scope.names.lookup x=ag .free:=a;rw[k] at this;cases this
   ·have:X.env.scope.names.lookup x=ag .free:=a;rw[k] at this;cases this
noncomputable def ipI(f:Int->Int->Int):TIp:=λx y H Q=>∃i j,x = .int i/\y = .int j/\Q (.int (f i j)) H
theorem Zfm:PIp X .Add (ipI λi j=>i+j):=by intro e s U H x y v u Q I c d h;obtain⟨i,j,b,a,q⟩:=h;subst b;subst a;obtain⟨t,rfl⟩:=c;obtain⟨t',rfl⟩:=d;exact iadd_int ⟨.int _,H,I.tok _,⟨_,rfl⟩,q⟩
end
section
variable {X:Cx} {pos:da}
noncomputable def Zfn(c:TT)(tb:TS):TS:=λD U H=>∃W:Nat->St->Hp->Prop,(∃m,W m U H)/\∀m U H,W m U H->
 c U H λb H1=>if b=aC then ∃N:St->Hp->Prop,(∀U' H',N U' H'->∃m',m'<m/\W m' U' H')/\tb { D with nx:=N,ct:=N,bk:=D.nx } U H1 else D.nx U H1
theorem DZ{c:bB}{a:List ba}{u:TT}{y:TS}(q:ky (model X.prog X.w) X.A X.env X.xe)(C:PT X c u)(F:PSs X a y):PS X (.While c a [] pos) (Zfn u y):=by
 intro o s U H D I h;obtain⟨W,⟨A,B⟩,turn⟩:=h;refine wpAny_While (codeAny_whileLoop (λn G=>∃U' H',Inv X o U' H' G/\W n U' H') ?_ A ⟨U,H,I,B⟩);rintro n s1 ⟨U1,t,E,z⟩;refine eM q (Yf (C o s1 U1 t _ E (turn n U1 t z)) λb s2 ⟨p,w,g⟩=>?_)
 cases b with
 | true=>
  obtain⟨N,x,g⟩:=g;refine eM q (Yf (F o s2 U1 p _ w g) λf J e=>?_)
  cases f with
  | next=>
   obtain⟨U3,d,l,m⟩:=e;obtain⟨k,j,i⟩:=x U3 d m;exact⟨k,j,U3,d,l,i⟩
  | cont=>
   obtain⟨U3,d,l,m⟩:=e;obtain⟨k,j,i⟩:=x U3 d m;exact⟨k,j,U3,d,l,i⟩
  | brk=>exact e
  | ret v=>exact e
 | false=>
  exact gX ⟨U1,p,w,g⟩
end
structure It where
 go:Nat->Hp->Prop
 yld:Nat->Hp->V->Hp->Prop
 stop:Nat->Hp->Prop
noncomputable def VF(X:Cx)(o4:List (aK×cg))(H:Hp)(b:aK):Prop:=
 H b=aA/\b≠X.env.locals/\b∉X.fs/\(b∈X.ex\/X.s₀.heap.objs.size<=b)/\(∀x c,X.env.cells.lookup x=ag c->c≠b)/\∀p∈X.pn++o4,p.1≠b
theorem Inv.fpOk{X:Cx}{f:List (aK×cg)}{U:St}{H d:Hp}{s:aM}{b:aK}(I:Inv X f U H s)(a:s.heap.objs.size<=b)(g:d b=aA):VF X f d b:=by
 refine⟨g,dk (aZ I.lt a),I.nofs a,.inr (bO I.sz a),λx c e z=>?_,λp h z=>?_⟩
 ·obtain⟨v,q⟩:=I.cell x c e;exact absurd (aZ q.lt (by rw[z];exact a)) (bu _)
 ·exact absurd (aZ (aP (I.pin p h).1) (by rw[z];exact a)) (bu _)
structure MF(P:ay)(w:b9)(K:aE)(tg:bB)(J:It)(fp:List aK)(it:aK)(tn:Nat->bR->Prop):Prop where
 mem:it∈fp
 obj:∀i h,tn i h->∀b∈fp,∃o,h.get? b=ag o/\∀v,o.data≠.cell v
 keep:∀i h h',tn i h->(∀b∈fp,∀o,h.get? b=ag o->h'.get? b=ag o)->tn i h'
 item:∀(X:Cx),X.prog=P->X.w=w->X.K=K->X.calm=aC->∀(i:Nat)(o4:List (aK×cg))(s:aM)(U:St)(H:Hp)(E:aG->aM->Prop),Inv X o4 U H s->(∀b∈fp,VF X o4 H b)->tn i s.heap->J.go i H->
  av (model P w) X.A (oN (.ref it)) (λr s1=>∃u,r=ag u/\
   av (model P w) X.A (kP tg (.ref it) u) (λ_ s2=>∃x H',Inv X o4 U H' s2/\RelV x u/\J.yld i H x H'/\tn (i+1) s2.heap/\∀b∈fp,H' b=aA) E s1) E s
 done:∀(X:Cx),X.prog=P->X.w=w->X.K=K->X.calm=aC->∀(i:Nat)(o4:List (aK×cg))(s:aM)(U:St)(H:Hp)(E:aG->aM->Prop),Inv X o4 U H s->(∀b∈fp,VF X o4 H b)->tn i s.heap->J.stop i H->
  av (model P w) X.A (oN (.ref it)) (λr s1=>r=aA/\Inv X o4 U H s1) E s
 self:∀(A:bU)(i:Nat)(s:aM)(Q:aG->aM->Prop)(E:aG->aM->Prop),tn i s.heap->Q (.ref it) s->av (model P w) A (pyIter (.ref it)) Q E s
abbrev TI:=St->Hp->(It->Hp->Prop)->Prop
noncomputable def PIE(X:Cx)(o4:List (aK×cg))(U:St)(tg:bB)(R:It->Hp->Prop)(itv:aG)(s2:aM):Prop:=
 ∃(it:aK) (fp:List aK) (tn:Nat->bR->Prop) (J:It) (H':Hp),itv = .ref it/\Inv X o4 U H' s2/\MF X.prog X.w X.K tg J fp it tn/\tn 0 s2.heap/\(∀b∈fp,VF X o4 H' b)/\R J H'
noncomputable def PI(X:Cx)(tg iter:bB)(wi:TI):Prop:=
 ∀(o4:List (aK×cg))(s:aM)(U:St)(H:Hp)(R:It->Hp->Prop),Inv X o4 U H s->wi U H R->
  av (model X.prog X.w) X.A (eval iter X.env) (λv s1=>av (model X.prog X.w) X.A (pyIter v) (PIE X o4 U tg R) X.xe s1) X.xe s
theorem D3{M:mx}{A:bU}{E:aG->aM->Prop}{s:aM}{b:bB}{c:aK}{u:aG}{o:cg}{n:String}{vs:Array aG}{Q:Unit->aM->Prop}(d:s.heap.get? c=ag o)(f:o.cls = .type n)(hd:o.data = .fields vs)
    (e:["enumerate","zip","dict_itemiterator","dict_reverseitemiterator","odict_iterator","itertools.zip_longest","itertools.pairwise"].contains n=aB) (a:Q () s):av M A (kP b (.ref c) u) Q E s:=by
  cases b<;>first
    | exact a9 a
    | (cases u<;>first
        | exact a9 a
        | (refine aI (wpAny_load d ?_)
           rw[f,hd];show av M A (if(["enumerate","zip","dict_itemiterator","dict_reverseitemiterator","odict_iterator","itertools.zip_longest","itertools.pairwise"].contains n&&vs[0]?==ag (eF _))=aC then _ else _) Q E s;rw[oY (by intro h;rw[e] at h;cases h)];exact a9 a))
noncomputable def Itl(K:aE)(a:aK):It:=
 ⟨λi H=>∃xs x,SqL K H a xs/\xs[i]?=ag x,λi H x H'=>H'=H/\∀xs,SqL K H a xs->xs[i]?=ag x,λi H=>∃xs,SqL K H a xs/\xs.length<=i⟩
noncomputable def Itt(K:aE)(a:aK):It:=
 ⟨λi H=>∃xs x,SqT K H a xs/\xs[i]?=ag x,λi H x H'=>H'=H/\∀xs,SqT K H a xs->xs[i]?=ag x,λi H=>∃xs,SqT K H a xs/\xs.length<=i⟩
noncomputable def Itr(lo:Int)(n:Nat):It:=⟨λi _=>i<n,λi H x H'=>H'=H/\x = .int (lo+i),λi _=>n<=i⟩
theorem F7{P:ay}{w:b9}{K:aE}{N:bB}(a f:aK):MF P w K N (Itl K a) [f] f (λi h=>h.IsListIter f a i) where
 mem:=by simp
 obj:=λi h st b g=>by
  have e:b=f:=by simpa using g
  subst e;obtain⟨o,e,c,d⟩:=st;exact⟨o,e,λv z=>by rw[d] at z;cases z⟩
 keep:=λi h h' st k=>st.at λo e=>k f (by simp) o e
 item:=by intro X n t D J i W s U H E I m st q;subst n t D;obtain⟨xs,x,l,y⟩:=q;obtain⟨L,F,p,Y⟩:=I.list l;obtain⟨u,Z,O⟩:=F.get y;obtain⟨G,f1,Q,A,B,C⟩:=m f (by simp);refine wpAny_pyNext_list_item st p.isList (by simpa using Z) λh' j T=>?_;have R:=I.turned (t':=s.toks) (λb o g e=>(T.2 b g).trans e) G f1 A B C;obtain⟨o,e,c,d⟩:=id j;exact⟨u,rfl,D3 e c d rfl ⟨x,H,R,O,⟨rfl,λys M=>by rw[I.list_inj M l];exact y⟩,j,λb g=>(m b g).1⟩⟩
 done:=by intro X n t D J i W s U H E I m st q;subst n t D;obtain⟨xs,l,y⟩:=q;obtain⟨L,F,p,Y⟩:=I.list l;obtain⟨G,f1,Q,A,B,C⟩:=m f (by simp);have hl:=F.length;exact wpAny_pyNext_list_end (I.ok.hd J) st p.isList (by simp;omega) λh' S=>⟨rfl,I.turned (λb o g e=>S b o g e) G f1 A B C⟩
 self:=λ_ _ _ _ _ st h=>wpAny_pyIter_listiter st h
theorem J8{P:ay}{w:b9}{K:aE}{N:bB}(a f:aK):MF P w K N (Itt K a) [f] f (λi h=>h.IsTupleIter f a i) where
 mem:=by simp
 obj:=λi h st b g=>by
  have e:b=f:=by simpa using g
  subst e;obtain⟨o,e,c,d⟩:=st;exact⟨o,e,λv z=>by rw[d] at z;cases z⟩
 keep:=λi h h' st k=>st.at λo e=>k f (by simp) o e
 item:=by intro X n t D J i W s U H E I m st q;subst n t D;obtain⟨xs,x,l,y⟩:=q;obtain⟨L,F,p,Y⟩:=I.tuple l;obtain⟨u,Z,O⟩:=F.get y;obtain⟨G,f1,Q,A,B,C⟩:=m f (by simp);refine wpAny_pyNext_tuple_item st (p) (by simpa using Z) λh' j T=>?_;have R:=I.turned (t':=s.toks) (λb o g e=>(T.2 b g).trans e) G f1 A B C;obtain⟨o,e,c,d⟩:=id j;exact⟨u,rfl,D3 e c d rfl ⟨x,H,R,O,⟨rfl,λys M=>by rw[I.tuple_inj M l];exact y⟩,j,λb g=>(m b g).1⟩⟩
 done:=by intro X n t D J i W s U H E I m st q;subst n t D;obtain⟨xs,l,y⟩:=q;obtain⟨L,F,p,Y⟩:=I.tuple l;obtain⟨G,f1,Q,A,B,C⟩:=m f (by simp);have hl:=F.length;exact wpAny_pyNext_tuple_end (I.ok.hd J) st (p) (by simp;omega) λh' S=>⟨rfl,I.turned (λb o g e=>S b o g e) G f1 A B C⟩
 self:=λ_ _ _ _ _ st h=>wpAny_pyIter_tupleiter st h
theorem J9{P:ay}{w:b9}{K:aE}{C:bB}(a:aK)(lo:Int)(n:Nat):MF P w K C (Itr lo n) [a] a (λi h=>IsRangeIter h a (lo+(i:Nat)*1) ((n:Int)-(i:Nat)) 1) where
 mem:=by simp
 obj:=λi h st b c=>by
  have e:b=a:=by simpa using c
  subst e
  exact⟨_,st,λv z=>by
   have J:=z;cases J⟩
 keep:=λi h h' st k=>k a (by simp) _ st
 item:=by intro X u x y m i A s U H E I f st g;subst u x y;obtain⟨q,f1,D,j,l,p⟩:=f a (by simp);have W:=Walks.range (prog:=X.prog) (w:=X.w) (I.ok.hd m) a lo 1 n;refine W.item i s _ _ g st λv h' tk B d kk=>?_;obtain⟨t,rfl⟩:=B;have F:Inv X A U H { s with heap:=h',toks:=tk }:=I.turned (λb o c e=>kk b o (by simpa using c) e) q f1 j l p;refine⟨_,rfl,D3 d rfl rfl rfl ⟨.int (lo+i),H,F,⟨t,?_⟩,⟨rfl,rfl⟩,d,λb c=>(f b c).1⟩⟩;rw[Int.mul_one]
 done:=by intro X u x y m i A s U H E I f st g;obtain⟨q,f1,D,j,l,p⟩:=f a (by simp);exact wpAny_pyNext_range_end (I.ok.hd m) st (by have:n<=i:=g;omega) λh' G=>⟨rfl,I.turned (λb o c e=>G b o c e) q f1 j l p⟩
 self:=λ_ _ _ _ _ st h=>wpAny_pyIter_rangeiter st h
section
variable {X:Cx} {tg:bB}
noncomputable def Zim(K:aE)(tl:TE):TI:=λU H R=>tl U H λx H1=>∃a,x = .ref a/\(∃xs,SqL K H1 a xs)/\R (Itl K a) H1
noncomputable def Zld(K:aE)(tl:TE):TI:=λU H R=>tl U H λx H1=>∃a,x = .ref a/\(∃xs,SqT K H1 a xs)/\R (Itt K a) H1
theorem Zah{l:bB}{d:TE}(n:PE X l d):PI X tg l (Zim X.K d):=by
 intro m s U H R I h;refine Yf (n m s U H _ I h) λv s1 ⟨x,i,c,j,g⟩=>?_;obtain⟨a,e,⟨xs,f⟩,q⟩:=g;subst e;cases j;obtain⟨t,w,p,u⟩:=c.list f;refine wpAny_pyIter_list p.isList ?_;refine⟨s1.heap.objs.size,[s1.heap.objs.size],_,_,i,rfl,c.kept λb o e=>aH _ e,F7 a _,⟨_,af _ rfl,rfl,rfl⟩,λb k=>?_,q⟩;have e:b=s1.heap.objs.size:=by simpa using k
 subst e;exact c.fpOk (aa _) (c.hok.fresh (aa _))
theorem Zfo{l:bB}{d:TE}(n:PE X l d):PI X tg l (Zld X.K d):=by
 intro m s U H R I h;refine Yf (n m s U H _ I h) λv s1 ⟨x,i,c,j,g⟩=>?_;obtain⟨a,e,⟨xs,f⟩,q⟩:=g;subst e;cases j;obtain⟨t,w,p,u⟩:=c.tuple f;refine l4 (p) ?_;refine⟨s1.heap.objs.size,[s1.heap.objs.size],_,_,i,rfl,c.kept λb o e=>aH _ e,J8 a _,⟨_,af _ rfl,rfl,rfl⟩,λb k=>?_,q⟩;have e:b=s1.heap.objs.size:=by simpa using k
 subst e;exact c.fpOk (aa _) (c.hok.fresh (aa _))
theorem Kk{d:List (aK×cg)}{U:St}{H:Hp}{s:aM}{R:It->Hp->Prop}{E:aG->aM->Prop}{lo a:Int}{t u v:Tok}{tk:Nat}(I:Inv X d U H s)(f : -(2^62)<=lo)(h:lo<2^62)(j : -(2^62)<=a)(l:a<2^62)
  (q:R (Itr lo (a-lo).toNat) H):av (model X.prog X.w) X.A (pyIter (.ref s.heap.objs.size)) (PIE X d U tg R) E { s with heap:=s.heap.push { cls:=.type "range",data:=.fields #[.int lo t,.int a u,.int 1 v] },toks:=tk }:=by
 refine wpAny_pyIter_range (oR ..) (small_one f h j l) ?_;have c:Inv X d U H { s with heap:=s.heap.push { cls:=.type "range",data:=.fields #[.int lo t,.int a u,.int 1 v] },toks:=tk }:=I.kept λb o e=>aH _ e
 refine⟨(s.heap.push { cls:=.type "range",data:=.fields #[.int lo t,.int a u,.int 1 v] }).objs.size,[(s.heap.push { cls:=.type "range",data:=.fields #[.int lo t,.int a u,.int 1 v] }).objs.size],_,_,H,rfl,
  c.kept λb o e=>aH _ e,J9 _ lo (a-lo).toNat,?_,λb k=>?_,q⟩
 ·have i:lo+((0:Nat):Int)*1=lo:=by simp
  have g:(((a-lo).toNat:Nat):Int)-((0:Nat):Int)=kD.Range.rangeSize lo a 1:=by rw[rangeSize_one];split<;>omega
  rw[i,g];exact af _ rfl
 ·have e:b=(s.heap.push { cls:=.type "range",data:=.fields #[.int lo t,.int a u,.int 1 v] }).objs.size:=by simpa using k
  subst e;exact c.fpOk (aa _) (c.hok.fresh (aa _))
noncomputable def Zin(ta:TA):TI:=λU H R=>ta U H λvs H1=>∃j:Int,vs=[.int j]/\-(2^62)<=j/\j<2^62/\R (Itr 0 j.toNat) H1
noncomputable def Zio(ta:TA):TI:=λU H R=>ta U H λvs H1=>∃i j:Int,vs=[.int i,.int j]/\(-(2^62)<=i/\i<2^62/\-(2^62)<=j/\j<2^62)/\R (Itr i (j-i).toNat) H1
theorem F8{a:bB}{d:TA}{p b:da}(g:Gl X "range")(f:X.mg "range" = aA)(i:PA X [a] d)(hs:aO [a] X.env=[(aB,eval a X.env)]:=by rfl):PI X tg (.Call (.Name "range" p) [a] [] b) (Zin d):=by
 intro n s U H R I h;refine Call_ (VD I g f nR (cJ (Yf (i b n s U H _ I h) λo s1 ⟨vs,u,m,k,c⟩=>?_) hs rfl));obtain⟨j,e,c,l,q⟩:=c;subst e
 cases k with
 | cons r rr=>
  cases rr;obtain⟨t,rfl⟩:=r;exact call_range_1 (Kk m (by omega) (by omega) c l (by simpa using q))
theorem F9{a b:bB}{g:TA}{p c:da}(l:Gl X "range")(k:X.mg "range" = aA)(m:PA X [a,b] g)(hs:aO [a,b] X.env=[(aB,eval a X.env),(aB,eval b X.env)]:=by rfl)(d:aO [b] X.env=[(aB,eval b X.env)]:=by rfl) :
  PI X tg (.Call (.Name "range" p) [a,b] [] c) (Zio g):=by
 intro x s U H R I h;refine Call_ (VD I l k nR (cJ (Yf (m c x s U H _ I h) λy s1 ⟨vs,z,w,o,f⟩=>?_) (by rw[hs,d]) (by rw[d];rfl)));obtain⟨i,j,e,⟨f,v,n,u⟩,q⟩:=f;subst e
 cases o with
 | cons r rr=>
  cases rr with
  | cons r' rr=>
   cases rr;obtain⟨t,rfl⟩:=r;obtain⟨t',rfl⟩:=r';exact call_range_2 (Kk w f v n u q)
noncomputable def Zle(wi:TI)(g:TG)(tb:TS):TS:=λD U H=>wi U H λJ H1=>∃W:Nat->Nat->St->Hp->Prop,(∃m,W 0 m U H1)/\∀i m U H,W i m U H->
 (J.stop i H/\D.nx U H)\/(J.go i H/\∃N:St->Hp->Prop,(∀U' H',N U' H'->∃m',m'<m/\W (i+1) m' U' H')/\∀x H',J.yld i H x H'->g x U H' λU2 H2=>tb { D with nx:=N,ct:=N,bk:=D.nx } U2 H2)
noncomputable def Rx(fp:List aK)(h:bR):List (aK×cg):=fp.filterMap λb=>(h.get? b).map λo=>(b,o)
theorem VG{a:List aK}{h:bR}{b:aK}{o:cg}(c:b∈a)(e:h.get? b=ag o):(b,o)∈Rx a h:=g8.mpr ⟨b,c,by rw[e];rfl⟩
theorem Ea{a:List aK}{h:bR}{p:aK×cg}(f:p∈Rx a h):p.1∈a/\h.get? p.1=ag p.2:=by
 obtain⟨b,c,e⟩:=g8.mp f
 cases q:h.get? b with
 | none=>rw[q] at e;cases e
 | some o=>
  rw[q] at e;have d:=bG e;subst d;exact⟨c,q⟩
theorem Inv.pinned{c:List (aK×cg)}{U:St}{H:Hp}{s:aM}{a:List aK}(I:Inv X c U H s)(k:∀b∈a,VF X c H b)(i:∀b∈a,∃o,s.heap.get? b=ag o/\∀v,o.data≠.cell v):Inv X (c++Rx a s.heap) U H s:=
 I.pins_of λp h=>(ah.mp h).elim (λz=>I.pin p (aq _ z)) λz=>by obtain⟨f,e⟩:=Ea z;obtain⟨l,f1,j,_⟩:=k p.1 f;obtain⟨o,g,d⟩:=i p.1 f;rw[e] at g;cases g;exact⟨e,l,f1,j,d⟩
theorem Inv.unpinned{a pl:List (aK×cg)}{U:St}{H:Hp}{s:aM}(I:Inv X (a++pl) U H s):Inv X a U H s:=I.pins_of λp b=>I.pin p (aq _ (bA _ b))
theorem Zfp{k:bB}{p:List ba}{wi:TI}{g:TG}{Y:TS}{M:da}(z:ky (model X.prog X.w) X.A X.env X.xe)(hc:X.calm=aC)(hi:PI X tg k wi)(hg:PG X tg g)(j:PSs X p Y)
  (hs:∀x,bq k X.env x=pure x:=by intro _;rfl):PS X (.For tg k p [] M) (Zle wi g Y):=by
 intro t s U H D I h;refine wpAny_For (Yf (hi t s U H _ I h) λv s1 h1=>Yf h1 λitv s2 h2=>?_) hs;obtain⟨it,A,tn,J,H2,e,I2,T,O,S,W,⟨m0,w0⟩,turn⟩:=h2;subst e
 -- what stays aC of the iterator's objects through the loop
 have c:∀{H':Hp},(∀b∈A,H' b=aA)->∀b∈A,VF X t H' b:=λhn b j=>⟨hn b j,(S b j).2⟩;refine codeAny_forLoop_any (λn Z=>∃i U' H',Inv X t U' H' Z/\tn i Z.heap/\(∀b∈A,H' b=aA)/\W i n U' H') ?_ m0 ⟨0,U,H2,I2,O,λb j=>(S b j).1,w0⟩;rintro n s3 ⟨i,U3,F,R,y,C,w3⟩;rcases turn i n U3 F w3 with⟨E,qn⟩ | ⟨go,N,hN,step⟩
 ·refine eM z (Yf (T.done X rfl rfl rfl hc i t s3 U3 F X.xe R (c C) y E) λr s4 ⟨Q,I4⟩=>?_);subst Q;exact gX ⟨U3,F,I4,qn⟩
 ·refine eM z (Yf (T.item X rfl rfl rfl hc i t s3 U3 F X.xe R (c C) y go) λr s4 ⟨u,Q,h4⟩=>?_);subst Q;refine eM z (Yf h4 λ_ s5 ⟨x,H5,I5,r5,y5,w,L⟩=>?_);have G:=I5.pinned (c L) (T.obj _ _ w);refine eM z (Yf (hg _ s5 U3 H5 x u _ G r5 (step x H5 y5)) λ_ s6 ⟨U6,H6,I6,q6⟩=>?_);refine eM z (Yf (j _ s6 U6 H6 _ I6 q6) λf P q=>?_);have again:∀{U7:St}{a:Hp},Inv X (t++Rx A s5.heap) U7 a P->N U7 a->∃m,m<n/\∃i U' H',Inv X t U' H' P/\tn i P.heap/\(∀b∈A,H' b=aA)/\W i m U' H':=λ{U7 a} l B=>by obtain⟨m',hm,w7⟩:=hN U7 a B;refine⟨m',hm,i+1,U7,a,l.unpinned,T.keep _ _ _ w λb j o e=>(l.pin (b,o) (aq _ (aq _ (VG j e)))).1,λb j=>?_,w7⟩;obtain⟨o,e,d⟩:=T.obj _ _ w b j;exact(l.pin (b,o) (aq _ (aq _ (VG j e)))).2.1
  cases f with
  | next=>obtain⟨U7,a,l,B⟩:=q;exact again l B
  | cont=>obtain⟨U7,a,l,B⟩:=q;exact again l B
  | brk=>obtain⟨U7,a,l,q⟩:=q;exact⟨U7,a,l.unpinned,q⟩
  | ret v=>obtain⟨x7,U7,a,l,r7,q⟩:=q;exact⟨x7,U7,a,l.unpinned,r7,q⟩
end
abbrev R2:=V->V->Hp->VK->Prop
noncomputable def Sm(X:Cx)(f:aG->aG->Sem aG)(r:R2):Prop:=
 ∀(o4:List (aK×cg))(s:aM)(U:St)(H:Hp)(x y:V)(v u:aG)(Q:VK),Inv X o4 U H s->RelV x v->RelV y u->r x y H Q->
  av (model X.prog X.w) X.A (f v u) (EP X o4 U Q) X.xe s
noncomputable def UnR(X:Cx)(f:aG->Sem aG)(r:V->Hp->VK->Prop):Prop:=
 ∀(o4:List (aK×cg))(s:aM)(U:St)(H:Hp)(x:V)(v:aG)(Q:VK),Inv X o4 U H s->RelV x v->r x H Q->
  av (model X.prog X.w) X.A (f v) (EP X o4 U Q) X.xe s
noncomputable def Xh(X:Cx)(f:aG)(r:List V->Hp->VK->Prop):Prop:=
 ∀(o4:List (aK×cg))(s:aM)(U:St)(H:Hp)(xs:List V)(us:List aG)(Q:VK),Inv X o4 U H s->Vals xs us->r xs H Q->
  av (model X.prog X.w) X.A (call f us) (EP X o4 U Q) X.xe s
noncomputable def Zlg(X:Cx)(r:V->Hp->(Bool->Hp->Prop)->Prop):Prop:=
 ∀(o4:List (aK×cg))(s:aM)(U:St)(H:Hp)(x:V)(v:aG)(Q:Bool->Hp->Prop),Inv X o4 U H s->RelV x v->r x H Q->
  av (model X.prog X.w) X.A (truthy v) (TP X o4 U Q) X.xe s
noncomputable def tOp(r:R2)(ta tb:TE):TE:=λU H Q=>ta U H λx H1=>tb U H1 λy H2=>r x y H2 Q
noncomputable def tUn(r:V->Hp->VK->Prop)(ta:TE):TE:=λU H Q=>ta U H λx H1=>r x H1 Q
noncomputable def rI(C:Int->Int->Prop)(g:Int->Int->V):R2:=λx y H Q=>∃i j,x = .int i/\y = .int j/\C i j/\Q (g i j) H
noncomputable def rI0(g:Int->Int->V):R2:=λx y H Q=>∃i j,x = .int i/\y = .int j/\Q (g i j) H
noncomputable def rU(g:Int->V):V->Hp->VK->Prop:=λx H Q=>∃i,x = .int i/\Q (g i) H
section
variable {X:Cx} {a b c:bB} {ta tb tc:TE} {pos:da}
theorem Zfq(j:PE X a ta)(p:PE X b tb){g:List (aK×cg)}{s:aM}{U:St}{H:Hp}{R:V->V->Hp->Prop}(I:Inv X g U H s)
  (h:ta U H λx i=>tb U i λy c=>R x y c) {Q:aG->aM->Prop} {f:aG->aG->Sem aG}
  (t:∀v u s2 x y c,Inv X g U c s2->RelV x v->RelV y u->R x y c->av (model X.prog X.w) X.A (f v u) Q X.xe s2) :
  av (model X.prog X.w) X.A (eval a X.env) (λv d=>av (model X.prog X.w) X.A (eval b X.env) (λu e=>av (model X.prog X.w) X.A (f v u) Q X.xe e) X.xe d) X.xe s:=by
 refine Yf (j g s U H _ I h) λv s1 ⟨x,i,o,l,k⟩=>?_;refine Yf (p g s1 U i _ o k) λu s2 ⟨y,c,m,q,n⟩=>?_;exact t v u s2 x y c m l q n
theorem Gq{op:nQ}{r:R2}(f:Sm X (dj op) r)(e:PE X a ta)(j:PE X b tb):PE X (.BinOp a op b pos) (tOp r ta tb):=by intro k s U H Q I h;exact wpAny_BinOp (Zfq e j I h λv u s2 x y c i g d q=>f k s2 U c x y v u Q i g d q)
theorem Ziq{op:UnaryOp}{r:V->Hp->VK->Prop}(c:UnR X (unaryOp op) r)(f:PE X a ta):PE X (.UnaryOp op a pos) (tUn r ta):=by intro b s U H Q I h;exact UnaryOp_ (Yf (f b s U H _ I h) λv s1 ⟨x,d,e,g,i⟩=>c b s1 U d x v Q e g i)
theorem opI{f:aG->aG->Sem aG}{C:Int->Int->Prop}{g:Int->Int->Int}
  (rule:∀(i j:Int)(t u:Tok)(s:aM)(Q:aG->aM->Prop)(E:aG->aM->Prop),C i j->Q (.int (g i j) s.toks) { s with toks:=s.toks+1 }->av (model X.prog X.w) X.A (f (.int i t) (.int j u)) Q E s) :
  Sm X f (rI C λi j=>.int (g i j)):=by
 intro d s U H x y v u Q I b a h;obtain⟨i,j,rfl,rfl,c,q⟩:=h;obtain⟨t,rfl⟩:=b;obtain⟨t',rfl⟩:=a;exact rule i j t t' s _ _ c ⟨.int (g i j),H,I.tok _,⟨_,rfl⟩,q⟩
theorem Zir{f:aG->aG->Sem aG}{g:Int->Int->Int}
  (rule:∀(i j:Int)(t u:Tok)(s:aM)(Q:aG->aM->Prop)(E:aG->aM->Prop),Q (.int (g i j) s.toks) { s with toks:=s.toks+1 }->av (model X.prog X.w) X.A (f (.int i t) (.int j u)) Q E s) :
  Sm X f (rI0 λi j=>.int (g i j)):=by
 intro c s U H x y v u Q I b a h;obtain⟨i,j,rfl,rfl,q⟩:=h;obtain⟨t,rfl⟩:=b;obtain⟨t',rfl⟩:=a;exact rule i j t t' s _ _ ⟨.int (g i j),H,I.tok _,⟨_,rfl⟩,q⟩
theorem Zfr{f:aG->aG->Sem aG}{g:Int->Int->Bool}
  (rule:∀(i j:Int)(t u:Tok)(s:aM)(Q:aG->aM->Prop)(E:aG->aM->Prop),Q (.bool (g i j)) s->av (model X.prog X.w) X.A (f (.int i t) (.int j u)) Q E s) :
  Sm X f (rI0 λi j=>.bl (g i j)):=by
 intro c s U H x y v u Q I b a h;obtain⟨i,j,rfl,rfl,q⟩:=h;obtain⟨t,rfl⟩:=b;obtain⟨t',rfl⟩:=a;exact rule i j t t' s _ _ ⟨.bl (g i j),H,I,rfl,q⟩
noncomputable def Eb(i j:Int):Prop:=0<j/\j<1073741824
noncomputable def Zd4(i j:Int):Prop:=j≠0/\j.natAbs<1073741824
noncomputable def D4(i j:Int):Prop:=0<=j/\j<=1000000/\i.natAbs<2^64
noncomputable def CMul(i j:Int):Prop:=(-(2^64)<i/\i<2^64)\/(-(2^64)<j/\j<2^64)
theorem CMul.ok{i j:Int}(h:CMul i j):IntMulOk i j:=by
 rcases h with⟨b,a⟩ | ⟨b,a⟩
 ·exact .of_left (intBits_le_64 b a)
 ·exact .of_right (intBits_le_64 b a)
theorem Zfs:Sm X (dj .Add) (rI0 λi j=>.int (i+j)):=Zir λ_ _ _ _ _ _ _ q=>add_int q
theorem Zft:Sm X (dj .Sub) (rI0 λi j=>.int (i-j)):=Zir λ_ _ _ _ _ _ _ q=>sub_int q
theorem Zfu:Sm X (dj .Mult) (rI CMul λi j=>.int (i*j)):=opI λ_ _ _ _ _ _ _ a q=>mul_int q a.ok
theorem Zaj:Sm X (dj .FloorDiv) (rI Eb λi j=>.int (i/j)):=opI λi j _ _ _ _ _ a q=>by have c:=a.1;have b:=a.2;exact floordiv_int (by omega) (by rw[Int.fdiv_eq_ediv_of_nonneg i (by omega)];exact q) (.inl (PyProof.noPylong_small (by omega)))
theorem Zfv:Sm X (dj .Mod) (rI (λ_ j=>0<j) λi j=>.int (i%j)):=opI λi j _ _ _ _ _ a q=>by exact mod_int' (by omega) (by rw[Int.fmod_eq_emod_of_nonneg i (by omega)];exact q)
theorem Zfw:Sm X (dj .Pow) (rI D4 λi j=>.int (i^j.toNat)):=opI λ_ _ _ _ _ _ _ a q=>pow_int_small a.1 a.2.1 a.2.2 q
theorem unI{f:aG->Sem aG}{g:Int->Int}
  (rule:∀(i:Int)(t:Tok)(s:aM)(Q:aG->aM->Prop)(E:aG->aM->Prop),Q (.int (g i) s.toks) { s with toks:=s.toks+1 }->av (model X.prog X.w) X.A (f (.int i t)) Q E s) :
  UnR X f (rU λi=>.int (g i)):=by
 intro b s U H x v Q I a h;obtain⟨i,rfl,q⟩:=h;obtain⟨t,rfl⟩:=a;exact rule i t s _ _ ⟨.int (g i),H,I.tok _,⟨_,rfl⟩,q⟩
theorem Zfx:UnR X (unaryOp .USub) (rU λi=>.int (-i)):=unI λ_ _ _ _ _ q=>neg_int q
end
section
variable {X:Cx} {a b c:bB} {ta tb tc:TE} {pos:da}
theorem Zd5:Sm X (eJ .Lt) (rI0 λi j=>.bl (decide (i<j))):=Zfr λ_ _ _ _ _ _ _ q=>lt_int q
theorem Zd6:Sm X (eJ .Gt) (rI0 λi j=>.bl (decide (j<i))):=Zfr λ_ _ _ _ _ _ _ q=>gt_int q
theorem Zis:Sm X (eJ .GtE) (rI0 λi j=>.bl (decide (j<=i))):=Zfr λ_ _ _ _ _ _ _ q=>ge_int q
theorem VH(b:bB){op:nP}(h:op≠.In:=by decide)(c:op≠.NotIn:=by decide):cY op b=aB:=by
 have d:(op==nP.In)=aB:=by cases op<;>first | rfl | exact absurd rfl h
 have a:(op==nP.NotIn)=aB:=by cases op<;>first | rfl | exact absurd rfl c
 cases b<;>simp[cY,d,a]
theorem Zak{op:nP}{r:R2}(g:Sm X (eJ op) r)(f:PE X a ta)(k:PE X b tb)(d:cY op b=aB):PE X (.Compare a [op] [b] pos) (tOp r ta tb):=by intro l s U H Q I h;exact wpAny_Compare1 (Zfq f k I h λv u s2 x y c j i e q=>g l s2 U c x y v u Q j i e q) d
noncomputable def Gr(t:TE):TT:=λU H Q=>t U H λx H'=>∃k,x = .bl k/\Q k H'
theorem Zal{op:nP}{r:R2}(n:Sm X (eJ op) r)(i:PE X a ta)(A:PE X b tb)(g:cY op b=aB):PT X (.Compare a [op] [b] pos) (Gr (tOp r ta tb)):=by
 intro d s U H Q I h
 refine k4 (Yf (i d s U H _ I h) λv s1 ⟨x,o,w,p,m⟩=>Yf (A d s1 U o _ w m) λu s2 ⟨y,f,q,B,t⟩=>
  Yf (n d s2 U f x y v u _ q p B t) λc E ⟨z,C,j,D,k,e,l⟩=>?_) g
 subst e;cases D;exact df ⟨C,j,l⟩
noncomputable def Zit(K:aE)(x:V)(H:Hp)(k:Bool):Prop:=
 match x with
 | .non=>k=aB
 | .bl b=>k=b
 | .int i=>k=(i != 0)
 | .str y=>y.length<=sizeLine/\k=((y.length:Int) != 0)
 | .byt y=>y.size<=sizeLine/\k=((y.size:Int) != 0)
 | .ref p=>(∃xs,SqL K H p xs/\k = !xs.isEmpty)\/(∃xs,SqT K H p xs/\k = !xs.isEmpty)\/∃o5,H p=ag (.dK o5)/\k = !o5.isEmpty
 | _=>False
theorem Ia{b:Type}{a:List (b×V)}{vs:List (b×aG)}(r:KV a vs):(!vs.isEmpty) = !a.isEmpty:=by cases r<;>rfl
theorem Pu{xs:List V}{a:List aG}(r:Vals xs a):(!a.toArray.isEmpty) = !xs.isEmpty:=by cases r<;>simp
theorem MG:(sizeLine:Nat)<2^63:=by rw[gn];decide
theorem Zfy:Zlg X (λx H Q=>∃k,Zit X.K x H k/\Q k H):=by
 intro u s U H x v Q I d h;obtain⟨k,e,q⟩:=h;have hs:=gn
 cases x with
 | non=>
  cases d;have a:=e;subst a;exact truthy_none ⟨H,I,q⟩
 | bl b=>
  cases d;have a:=e;subst a;exact df ⟨H,I,q⟩
 | int i=>
  obtain⟨t,rfl⟩:=d;have a:=e;subst a;exact PySem.P.truthy_int ⟨H,I,q⟩
 | str y=>
  obtain⟨t,rfl⟩:=d;obtain⟨n,a⟩:=e;subst a;exact PySem.P.truthy_str (by omega) ⟨H,I.tok _,q⟩
 | byt y=>
  obtain⟨t,rfl⟩:=d;obtain⟨n,a⟩:=e;subst a;exact PySem.W.truthy_bytes (by omega) ⟨H,I.tok _,q⟩
 | ref p=>
  cases d;have a:=e;rcases a with⟨xs,f,a⟩ | ⟨xs,f,a⟩ | ⟨o,f,a⟩
  ·subst a;obtain⟨j,r,pl,g⟩:=I.list f;have c:=r.length;exact wpAny_truthy_list pl.isList (by simp only[aT];omega) ⟨H,I.tok _,by rw[Pu r];exact q⟩
  ·subst a;obtain⟨j,r,pl,g⟩:=I.tuple f;have c:=r.length;exact truthy_tuple pl (by simp only[aT];omega) ⟨H,I.tok _,by rw[Pu r];exact q⟩
  ·subst a;obtain⟨g,l,vs,r,m⟩:=I.hok p _ f;have c:=Paired.length r;exact wpAny_truthy_dict l m (by omega) ⟨H,I.tok _,by rw[Ia r];exact q⟩
 | _=>exact(e).elim
theorem D5(g:PE X a ta)(f:∀whole,l3 a X.env whole=(do let v <-whole;mJ a.pos;holding [v] (truthy v))) :
  PT X a (λU H Q=>ta U H λx b=>∃k,Zit X.K x b k/\Q k b):=by
 intro c s U H Q I h;exact isTrue_plain (Yf (g c s U H _ I h) λv s1 ⟨x,d,e,i,j⟩=>Zfy c s1 U d x v Q e i j) (f _)
theorem Ue{x:V}{a:List aG}(r:Vals [x] a):∃u,a=[u]/\RelV x u:=by
 cases r with
 | cons r1 r2=>cases r2;exact⟨_,rfl,r1⟩
theorem Zd7{x y:V}{a:List aG}(r:Vals [x,y] a):∃u w',a=[u,w']/\RelV x u/\RelV y w':=by
 cases r with
 | cons r1 r2=>
  cases r2 with
  | cons r3 r4=>cases r4;exact⟨_,_,rfl,r1,r3⟩
theorem Ec(b:X.calm=aC):Xh X (.builtin "max") (λxs H Q=>∃i j,xs=[.int i,.int j]/\Q (.int (if j>i then j else i)) H):=by
 intro e s U H xs c Q I r h;obtain⟨i,j,rfl,q⟩:=h;obtain⟨u,d,rfl,⟨t,rfl⟩,⟨t',rfl⟩⟩:=Zd7 r;refine max_two_ints (I.ok.hd b) λh' tk k=>⟨_,H,I.kept k,?_,q⟩;by_cases a:j>i
 ·rw[oX a,oX a];exact⟨_,rfl⟩
 ·rw[oY a,oY a];exact⟨_,rfl⟩
theorem NM:Xh X (.type "int") (λxs H Q=>(∃i,xs=[.int i]/\Q (.int i) H)\/∃k,xs=[.bl k]/\Q (.int (if k then 1 else 0)) H):=by
 intro b s U H xs c Q I r h;rcases h with⟨i,rfl,q⟩ | ⟨k,rfl,q⟩
 ·obtain⟨u,rfl,t,rfl⟩:=Ue r;exact call_int_int ⟨.int i,H,I,⟨_,rfl⟩,q⟩
 ·obtain⟨u,rfl,a⟩:=Ue r;cases a;exact call_int_bool ⟨.int (if k then 1 else 0),H,I.tok _,⟨_,rfl⟩,q⟩
noncomputable def Ziu(K:aE)(x:V)(H:Hp)(n:Nat):Prop:=
 match x with
 | .str y=>y.length<=sizeLine/\n=y.length
 | .byt y=>y.size<=sizeLine/\n=y.size
 | .ref p=>(∃xs,SqL K H p xs/\n=xs.length)\/∃xs,SqT K H p xs/\n=xs.length
 | _=>False
theorem D6:Xh X (.builtin "len") (λxs H Q=>∃x n,xs=[x]/\Ziu X.K x H n/\Q (.int n) H):=by
 intro l s U H xs k Q I r h;obtain⟨x,n,rfl,e,q⟩:=h;obtain⟨u,rfl,d⟩:=Ue r;have hs:=gn
 cases x with
 | str y=>
  obtain⟨t,rfl⟩:=d;obtain⟨i,b⟩:=e;subst b;exact len_str (by omega) ⟨.int _,H,I.tok _,⟨_,rfl⟩,q⟩
 | byt y=>
  obtain⟨t,rfl⟩:=d;obtain⟨i,b⟩:=e;subst b;exact PySem.W.len_bytes (by omega) ⟨.int _,H,I.tok _,⟨_,rfl⟩,q⟩
 | ref p=>
  cases d;have b:=e;rcases b with⟨xs,c,b⟩ | ⟨xs,c,b⟩
  ·subst b;obtain⟨g,f,pl,j⟩:=I.list c;have a:=f.length;exact Calls.call_len_list pl.isList (by simp only[aT];omega) ⟨.int xs.length,H,I.tok _,⟨_,by simp only[aT];rw[a]⟩,q⟩
  ·subst b;obtain⟨g,f,pl,j⟩:=I.tuple c;have a:=f.length;exact len_tuple pl (by simp only[aT];omega) ⟨.int xs.length,H,I.tok _,⟨_,by simp only[aT];rw[a]⟩,q⟩
 | _=>exact(e).elim
end
structure ObjM(h:bR)(x dx C:aK)(mA:aj->Option aG):Prop where
 obj:h.get? x=ag (kO C dx)
 ns:h.Ns1 dx mA
 ne:dx≠x
theorem Ed{h:bR}{g:aK}{d:aj->Option aG}(n:h.Ns1 g d):∃od,h.get? g=ag od/\∀b,gv b od=ag (d b):=by
 obtain⟨o,f,ep,l,hd,j,_,k⟩:=n;refine⟨o,l,λb=>?_⟩;have e:=k b;unfold nsFind oO at e;rw[<-jJ] at e;unfold gv;rw[hd]
 dsimp only
 split
 ·rename_i y q;rw[q] at e;exact congrArg ag e
 ·rename_i q;rw[q] at e;have a:f.toList.any (·.refKey)=aB:=by rw[List.any_eq_false];intro y m;obtain⟨z,t,c⟩:=j y (Array.mem_toList_iff.mp m);simp[DictEntry.refKey,c]
  have i:¬f.toList.any (·.refKey)=aC:=by rw[a];exact bx
  rw[oY i];exact congrArg ag e
theorem ObjM.look{h:bR}{x c C:aK}{b:aj->Option aG}(I:ObjM h x c C b):∃a,fD h x (kO C c) C (ag a)/\∀name,gv name a=ag (b name):=
 let⟨a,d,e⟩:=Ed I.ns
 ⟨a,⟨I.obj,rfl,rfl,d⟩,e⟩
theorem RelO.some_of{v:V}{o:Option aG}(r:RelO (ag v) o):∃u,o=ag u/\RelV v u:=by
 cases o with
 | none=>exact(r).elim
 | some u=>exact⟨u,rfl,r⟩
section
variable {P:ay} {w:b9} {H H':Hp} {h h':bR} {a C dx:aK} {fs fs':List (aj×V)}
theorem Zam(c:HOk P w H h)(e:H a=ag (.ins C dx fs)):∃b,ObjM h a dx C b/\(∀f,RelO (fs.lookup f) (b f))/\oK b (fs.map (·.1))/\fs.length<=1000/\H dx=ag (.own a):=by obtain⟨d,z,ne,g,b,n,r,q⟩:=(c a _ e);exact⟨b,⟨g,n,ne⟩,r,q,z,d⟩
end
structure Cls(K:aE)(C:aK):Prop where
 pg:mf K C jm=aC
 hd:PySem.W.hasDictIn K C=aC
 po:PySem.W.plainOver K C=aC
 sa:bg K (.ref C) "__setattr__" = ag (ag (.builtin "object.__setattr__"))
theorem Cls.get{K:aE}{C:aK}(c:Cls K C)(f:aj):mf K C f=aC:=c.pg
section
variable {X:Cx} {o4:List (aK×cg)} {U:St} {H:Hp} {s:aM} {a C dx:aK} {fs:List (aj×V)} {f:aj} {v:V} {A:bU} {E:aG->aM->Prop}
theorem Zan{prog:ay}{w:b9}{env:jR}{e:bB}{f:aj}{b:da}{s:aM}{Q:aG->aM->Prop}(c:j6 e f env (eval e env)=eval e env)
  (h:av (model prog w) A (eval e env) (λo a=>av (model prog w) A (getAttr o f aC) Q E a) E s):av (model prog w) A (eval (.Attribute e f b) env) Q E s:=
 Attribute_any_ h (by rw[arm_eval_Attribute,c])
end
section
variable {X:Cx} {o4:List (aK×cg)} {U:St} {H:Hp} {s:aM} {A:bU} {E:aG->aM->Prop} {Q:aG->aM->Prop} {c:aG} {b:Bool}
inductive TyOf(K:aE)(H:Hp):V->aG->Prop where
 | non:TyOf K H .non (.type "NoneType")
 | bl (x:Bool):TyOf K H (.bl x) (.type "bool")
 | int (i:Int):TyOf K H (.int i) (.type "int")
 | str (x:aj):TyOf K H (.str x) (.type "str")
 | flt (x:UInt64):TyOf K H (.flt x) (.type "float")
 | lst {a:aK} {xs:List V} (e:H a=ag (.lst xs)):TyOf K H (.ref a) (.type "list")
 | frz {a:aK} {o:cg} {xs:List V} (e:H a=ag (.frz o (.lst xs))):TyOf K H (.ref a) (.type "list")
 | tup {a:aK} {xs:List V} (e:H a=ag (.tup xs)):TyOf K H (.ref a) (.type "tuple")
 | dK {a:aK} {o5:List (YR×V)} (e:H a=ag (.dK o5)):TyOf K H (.ref a) (.type "dict")
 | dT {a:aK} {o5:List (List YR×V)} (e:H a=ag (.dT o5)):TyOf K H (.ref a) (.type "dict")
 | ins {a C dx:aK} {fs:List (aj×V)} (e:H a=ag (.ins C dx fs)) (cl:Cls K C) (ha:bg K (.ref C) "__class__" = ag (ag (.builtin "object.__class__")))
   (hn:mK K (.builtin "object.__class__") "__get__" = ag (ag (.builtin "getset_descriptor.__get__"))) (htk:PySem.W.takesIn K (.builtin "object.__class__")=ag aC)
   (hm:j7 K C (.type "object")=ag aC):TyOf K H (.ref a) (.ref C)
theorem Ee{x:V}{u t:aG}(I:Inv X o4 U H s)(d:RelV x u)(ty:TyOf X.K H x t)(e:cz X.K t c=ag b)(h:∀tk,Q (.bool b) { s with toks:=tk }) :
  av (model X.prog X.w) A (call (.builtin "isinstance") [u,c]) Q E s:=by
 cases ty with
 | non=>cases (d);exact cZ PySem.W.kitx_none I.kIn bY e (λz=>nomatch z) h
 | bl y=>cases (d);exact cZ PySem.W.kitx_bool I.kIn bY e (λz=>nomatch z) h
 | int i=>obtain⟨t,q⟩:=(d);cases q;exact cZ PySem.W.kitx_int I.kIn bY e (λz=>nomatch z) h
 | str y=>obtain⟨t,q⟩:=(d);cases q;exact cZ PySem.W.kitx_str I.kIn bY e (λz=>nomatch z) h
 | flt y=>obtain⟨t,q⟩:=(d);cases q;exact cZ PySem.W.kitx_float I.kIn bY e (λz=>nomatch z) h
 | @lst a xs ea=>
  cases (d);obtain⟨_,_,n,_,f⟩:=(I.hok a _ ea);exact cZ mL I.kIn ⟨_,f,rfl⟩ e (λz=>nomatch z) h
 | @frz a ob xs ea=>
  cases (d);obtain⟨_,_,_,n,_,f⟩:=(I.hok a _ ea);exact cZ mL I.kIn ⟨_,f,rfl⟩ e (λz=>nomatch z) h
 | @tup a xs ea=>
  cases (d);obtain⟨_,_,_,p⟩:=(I.hok a _ ea);obtain⟨o,f,g,_⟩:=p;exact cZ PySem.W.kitx_tuple I.kIn ⟨o,f,g⟩ e (λz=>nomatch z) h
 | @dK a o5 ea=>
  cases (d);obtain⟨_,_,vs,_,p⟩:=(I.hok a _ ea);obtain⟨o,j,ep,f,g,_⟩:=p;exact cZ mM I.kIn ⟨o,f,g.1⟩ e (λz=>nomatch z) h
 | @dT a o5 ea=>
  cases (d);obtain⟨_,_,xs,_,o,j,ep,f,g,_⟩:=(I.hok a _ ea);exact cZ mM I.kIn ⟨o,f,g.1⟩ e (λz=>nomatch z) h
 | @ins a C dx fs ea cl ha hn htk hm=>
  cases (d);obtain⟨k,O,_⟩:=Zam I.hok ea;obtain⟨l,J,_⟩:=O.look;exact cZ (PySem.W.kitx_own (cl.get _) cl.hd ha hn htk hm) I.kIn J e (λz=>nomatch z) h
end
structure Room(k:Nat)(A:bU):Prop where
 hd:A.handled=aA
 dp:A.depth+3*k+5<recursionLimit
 un:A.units+16*k+200<eT
 gd:A.guards=ag []
theorem Room.mono{j k:Nat}{A:bU}(r:Room k A)(h:j<=k):Room j A:=⟨r.hd,by have:=r.dp;omega,by have:=r.un;omega,r.gd⟩
theorem Room.deeper{k:Nat}{A:bU}(r:Room (k+1) A)(env:jR):Room k (A.deeper env):=
 ⟨r.hd,by have:=r.dp;show A.depth+1+3*k+5<_;omega,by have:=r.un;show A.units+3+16*k+200<_;omega,r.gd⟩
theorem Ib{A:bU}{C:aK}{b:List aG}{a:List (aj×aG)}:(A.under (.builtin "type.__call__" ⟨.ref C::b,a⟩)).depth=A.depth+1:=by
 first | rfl | simp[jv,Code.weight,Code.isCreation,Code.isGuard,Code.isCaller,Code.frames,mO,guardIds]
theorem Ic{A:bU}{C:aK}{b:List aG}{a:List (aj×aG)}:(A.under (.builtin "type.__call__" ⟨.ref C::b,a⟩)).units=A.units+1:=by
 first | rfl | simp[jv,Code.cUnits,Code.frames,mO]
theorem Room.make{k:Nat}{A:bU}(r:Room (k+1) A)(C:aK)(b:List aG)(a:List (aj×aG)):Room k (A.under (.builtin "type.__call__" ⟨.ref C::b,a⟩)):=
 ⟨r.hd,by have:=r.dp;rw[Ib];omega,by have:=r.un;rw[Ic];omega,by first | exact r.gd | (simpa [jv,pushGuards,Code.guards,Code.isGuard,guardIds] using r.gd)⟩
theorem Room.depth{k:Nat}{A:bU}(r:Room k A):A.depth<recursionLimit:=by have:=r.dp;omega
theorem Room.units{k:Nat}{A:bU}(r:Room k A):A.units+64<eT:=by have:=r.un;omega
noncomputable def Kl:TA:=λ_ H Q=>Q [] H
noncomputable def Tz(ta:TE)(tr:TA):TA:=λU H Q=>ta U H λx H1=>tr U H1 λxs H2=>Q (x::xs) H2
section
variable {X:Cx} {e:bB} {es:List bB} {te:TE} {t:TA} {pos:da}
theorem YF:PA X [] Kl:=λ_ _ _ _ H Q I h=>mP ⟨[],H,I,.nil,h⟩
theorem ZY(d:PE X e te)(f:PA X es t)(hs:aO (e::es) X.env=(aB,eval e X.env)::aO es X.env:=by rfl):PA X (e::es) (Tz te t):=by intro a b s U H Q I h;rw[hs];refine l6 (Yf (d b s U H _ I h) λu s1 ⟨x,i,m,j,g⟩=>?_);exact Yf (f a b s1 U i _ m g) λo s2 ⟨xs,c,k,n,l⟩=>⟨x::xs,c,k,.cons j n,l⟩
noncomputable def Ziv(t:TA):TE:=λU H Q=>t U H λxs H1=>xs.length<=sizeLine/\∀p,H1 p=aA->Q (.ref p) (upd H1 p (.tup xs))
noncomputable def Zlh(t:TA):TE:=λU H Q=>t U H λxs H1=>xs.length<=sizeLine/\∀p,H1 p=aA->Q (.ref p) (upd H1 p (.lst xs))
theorem D7{x1}(h:PA X es t):PE X (.Tuple es x1 pos) (Ziv t):=by intro g s U H Q I d;refine wpAny_Tuple_spliced (Yf (h pos g s U H _ I d) λc s1 ⟨xs,f,a,r,z,q⟩=>⟨by rw[<-r.length];exact z,?_⟩);have i:=a.hok.fresh (aa _);refine⟨.ref s1.heap.objs.size,upd f s1.heap.objs.size (.tup xs),a.laid (λb u e=>aH _ e) (aa _) ?_,rfl,q _ i⟩;exact⟨⟨z,λo e=>Pq e⟩,c,r,⟨_,af _ rfl,rfl,_,rfl⟩⟩
theorem D8(h:PA X es t):PE X (.List es pos) (Zlh t):=by intro g s U H Q I d;refine wpAny_List_spliced (Yf (h pos g s U H _ I d) λc s1 ⟨xs,f,a,r,z,q⟩=>⟨by rw[<-r.length];exact z,?_⟩);have i:=a.hok.fresh (aa _);refine⟨.ref s1.heap.objs.size,upd f s1.heap.objs.size (.lst xs),a.laid (λb u e=>aH _ e) (aa _) ?_,rfl,q _ i⟩;exact⟨z,c,0,r,af _ rfl⟩
end
abbrev Sp:=List V->Hp->VK->XK->Prop
abbrev CXT:=List jR->Hp->aM->XK->aG->aM->Prop
structure Env0(P:ay)(w:b9)(K:aE)(mg:aj->Option aG)(base:bR)(A:bU)(outer:List jR)(s:aM)(H:Hp):Prop where
 frames:A.frames=ag outer
 mod:Mod K mg base
 bs:∀b o,base.get? b=ag o->s.heap.get? b=ag o/\H b=aA
 bsz:base.objs.size<=s.heap.objs.size
 funs:s.heap.FunFrames base outer
 frf:∀b∈Nx outer,H b=aA
 tab:TabsH K mg base H
 hok:HOk P w H s.heap
 bare:jX s.gens
noncomputable def CE(outer:List jR)(P:ay)(w:b9)(H:Hp)(s:aM)(Q:VK)(u:aG)(s':aM):Prop:=
 ∃v H',s'.os=s.os/\jX s'.gens/\Un (Nx outer) [] H H' s.heap s'.heap/\HOk P w H' s'.heap/\RelV v u/\Q v H'
noncomputable def CR(CX:CXT)(outer:List jR)(P:ay)(w:b9)(H:Hp)(s:aM)(Q:VK)(E:XK)(r:nS)(s':aM):Prop:=
 match r with
 | .ok (.ret u)=>CE outer P w H s Q u s'
 | .ok _=>False
 | .error e=>CX outer H s E e s'
structure Tr(P:ay)(w:b9)(K:aE)(mg:aj->Option aG)(base:bR)(CX:CXT)(k:Nat)(f:aK)(fd:eU)(ps:List aj)(sp:Sp):Prop where
 len:∀vs H Q E,sp vs H Q E->vs.length=ps.length
 run:∀(A:bU)(outer:List jR)(s:aM)(H:Hp)(args:Args)(us:List aG)(vs:List V)(Q:VK)(E:XK),Room k A->Env0 P w K mg base A outer s H->mQ s fd args (ps.zip us)->Vals vs us->sp vs H Q E->
  gY (model P w) A (.call (.ref f) args) (CR CX outer P w H s Q E) s
theorem Env0.make{P:ay}{w:b9}{K:aE}{mg:aj->Option aG}{base:bR}{A:bU}{a:List jR}{s:aM}{H:Hp}(e:Env0 P w K mg base A a s H)(C:aK)(c:List aG)(b:List (aj×aG)) :
  Env0 P w K mg base (A.under (.builtin "type.__call__" ⟨.ref C::c,b⟩)) a s H:=⟨by first | exact e.frames | (simpa [jv,Code.envs,mO,pushEnvs] using e.frames),e.mod,e.bs,e.bsz,e.funs,e.frf,e.tab,e.hok,e.bare⟩
section
variable {X:Cx} {o4:List (aK×cg)} {U:St} {H:Hp} {s s':aM}
theorem Inv.env0(I:Inv X o4 U H s):Env0 X.prog X.w X.K X.mg X.base X.A X.stack s H:=
 ⟨I.ok.frames,I.ok.mod,I.bs,bO I.ok.bsz I.sz,I.stack,I.stkFree,I.ok.tab.un I.base,I.hok,I.bare⟩
theorem Inv.after{Q:VK}{u:aG}(I:Inv X o4 U H s)(h:CE X.stack X.prog X.w H s Q u s'):EP X o4 U Q u s':=by obtain⟨v,e,os,a,un,c,r,q⟩:=h;obtain⟨i,g,d,t,f⟩:=s';obtain rfl:=os;exact⟨v,e,I.call un c a (λb z=>absurd z (by simp)),r,q⟩
end
noncomputable def D9(sp:Sp)(dvs:List V)(E:XK)(t:TA):TE:=λU H Q=>t U H λvs H1=>sp (vs++dvs) H1 Q E
noncomputable def Binds(K:aE)(fd:eU)(ps:List aj)(ds:List aG):Prop:=
 ∀(s:aM)(us:List aG),K.In s.heap->(us++ds).length=ps.length->mQ s fd ⟨us,[]⟩ (ps.zip (us++ds))
theorem Binds.all{K:aE}{c:eU}{b:List aj}(h:∀a:List aG,a.length=b.length->gx c ⟨a,[]⟩=pure (b.zip a)):Binds K c b []:=λs a _ d=>by rw[cL] at d ⊢;exact .of_eq (h a d)
noncomputable def Pw(CX:CXT)(X:Cx)(E:XK):Prop:=∀(o4:List (aK×cg))(U:St)(H:Hp)(s:aM)(e:aG)(s':aM),Inv X o4 U H s->CX X.stack H s E e s'->X.xe e s'
section
variable {X:Cx} {CX:CXT} {k:Nat} {f C:aK} {fd:eU} {ps:List aj} {sp:Sp} {dvs:List V} {ds:List aG} {E:XK} {x m:aj} {p pos apos:da} {e o:bB} {es:List bB} {ta:TE} {t:TA}
theorem Cc{c:List (aK×cg)}{U:St}{H:Hp}{s:aM}{Q:VK}{a:List aG}{vs:List V}(F:Tr X.prog X.w X.K X.mg X.base CX k f fd ps sp)(g:Room k X.A)(l:Binds X.K fd ps ds)(hd:Vals dvs ds)(j:Pw CX X E)
  (I:Inv X c U H s) (r:Vals vs a) (h:sp (vs++dvs) H Q E):av (model X.prog X.w) X.A (call (.ref f) a) (EP X c U Q) X.xe s:=by
 have d:=r.append hd;have i:(a++ds).length=ps.length:=by rw[<-d.length];exact F.len _ _ _ _ h
 refine g9 (fK (F.run X.A X.stack s H ⟨a,[]⟩ (a++ds) (vs++dvs) Q E g I.env0 (l s a I.kIn i) d h) λr m b=>?_)
 cases r with
 | error e=>exact j c U H s e m I b
 | ok fl=>
  cases fl with
  | ret u=>exact I.after b
  | next=>exact bw b
  | brk=>exact bw b
  | cont=>exact bw b
theorem Zap(F:Tr X.prog X.w X.K X.mg X.base CX k f fd ps sp)(l:Room k X.A)(i:Gl X x)(g:X.mg x=ag (.ref f))(d:dw X.K (.ref f)=aC)(n:Binds X.K fd ps ds)(hd:Vals dvs ds)(m:Pw CX X E)
  (j:PA X (e::es) t) (b:(x==("__debug__" : aj))=aB:=by decide) (o:aO (e::es) X.env=(aB,eval e X.env)::aO es X.env:=by rfl) (a:(ck pos (aO es X.env)).any (·.1)=aB:=by rfl) :
  PE X (.Call (.Name x p) (e::es) [] pos) (D9 sp dvs E t):=by
 intro u s U H Q I h;refine cX (Wg I i g ?_ b);refine gg I.ok.mod.kin d (Yf (j pos u s U H _ I h) λv s1 ⟨vs,w,c,r,q⟩=>⟨c.kIn,?_⟩) o a;exact Cc F l n hd m c r q
theorem Cd(F:Tr X.prog X.w X.K X.mg X.base CX k f fd ps sp)(d:Room k X.A)(g:Gl X x)(c:X.mg x=ag (.ref f))(b:dw X.K (.ref f)=aC)(i:Binds X.K fd ps ds)(hd:Vals dvs ds)(e:Pw CX X E)
  (a:(x==("__debug__" : aj))=aB:=by decide):PE X (.Call (.Name x p) [] [] pos) (D9 sp dvs E Kl):=by
 intro j s U H Q I h;refine cX (Wg I g c ?_ a);exact PySem.W.callWith_K0 I.kIn b (Cc F d i hd e I .nil h)
end
noncomputable def PK(X:Cx)(kws:List nM)(t:TA):Prop:=
 ∀(pos:da)(o4:List (aK×cg))(s:aM)(U:St)(H:Hp)(Q:List V->Hp->Prop),Inv X o4 U H s->t U H Q->av (model X.prog X.w) X.A (evalAll ((nU pos (kb kws X.env)).map (·.2))) (AP X o4 U Q) X.xe s
structure Zq(N P:List aj)(sc:du):Prop where
 kind:sc.kind = .function
 co:sc.isCoroutine=aB
 gen:sc.isGenerator=aB
 nd:N.Nodup
 pre:N.take P.length=P
 par:∀x∈P,sc.names.lookup x=ag .local\/sc.names.lookup x=ag .cell
 nofree:∀y∈sc.names,y.2≠.free
theorem NN{kindOf:aj->Option eV}{x:aj}:∀{binds:List (aj×aG)}{m:aj->Option aG},(∀v,(x,v)∉binds)->nV kindOf binds m x=m x
 | [],_,_=>rfl
 | (n,v)::r,m,h=>by
  unfold nV;rw[NN λw a=>h w (aR _ a)];split
  ·have:x≠n:=by rintro rfl;exact h v ao
   simp[this]
  ·rfl
theorem NO{kindOf:aj->Option eV}{x:aj}:∀{binds:List (aj×aG)}{m:aj->Option aG},(∀v,(x,v)∉binds)->nX kindOf binds m x=m x
 | [],_,_=>rfl
 | (n,v)::r,m,h=>by
  unfold nX;rw[NO λw a=>h w (aR _ a)];split
  ·rfl
  ·have:x≠n:=by rintro rfl;exact h v ao
   simp[this]
theorem NP{kindOf:aj->Option eV}{x:aj}{v:aG}:∀{P:List aj}{vs:List aG}{i:Nat}{m:aj->Option aG},P.Nodup->P[i]?=ag x->vs[i]?=ag v->kindOf x=ag .local->
  nV kindOf (P.zip vs) m x=ag v
 | [],_,_,_,_,h,_,_=>by simp at h
 | _::_,[],_,_,_,_,h,_=>by simp at h
 | p::P,w::vs,0,m,nd,h1,h2,hk=>by simp at h1 h2;subst h1;subst h2;show nV kindOf ((p,w)::P.zip vs) m p=_;unfold nV;rw[NN λv a=>(aw.mp nd).1 (gZ a).1,oX hk];simp
 | p::P,w::vs,i+1,m,nd,h1,h2,hk=>by show nV kindOf ((p,w)::P.zip vs) m x=_;unfold nV;exact NP (i:=i) (aw.mp nd).2 (by simpa using h1) (by simpa using h2) hk
theorem NQ{kindOf:aj->Option eV}{x:aj}{v:aG}:∀{P:List aj}{vs:List aG}{i:Nat}{m:aj->Option aG},P.Nodup->P[i]?=ag x->vs[i]?=ag v->kindOf x≠ag .local->
  nX kindOf (P.zip vs) m x=ag v
 | [],_,_,_,_,h,_,_=>by simp at h
 | _::_,[],_,_,_,_,h,_=>by simp at h
 | p::P,w::vs,0,m,nd,h1,h2,hk=>by simp at h1 h2;subst h1;subst h2;show nX kindOf ((p,w)::P.zip vs) m p=_;unfold nX;rw[NO λv a=>(aw.mp nd).1 (gZ a).1,oY hk];simp
 | p::P,w::vs,i+1,m,nd,h1,h2,hk=>by show nX kindOf ((p,w)::P.zip vs) m x=_;unfold nX;exact NQ (i:=i) (aw.mp nd).2 (by simpa using h1) (by simpa using h2) hk
noncomputable def start(N:List aj)(vs:List V):St:=vs.map ag++aQ (N.length-vs.length) aA
noncomputable def Su(CX:CXT)(P:ay)(w:b9)(K:aE)(mg:aj->Option aG)(base:bR)(N:List aj)(qual:aj)(scope:du)(f:aK)(cd:aG)(A:bU)(outer:List jR)(s:aM)(H:Hp)(E:XK):Cx where
 prog:=P
 w:=w
 K:=K
 mg:=mg
 base:=base
 A:=A.deeper (gh qual scope s.heap.objs.size f cd)
 N:=N
 s₀:=s
 H₀:=H
 env:=gh qual scope s.heap.objs.size f cd
 outer:=outer
 stack:=gh qual scope s.heap.objs.size f cd::outer
 ex:=[]
 calm:=aC
 fn:=λ_=>aC
 pn:=[]
 xe:=λe s'=>av (model P w) (A.deeper (gh qual scope s.heap.objs.size f cd)) (leaving (gh qual scope s.heap.objs.size f cd) e) (λ_ s''=>CX outer H s E e s'') (λe' s''=>CX outer H s E e' s'') s'
theorem Km{a:du}{n:Nat}{x:aj}(h:a.names.lookup x=ag .cell):∃c,(mh n a.names []).lookup x=ag c:=by have q:=jw a.names n [] (.inl h);exact cT.mp q
theorem Gs{a b c:aj}(h:a++c=b++c):a=b:=by
 obtain⟨a⟩:=a;obtain⟨b⟩:=b;have d:a++c.cps=b++c.cps:=congrArg aj.cps h;have f:a.toList++c.cps.toList=b.toList++c.cps.toList:=by rw[<-gJ,<-gJ,d]
 have e:=Array.toList_inj.mp (List.append_cancel_right f);rw[e]
theorem Ef{M:CXT}{P:ay}{w:b9}{K:aE}{mg:aj->Option aG}{base:bR}{N t:List aj}{g:aj}{d:du}{f:aK}{B:aG}{A:bU}{j:List jR}{s s1:aM}{H:Hp}{E:XK}{J:List aG}{vs:List V}
  (I:cy K B g=aC) (S:Zq N t d) (hd:A.handled=aA) (m:Env0 P w K mg base A j s H) (X:vs.length=t.length) (r:Vals vs J)
  (x:InCallC s s.heap.objs.size (nV (gh g d s.heap.objs.size f B).kindOf (t.zip J) λ_=>aA) (mh (s.heap.objs.size+1) d.names []) (nX (gh g d s.heap.objs.size f B).kindOf (t.zip J) λ_=>aA) s1) :
  Inv (Su M P w K mg base N g d f B A j s H E) [] (start N vs) H s1:=by
 have T:t.length<=N.length:=by have:=congrArg iR S.pre;rw[br] at this;omega
 obtain⟨G,tk,rfl,L⟩:=x.done;have n:∀b:aK,b∉(Su M P w K mg base N g d f B A j s H E).ex:=λb z=>absurd (show b∈([]:List aK) from z) (by simp)
 refine⟨⟨m.mod,S.kind,rfl,rfl,aa _,λy z c G l=>?_,λy o=>?_,λy c _ h=>?_,λ_=>hd,kc m.frames,.inr ⟨rfl,rfl⟩,λb z=>absurd z (n b),m.bs,m.bsz,λb _ _=>n b,λb z=>absurd z (n b),m.funs,m.frf,m.tab,λq _ Q _=>by rw[<-Gs Q];exact I⟩,
  rfl,m.bare,Un.kept L,⟨_,x.toInCall.ns,λi y v G l W=>?_⟩,λy c h=>⟨_,x.cell y c h⟩,m.hok.fresh (aa _),λy c h=>?_,λp C=>absurd (show p∈([]:List (aK×cg)) from C) (by simp),m.hok.kept L,?_⟩
 ·exact name_of_addr x.apart (cU G) (cU l)
 ·have o:=o;rcases o with o | o
  ·exact Km o
  ·exact absurd rfl (S.nofree _ (cU o))
 ·exact cO (x.above y c (cU h))
 ·have F:i<vs.length:=by
   unfold start at l;by_cases F:i<vs.length
   ·exact F
   ·rw[bH (by simpa using F)] at l;rw[bc] at l;split at l<;>cases l
  have R:vs[i]?=ag v:=by
   unfold start at l;rw[au (by simpa using F),aU] at l
   cases e:vs[i]? with
   | none=>rw[e] at l;cases l
   | some a=>rw[e] at l;cases l;rfl
  obtain⟨u,O,U⟩:=r.get R;have C:t[i]?=ag y:=by rw[<-S.pre,gQ (by omega)];exact G
  have D:t.Nodup:=by rw[<-S.pre];exact S.nd.sublist (List.take_sublist _ _)
  refine⟨u,U,?_⟩;rcases S.par y (cE C) with k | k
  ·exact .inl ⟨k,NP D C O k⟩
  ·obtain⟨c,e⟩:=Km k;refine .inr ⟨.inl k,c,e,?_⟩;have q:=x.cell y c e;rw[NQ D C O (by show d.names.lookup y≠_;rw[k];decide)] at q;exact q
 ·exact m.hok.fresh (cO (x.above y c (cU h)))
 ·unfold start;show _=N.length;rw[aY,aL,dR];omega
theorem YZ{L:CXT}{P:ay}{w:b9}{K:aE}{mg:aj->Option aG}{base:bR}{k:Nat}{f:aK}{l d:aj}{h:kz}{i:List ba}{a:du}{Y kV B Z g ct oc:aG}{an od:Option aK}
  {U:Array (Option aG)} {N M:List aj} {W:Sp} (lk:K.lookup f=ag ⟨oc,od,.func (cV l d h i a Y kV B Z an g ct),U⟩) (z:cy K g d=aC) (S:Zq N M a)
  (len:∀vs H Q E,W vs H Q E->vs.length=M.length)
  (p:∀(A:bU)(c:List jR)(s:aM)(H:Hp)(vs:List V)(Q:VK)(E:XK),Room k (A.deeper (gh d a s.heap.objs.size f g))->W vs H Q E->
   ∃t,PSs (Su L P w K mg base N d a f g A c s H E) i t/\t { nx:=λ_ j=>Q .non j,rt:=Q } (start N vs) H) :
  Tr P w K mg base L (k+1) f (cV l d h i a Y kV B Z an g ct) M W:=by
 refine⟨len,λA c s H args us vs Q E R D hb r C=>?_⟩;have hl:=len _ _ _ _ C;have KX:=D.mod.kin.keeps λb o e=>(D.bs b o e).1;have T:=D.mod.nolimit.keeps λb o e=>(D.bs b o e).1
 have m:∀y∈M.zip us,a.names.lookup y.1=ag .local\/(a.names.lookup y.1=ag .cell/\((mh (s.heap.objs.size+1) a.names []).lookup y.1).isSome=aC):=λ⟨n,v⟩ hy=>by
  rcases S.par n (gZ hy).1 with q | q
  ·exact .inl q
  ·exact .inr ⟨q,jw _ _ _ (.inl q)⟩
 refine codeAny_call_function R.depth (KX _ _ lk) rfl S.co S.gen rfl (PySem.W.codeRec_of KX z) (hb _ _ _ _ ?_);refine wpAny_newFunctionEnv_cells S.kind m λenv he s1 x=>?_;subst he;refine⟨T.keeps x.toInCall.keep,codeAny_func ?_⟩;obtain⟨t,ht,hq⟩:=p A c s H vs Q E (R.deeper _) C;have I:Inv (Su L P w K mg base N d a f g A c s H E) [] (start N vs) H s1:=Ef z S R.hd D hl r x;refine bW (ht [] s1 (start N vs) H _ I hq) (λfl O hs=>?_) λe O hs=>hs
 have F:∀{G:St}{j:Hp}{v:V}{u:aG},Inv (Su L P w K mg base N d a f g A c s H E) [] G j O->RelV v u->Q v j->CE c P w H s Q u O:=
  λ{G j v u} J X q=>⟨v,j,J.os,J.bare,J.base,J.hok,X,q⟩
 cases fl with
 | ret u=>
  obtain⟨v,G,j,J,X,q⟩:=hs;exact F J X q
 | next=>
  obtain⟨G,j,J,q⟩:=hs;exact F (v:=V.non) J rfl q
 | brk=>
  obtain⟨_,_,_,q⟩:=hs;exact bw q
 | cont=>
  obtain⟨_,_,_,q⟩:=hs;exact bw q
section
variable {X:Cx} {x:aj} {p pos:da} {e:bB} {es:List bB} {t:TA} {id T:String} {r:List V->Hp->VK->Prop}
noncomputable def tCB(r:List V->Hp->VK->Prop)(t:TA):TE:=λU H Q=>t U H λvs H1=>r vs H1 Q
theorem Kn(o:Xh X (.builtin id) r)(g:Gl X x)(f:X.mg x=aA)(l:dC x=ag (.builtin id))(i:PA X (e::es) t)(m:x≠"__name__":=by decide)(b:(x==("__debug__" : aj))=aB:=by decide)
  (u:aO (e::es) X.env=(aB,eval e X.env)::aO es X.env:=by rfl) (a:(ck pos (aO es X.env)).any (·.1)=aB:=by rfl):PE X (.Call (.Name x p) (e::es) [] pos) (tCB r t):=by
 intro c s U H Q I h;refine cX (VD I g f l ?_ m b);exact PyProof.Rows.callWith_builtin1 (Yf (i pos c s U H _ I h) λd s1 ⟨vs,k,q,n,j⟩=>o c s1 U k vs d Q q n j) u a
theorem NR(o:Xh X (.type T) r)(g:Gl X x)(f:X.mg x=aA)(l:dC x=ag (.type T))(i:PA X (e::es) t)(m:x≠"__name__":=by decide)(b:(x==("__debug__" : aj))=aB:=by decide)
  (u:aO (e::es) X.env=(aB,eval e X.env)::aO es X.env:=by rfl) (a:(ck pos (aO es X.env)).any (·.1)=aB:=by rfl):PE X (.Call (.Name x p) (e::es) [] pos) (tCB r t):=by
 intro c s U H Q I h;refine cX (VD I g f l ?_ m b);exact cJ (Yf (i pos c s U H _ I h) λd s1 ⟨vs,k,q,n,j⟩=>o c s1 U k vs d Q q n j) u a
end
end L2
namespace HT
open PySem PyProof.Rows
section
variable {prog:ay} {w:b9} {A:bU} {E:aG->aM->Prop} {s:aM}
theorem cat_tup{t b:aK}{vs a:List aG}{Q:aG->aM->Prop}(y:oH s.heap t vs.toArray)(B:oH s.heap b a.toArray)(u:vs≠[])
  (v:a=[]->Q (.ref t) s) (x:a≠[]->Q (.ref s.heap.objs.size) { s with heap:=s.heap.push { cls:=.type "tuple",data:=.seq (vs++a).toArray } })
  (j:vs.length+a.length<=sizeLine):av (model prog w) A (dj .Add (.ref t) (.ref b)) Q E s:=by
 obtain⟨⟨l,dd,d,o⟩,i,z,n,hd⟩:=id y;obtain⟨⟨p,f,data2,g⟩,c,m,q,k⟩:=id B;subst z hd m k;have e:vs.toArray++a.toArray=(vs++a).toArray:=by simp
 by_cases h:a=[]
 ·exact jx ⟨_,i,rfl⟩ ⟨_,c,rfl⟩ jn lN gy gp (gR _ _)
   (tuple_addW1 t b vs.toArray a.toArray n q dd f o g (by simpa using u) (by simp[h])) ⟨i,c,v h⟩
 ·refine jx ⟨_,i,rfl⟩ ⟨_,c,rfl⟩ jn lN gy gp (gR _ _)
   (tuple_addW2 t b vs.toArray a.toArray n q dd f o g (by simpa using u) (by simpa using h) (by rw[aT];exact j)) ⟨i,c,?_⟩
  rw[e];exact x h
noncomputable def sIx(n d:Nat):Option Int->Nat
 | none=>d
 | some v=>if v<0 then(v+(n:Int)).toNat else min v.toNat n
theorem sIx_none(n d:Nat):sIx n d aA=d:=rfl
theorem sIx_nat(n d k:Nat):sIx n d (ag (k:Int))=min k n:=rfl
theorem Gu(v:Int)(n d:Nat):(if v<0 then max (v+(n:Int)) 0 else min v (n:Int))=((sIx n d (ag v):Nat):Int):=by
 show(if v<0 then max (v+(n:Int)) 0 else min v (n:Int))=(((if v<0 then(v+(n:Int)).toNat else min v.toNat n):Nat):Int);by_cases a:v<0
 ·simp only[oX a];omega
 ·simp only[oY a];omega
theorem Ie(lo a:Option Int)(n:Nat):jS lo a 1 (n:Int)=(((sIx n 0 lo:Nat):Int),((sIx n n a:Nat):Int)):=by
 refine Prod.ext ?_ ?_
 ·cases lo with
  | none=>rfl
  | some v=>exact Gu v n 0
 ·cases a with
  | none=>rfl
  | some v=>exact Gu v n n
theorem Ig(i j:Nat):eG (i:Int) (j:Int) 1=j-i:=by
 unfold eG;split<;>omega
theorem Px{v:aG}{o:Option Int}{Q:Option Int->aM->Prop}(p:l8 v o)(h:Q o s):av (model prog w) A (kD.Slice.slicePartIndex v) Q E s:=by
 cases p with
 | none=>exact slicePart_none h
 | int i t=>exact slicePart_int h
theorem Ry{f:aK}{d e:aG}{lo b:Option Int}{n:Nat}{Q:Int×Int×Nat->aM->Prop}(hs:s.heap.IsSliceOf f d e .none)(pl:l8 d lo)(i:l8 e b)
  (h:Q (((sIx n 0 lo:Nat):Int),1,sIx n n b-sIx n 0 lo) s):av (model prog w) A (kD.Slice.sliceApplied (.ref f) (pure (n:Int))) Q E s:=by
 obtain⟨os,c,g,a⟩:=id hs;refine aI (aI (cD c a rfl (aI (cD c a rfl (aI (cD c a rfl (a9 ?_)))))));refine aI (slicePart_none ?_);refine aI (Px pl (aI (Px i (aI (a9 ?_)))));show av _ _ (match jS lo b 1 (n:Int) with | (lo,b)=>pure (lo,(1:Int),eG lo b 1)) _ _ s;rw[Ie lo b n];show av _ _ (pure (((sIx n 0 lo:Nat):Int),(1:Int),eG ((sIx n 0 lo:Nat):Int) ((sIx n n b:Nat):Int) 1)) _ _ s;rw[Ig];exact a9 h
theorem Ce(xs:Array aG)(i k:Nat):((aD k).filterMap λ(m:Nat)=>xs[((i:Int)+(m:Int)*1).toNat]?).toArray=((xs.toList.drop i).take k).toArray:=by
 have e:(λ(m:Nat)=>xs[((i:Int)+(m:Int)*1).toNat]?)=λm=>xs[i+m]?:=by
  funext m;have:((i:Int)+(m:Int)*1).toNat=i+m:=by omega
  rw[this]
 rw[e];have:=pick_run xs i k;rw[List.filterMap_map] at this;have a:((λx=>xs[x]?) ∘ λx=>i+x)=λm=>xs[i+m]?:=rfl;rw[a] at this;rw[this]
theorem getItem_tuple_cut{t e:aK}{a:Array aG}{l k:aG}{lo c:Option Int}{Q:aG->aM->Prop}(d:oH s.heap t a)(hs:s.heap.IsSliceOf e l k .none)(pl:l8 l lo)(p:l8 k c)
  (o:¬(sIx a.size 0 lo=0/\sIx a.size a.size c=a.size))
  (h:Q (.ref s.heap.objs.size) { s with heap:=s.heap.push { cls:=.type "tuple",data:=.seq ((a.toList.drop (sIx a.size 0 lo)).take (sIx a.size a.size c-sIx a.size 0 lo)).toArray } })
  (n:a.size<=sizeLine):av (model prog w) A (jy (.ref t) (.ref e)) Q E s:=by
 have b:sizeOk (.seq ((a.toList.drop (sIx a.size 0 lo)).take (sIx a.size a.size c-sIx a.size 0 lo)).toArray):=by show((a.toList.drop (sIx a.size 0 lo)).take (sIx a.size a.size c-sIx a.size 0 lo)).toArray.size<=sizeLine;rw[aT,br,bh,fC];omega
 obtain⟨os,i,f,m⟩:=id hs;have j:s.TypeIs (.ref e) "slice":=⟨os,i,f⟩;unfold jy
 try with_reducible refine dW ?_
 first | refine aI (a9 ?_) | skip
 refine aI (wpAny_sequenceKey d.typeIs rfl ?_)
 refine aI (dh d.typeIs fB
  (fE fB d.typeIs entry_tuple_getitem ?_ (args_tuple_getitem _ _)))
 show av _ _ (kD.Tuple.tupleItemsOf (.ref t) >>= _) _ _ s;refine aI (tupleItemsOf_ d ?_);refine aI (mR j ?_);refine aI (Ry hs pl p ?_);have g:¬((((sIx a.size 0 lo:Nat):Int)==0&&(1:Int)==1&&(sIx a.size a.size c-sIx a.size 0 lo)==a.size)=aC):=by intro q;rw[bC,bC] at q;have u:=eq_of_beq q.1.1;have v:=eq_of_beq q.2;exact o ⟨by omega,by omega⟩
 show av _ _ (if(((sIx a.size 0 lo:Nat):Int)==0&&(1:Int)==1&&(sIx a.size a.size c-sIx a.size 0 lo)==a.size)=aC then _ else _) _ _ s;rw[oY g,Ce]
 first
  | exact aI (dI (a9 ⟨_,rfl,a9 h⟩) b)
  | exact aI (dI (aI (a9 (a9 ⟨_,rfl,a9 h⟩))) b)
  | exact aI (aI (dI (a9 (a9 ⟨_,rfl,a9 h⟩)) b))
  | exact aI (aI (dI (a9 ⟨_,rfl,a9 h⟩) b))
end
end HT
namespace L2
open PySem PySem.Spec PyProof.Rows
abbrev TO:=St->Hp->(Option Int->Hp->Prop)->Prop
noncomputable def PO(X:Cx)(e:Option bB)(t:TO):Prop:=
 ∀(o4:List (aK×cg))(s:aM)(U:St)(H:Hp)(Q:Option Int->Hp->Prop),Inv X o4 U H s->t U H Q->
  av (model X.prog X.w) X.A (evalPart e X.env) (λu s'=>∃o H',Inv X o4 U H' s'/\l8 u o/\Q o H') X.xe s
noncomputable def Zaq:TO:=λ_ H Q=>Q aA H
noncomputable def Ziw(t:TE):TO:=λU H Q=>t U H λx H1=>∃i,x = .int i/\Q (ag i) H1
theorem Py{b:List Int}:∀{a:List aG},Vals (b.map V.int) a->jz a b:=by
 induction b with
 | nil=>intro a r;rw[fL] at r;cases r;exact .nil
 | cons n b ih=>
  intro a r
  cases r with
  | cons r1 r2=>
   obtain⟨t,e⟩:=r1;subst e;exact .cons n t (ih r2)
section
variable {X:Cx} {e:bB} {te:TE} {lo hi:Option bB} {tl th:TO} {pos p2:da}
theorem Zar:PO X aA Zaq:=by intro a s U H Q I h;exact a9 ⟨aA,H,I,.none,h⟩
theorem Zas(h:PE X e te):PO X (ag e) (Ziw te):=by intro d s U H Q I g;refine Yf (h d s U H _ I g) λu s1 ⟨x,a,b,c,f⟩=>?_;obtain⟨i,rfl,q⟩:=f;obtain⟨t,rfl⟩:=c;exact⟨ag i,a,b,.int i t,q⟩
noncomputable def SlR(X:Cx)(r:V->Option Int->Option Int->Hp->VK->Prop):Prop:=
 ∀(o4:List (aK×cg))(s:aM)(U:St)(H:Hp)(x:V)(v vl vu:aG)(lo hi:Option Int)(sl:aK)(Q:VK),Inv X o4 U H s->RelV x v->s.heap.IsSliceOf sl vl vu .none->l8 vl lo->l8 vu hi->r x lo hi H Q->
  ∃T id,typeLookup (.type T) "__getitem__" = pure (ag (.builtin id))/\s.TypeIs v T/\av (model X.prog X.w) X.A (jy v (.ref sl)) (EP X o4 U Q) X.xe s
noncomputable def tSl(r:V->Option Int->Option Int->Hp->VK->Prop)(te:TE)(tl th:TO):TE:=λU H Q=>te U H λx H1=>tl U H1 λl H2=>th U H2 λu H3=>r x l u H3 Q
theorem Ko{r:V->Option Int->Option Int->Hp->VK->Prop}(p:SlR X r)(E:PE X e te)(G:PO X lo tl)(F:PO X hi th):PE X (.Subscript e (.Slice lo hi aA p2) pos) (tSl r te tl th):=by intro c s U H Q I h;refine nY (Yf (E c s U H _ I h) λv s1 ⟨x,y,D,z,w⟩=>?_);refine wpAny_Slice (Yf (G c s1 U y _ D w) λf s2 ⟨l,i,B,pl,C⟩=>Yf (F c s2 U i _ B C) λd a ⟨u,g,m,A,t⟩=>?_);refine a9 ?_;have j:Inv X c U g { a with heap:=a.heap.push { cls:=.type "slice",data:=.fields #[f,d,.none] } }:=m.kept λb J q=>aH _ q;obtain⟨T,id,o,n,k⟩:=p c { a with heap:=a.heap.push { cls:=.type "slice",data:=.fields #[f,d,.none] } } U g x v f d l u a.heap.objs.size Q j z (bR.IsSliceOf.new ..) pl A t;exact tail_any n o k rfl
noncomputable def Eg(xs:List V)(lo hi:Option Int):List V:=(xs.drop (HT.sIx xs.length 0 lo)).take (HT.sIx xs.length xs.length hi-HT.sIx xs.length 0 lo)
theorem Qw(xs:List V)(lo a:Option Int):(Eg xs lo a).length<=xs.length:=by unfold Eg;rw[br,bh];omega
noncomputable def Zlj(K:aE):V->Option Int->Option Int->Hp->VK->Prop:=λx lo hi H Q=>∃a xs,x = .ref a/\SqT K H a xs/\
 ¬(HT.sIx xs.length 0 lo=0/\HT.sIx xs.length xs.length hi=xs.length)/\∀p,H p=aA->Q (.ref p) (upd H p (.tup (Eg xs lo hi)))
theorem Zfz:SlR X (Zlj X.K):=by
 intro w s U H x v t p lo d n Q I m hs pl k h;obtain⟨a,xs,rfl,l,j,q⟩:=h;cases m;obtain⟨i,r,f,g⟩:=I.tuple l;have c:i.toArray.size=xs.length:=by rw[aT];exact r.length.symm
 refine⟨"tuple",_,fB.lookup,f.typeIs,?_⟩;refine HT.getItem_tuple_cut f hs pl k (by rw[c];exact j) ?_ (by rw[c];exact g);rw[c];refine⟨.ref s.heap.objs.size,_,I.laid (λb u q=>aH _ q) (aa _) ?_,rfl,q _ (I.hok.fresh (aa _))⟩;exact⟨⟨bO (Qw xs lo d) g,λo e=>Pq e⟩,_,(r.drop (HT.sIx xs.length 0 lo)).take (HT.sIx xs.length xs.length d-HT.sIx xs.length 0 lo),mj _ _⟩
noncomputable def Zix(K:aE):R2:=λx y H Q=>∃a b xs ys,x = .ref a/\y = .ref b/\SqT K H a xs/\SqT K H b ys/\xs≠[]/\xs.length+ys.length<=sizeLine/\
 (ys=[]->Q (.ref a) H)/\(ys≠[]->∀p,H p=aA->Q (.ref p) (upd H p (.tup (xs++ys))))
theorem Vals.nil_iff{xs:List V}{a:List aG}(r:Vals xs a):a=[]↔xs=[]:=by
 cases r with
 | nil=>simp
 | cons _ _=>simp
theorem Zat:Sm X (dj .Add) (Zix X.K):=by intro C s U H x y v u Q I n j h;obtain⟨a,b,xs,D,rfl,rfl,k,t,m,g,l,p⟩:=h;cases n;cases j;obtain⟨A,d,i,_⟩:=I.tuple k;obtain⟨f,c,p2,_⟩:=I.tuple t;refine HT.cat_tup i p2 (λz=>m (d.nil_iff.mp z)) (λz=>⟨.ref a,H,I,rfl,l (c.nil_iff.mp z)⟩) (λz=>?_) (by rw[<-d.length,<-c.length];exact g);refine⟨.ref s.heap.objs.size,_,I.laid (λb B q=>aH _ q) (aa _) ?_,rfl,p (λw=>z (c.nil_iff.mpr w)) _ (I.hok.fresh (aa _))⟩;exact⟨⟨by rw[aY];exact g,λo e=>Pq e⟩,_,d.append c,mj _ _⟩
end
noncomputable def Kd(n:Nat)(i:Int):Option Nat:=if 0<=i then(if i<n then ag i.toNat else aA) else if -(n:Int)<=i then ag (i+n).toNat else aA
noncomputable def Rz{α:Type}(xs:List α)(i:Int):Option α:=(Kd xs.length i).bind λj=>xs[j]?
theorem Gv{n:Nat}{i:Int}{j:Nat}(h:Kd n i=ag j):seqIndex? i n=ag j/\j<n/\-(n:Int)<=i/\i<n:=by
 unfold Kd at h;by_cases b:0<=i
 ·rw[oX b] at h;by_cases a:i<n
  ·rw[oX a] at h;have e:=bG h;exact⟨by rw[my b a,e],by omega,by omega,a⟩
  ·rw[oY a] at h;cases h
 ·rw[oY b] at h;by_cases a : -(n:Int)<=i
  ·rw[oX a] at h;have e:=bG h;exact⟨by rw[mS (by omega) a,e],by omega,a,by omega⟩
  ·rw[oY a] at h;cases h
theorem MH{a:Type}{xs:List a}{i:Int}{v:a}(h:Rz xs i=ag v):∃j,seqIndex? i xs.length=ag j/\xs[j]?=ag v/\j<xs.length/\-(xs.length:Int)<=i/\i<xs.length:=by
 unfold Rz at h
 cases e:Kd xs.length i with
 | none=>rw[e] at h;cases h
 | some j=>
  rw[e] at h;obtain⟨f,c,b,d⟩:=Gv e;exact⟨j,f,h,c,b,d⟩
theorem U0{a:Type}{xs:List a}{j:Nat}{v:a}(h:xs[j]?=ag v):Rz xs (j:Int)=ag v:=by
 have b:=(aS.mp h).1;have e:Kd xs.length (j:Int)=ag j:=by unfold Kd;rw[oX (by omega),oX (by omega)];simp
 unfold Rz;rw[e];exact h
noncomputable def MI(b:bB):Prop:=∀o i,subscripted b aB o i=operate [o,i] (jy o i)
noncomputable def IxR(X:Cx)(r:R2):Prop:=
 ∀(value slice:bB)(o4:List (aK×cg))(s:aM)(U:St)(H:Hp)(x y:V)(v u:aG)(Q:VK),Inv X o4 U H s->RelV x v->RelV y u->r x y H Q->
  subscripted slice aB v u=operate [v,u] (jy v u)->av (model X.prog X.w) X.A (subscriptTail value slice v u) (EP X o4 U Q) X.xe s
noncomputable def MtR(X:Cx)(id:String)(r:V->List V->Hp->VK->Prop):Prop:=
 ∀(o4:List (aK×cg))(s:aM)(U:St)(H:Hp)(x:V)(xs:List V)(v:aG)(us:List aG)(Q:VK),Inv X o4 U H s->RelV x v->Vals xs us->r x xs H Q->
  av (model X.prog X.w) X.A (call (.builtin id) (v::us)) (EP X o4 U Q) X.xe s
section
variable {X:Cx} {a b:bB} {ta tb:TE} {pos:da}
theorem IxR.or{r e:R2}(h:IxR X r)(h':IxR X e):IxR X (λx y H Q=>r x y H Q\/e x y H Q):=by
 intro b a f s U H x y v u Q I d c q hs;rcases q with q | q
 ·exact h b a f s U H x y v u Q I d c q hs
 ·exact h' b a f s U H x y v u Q I d c q hs
theorem Kp{r:R2}(f:IxR X r)(e:PE X a ta)(j:PE X b tb)(hs:MI b):PE X (.Subscript a b pos) (tOp r ta tb):=by intro k s U H Q I h;exact nY (Zfq e j I h λv u s2 x y c i g d q=>f a b k s2 U c x y v u Q i g d q (hs _ _))
noncomputable def Zf0(K:aE):R2:=λx y H Q=>∃p xs i v,x = .ref p/\y = .int i/\SqL K H p xs/\Rz xs i=ag v/\Q v H
noncomputable def Ziy(K:aE):R2:=λx y H Q=>∃p xs i v,x = .ref p/\y = .int i/\SqT K H p xs/\Rz xs i=ag v/\Q v H
noncomputable def Ziz:R2:=λx y H Q=>∃z i c,x = .str z/\y = .int i/\z.length<=sizeLine/\Rz z.cps.toList i=ag c/\Q (.str ⟨#[c]⟩) H
theorem ix_list:IxR X (Zf0 X.K):=by
 intro e d D s U H x y v u Q I o l h hs;obtain⟨p,xs,i,z,rfl,rfl,E,B,q⟩:=h;cases o;obtain⟨t,rfl⟩:=l;obtain⟨k,r,pl,J⟩:=I.list E;obtain⟨j,b,m,F,C,A⟩:=MH B;obtain⟨w,g,Xg⟩:=r.get m;have n:=r.length;have G:=MG;have a:EP X D U Q w s:=⟨z,H,I,Xg,q⟩;by_cases f:0<=i
 ·have c:i.toNat=j:=by rw[my f A] at b;exact bG b
  exact item_listR pl.isList f (by omega) (by rw[c];simpa using g) a hs
 ·have c:(i+(k.toArray.size:Int)).toNat=j:=by rw[mS (by omega) C] at b;rw[aT,<-n];exact bG b
  exact kA pl.isList.typeIs slot_list_getitem.lookup
   (wpAny_getItem_list_neg pl.isList (by omega) (by rw[aT]<;>omega) (by omega) (by rw[c];simpa using g) ⟨rfl,a⟩) hs
theorem ix_tup:IxR X (Ziy X.K):=by
 intro b a n s U H x y v u Q I k e h hs;obtain⟨p,xs,i,z,rfl,rfl,o,m,q⟩:=h;cases k;obtain⟨t,rfl⟩:=e;obtain⟨A,r,pl,F⟩:=I.tuple o;obtain⟨j,d,f,B,E,D⟩:=MH m;obtain⟨w,l,Xg⟩:=r.get f;have g:=r.length;have C:=MG;have c:EP X n U Q w s:=⟨z,H,I,Xg,q⟩
 exact kA pl.typeIs slot_tuple_getitem.lookup
  (getItem_tuple pl (by omega) (by omega) (by rw[aT,<-g];exact d) (by simpa using l) ⟨rfl,c⟩) hs
theorem Zf1:IxR X Ziz:=by
 intro b a B s U H x y v u Q I l e h hs;obtain⟨z,i,c,rfl,rfl,C,n,q⟩:=h;obtain⟨t,rfl⟩:=l;obtain⟨t',rfl⟩:=e;obtain⟨j,d,g,w,o,m⟩:=MH n;have p:z.cps.toList.length=z.length:=by simp[aj.length]
 rw[p] at d o m;have A:=MG
 exact tail_any (typeIs_str s z t) slot_str_getitem.lookup (getItem_str (by
  have k:decide (i < -(2^63:Int))=aB:=decide_eq_false (by omega);have f:decide (i ≥ 2^63)=aB:=decide_eq_false (by omega);rw[k,f,Bool.or_false]) (by rw[d];simpa using g) ⟨.str ⟨#[c]⟩,H,I.tok _,⟨_,rfl⟩,q⟩) hs
noncomputable def rIx(K:aE):R2:=λx y H Q=>Zf0 K x y H Q\/Ziy K x y H Q\/Ziz x y H Q
theorem Zf2:IxR X (rIx X.K):=ix_list.or (ix_tup.or Zf1)
theorem Ih(a:List aG)(n j:Nat)(u:aG):gj (·.setIfInBounds j u) { cls:=.type "list",data:=.seq a.toArray n }={ cls:=.type "list",data:=.seq (a.set j u).toArray n }:=by simp[gj]
theorem Inv.lst{b:List (aK×cg)}{U:St}{H:Hp}{s:aM}{p:aK}{xs:List V}(I:Inv X b U H s)(h:H p=ag (.lst xs)) :
  ∃(a:List aG) (n:Nat),Vals xs a/\s.heap.get? p=ag { cls:=.type "list",data:=.seq a.toArray n }/\xs.length<=sizeLine:=by
 obtain⟨z,a,n,r,e⟩:=I.hok p _ h;exact⟨a,n,r,e,z⟩
theorem Inv.lstUpd{i:List (aK×cg)}{U:St}{H:Hp}{s:aM}{p:aK}{xs d:List V}{g a:List aG}{n c:Nat}{f:cg->cg}(I:Inv X i U H s)(h:H p=ag (.lst xs))
  (k:s.heap.get? p=ag { cls:=.type "list",data:=.seq g.toArray n }) (j:f { cls:=.type "list",data:=.seq g.toArray n }={ cls:=.type "list",data:=.seq a.toArray c }) (r:Vals d a) (m:d.length<=sizeLine) (t:Nat) :
  Inv X i U (upd H p (.lst d)) { s with heap:=s.heap.update p f,toks:=t }:=by
 have e:(s.heap.update p f).get? p=ag { cls:=.type "list",data:=.seq a.toArray c }:=by rw[cw f k (by rw[j]<;>rfl),j]
 refine I.write (by rw[h];trivial) (.inl rfl) (λb u l q=>(cA _ _ (bP l)).trans q) ⟨_,e⟩ ?_;exact⟨m,a,c,r,e⟩
noncomputable def Cf:V->V->V->Hp->(Hp->Prop)->Prop:=λo i v H Q=>∃p xs k j,o = .ref p/\i = .int k/\H p=ag (.lst xs)/\Kd xs.length k=ag j/\Q (upd H p (.lst (xs.set j v)))
theorem Wz:Zih X Cf:=by
 intro F s U H o i v E G u Q I x z B h;obtain⟨p,xs,k,j,rfl,rfl,f,y,q⟩:=h;cases x;obtain⟨t,rfl⟩:=z;obtain⟨e,n,r,c,A⟩:=I.lst f;obtain⟨a,C,g,w⟩:=Gv y;have d:=r.length;have D:=MG
 have l:=
  I.lstUpd f c (Ih e n j u) (r.set B j) (by rw[cR];exact A) s.toks
 by_cases m:0<=k
 ·have b:k.toNat=j:=by rw[my m w] at a;exact bG a
  exact PySem.W.ki_setAt c m (by omega) (by rw[aT,<-d];exact w) (by rw[b];exact⟨_,l,q⟩)
 ·have b:(k+(e.toArray.size:Int)).toNat=j:=by rw[mS (by omega) g] at a;rw[aT,<-d];exact bG a
  exact PySem.W.ki_setBack c (by omega) (by rw[aT,<-d];exact g) (by omega) (by rw[b];exact⟨_,l,q⟩)
theorem MJ(lo a:Option Int)(n:Nat):(gs lo a aA n).1=((HT.sIx n 0 lo:Nat):Int)/\(gs lo a aA n).2.1=((HT.sIx n n a:Nat):Int)/\(gs lo a aA n).2.2=1:=by
 refine⟨?_,?_,rfl⟩
 ·cases lo with
  | none=>simp[gs,HT.sIx]
  | some i=>
   simp only[gs,HT.sIx,ml];by_cases h:i<0
   ·simp only[h,if_true]<;>omega
   ·simp only[h,if_false]<;>omega
 ·cases a with
  | none=>simp[gs,HT.sIx]
  | some i=>
   simp only[gs,HT.sIx,ml];by_cases h:i<0
   ·simp only[h,if_true]<;>omega
   ·simp only[h,if_false]<;>omega
theorem Ny(a:List aG)(lo b:Option Int):slicePick a.toArray lo b aA=((a.drop (HT.sIx a.length 0 lo)).take (HT.sIx a.length a.length b-HT.sIx a.length 0 lo)).toArray:=by
 obtain⟨e,d,c⟩:=MJ lo b a.toArray.size;unfold slicePick;rw[e,d,c];simp only[sliceRange_one,pick_run]<;>rfl
noncomputable def Zlk(K:aE):V->Option Int->Option Int->Hp->VK->Prop:=λx lo hi H Q=>∃a xs,x = .ref a/\SqL K H a xs/\∀p,H p=aA->Q (.ref p) (upd H p (.lst (Eg xs lo hi)))
theorem Zau:SlR X (Zlk X.K):=by intro p s U H x v n m lo d k Q I i hs pl f h;obtain⟨a,xs,rfl,g,q⟩:=h;cases i;obtain⟨l,r,e,j⟩:=I.list g;have c:=r.length;refine⟨"list",_,slot_list_getitem.lookup,e.isList.typeIs,?_⟩;refine wpAny_getItem_list_slice e.isList hs pl f .none (by simp) ?_ (by rw[aT]<;>omega);rw[Ny,<-c];refine⟨.ref s.heap.objs.size,_,I.laid (λb o q=>aH _ q) (aa _) ?_,rfl,q _ (I.hok.fresh (aa _))⟩;exact⟨bO (Qw xs lo d) j,_,0,(r.drop (HT.sIx xs.length 0 lo)).take (HT.sIx xs.length xs.length d-HT.sIx xs.length 0 lo),af _ rfl⟩
theorem Sv:Xh X (.type "list") (λxs H Q=>∃p f,xs=[.ref p]/\(SqL X.K H p f\/SqT X.K H p f)/\∀l,H l=aA->Q (.ref l) (upd H l (.lst f))):=by
 intro x s U H xs y Q I r h;obtain⟨p,f,rfl,m,q⟩:=h;obtain⟨u,rfl,w⟩:=Ue r;cases w
 have j:∀(a:List aG),Vals f a->f.length<=sizeLine->∀(h':bR)(c:Nat),(∀b o',s.heap.get? b=ag o'->h'.get? b=ag o')->
   h'.get? s.heap.objs.size=ag { cls:=.type "list",dict:=aA,data:=.seq a.toArray c,slots:=#[] }->EP X x U Q (.ref s.heap.objs.size) { s with heap:=h' }:=λa d k h' c i e=>
  ⟨.ref s.heap.objs.size,_,I.laid i (aa _) (show ObjOk X.prog X.w _ h' _ (.lst f) from⟨k,a,c,d,e⟩),rfl,q _ (I.hok.fresh (aa _))⟩
 rcases m with m | m
 ·obtain⟨a,d,pl,k⟩:=I.list m;have g:=d.length;obtain⟨o,t,v,n,hd⟩:=pl.isList;exact call_list_seq p (.inl rfl) t v hd (λh' c i e=>j a d k h' c i e) (by simp only[aT]<;>omega)
 ·obtain⟨a,d,pl,k⟩:=I.tuple m;have g:=d.length;obtain⟨o,t,v,n,hd⟩:=pl;exact call_list_seq p (.inr rfl) t v hd (λh' c i e=>j a d k h' c i e) (by simp only[aT]<;>omega)
theorem Zs:Xh X (.type "tuple") (λxs H Q=>∃p a,xs=[.ref p]/\((SqL X.K H p a/\∀l,H l=aA->Q (.ref l) (upd H l (.tup a)))\/(SqT X.K H p a/\Q (.ref p) H))):=by
 intro v s U H xs t Q I r h;obtain⟨p,a,rfl,h⟩:=h;obtain⟨u,rfl,k⟩:=Ue r;cases k;rcases h with⟨d,q⟩ | ⟨d,q⟩
 ·obtain⟨f,c,pl,j⟩:=I.list d;have g:=c.length;refine call_tuple_list pl.isList (λh' n=>?_) (by simp only[aT]<;>omega);have i:=I.kept (t':=s.toks) n
  have m:=
   i.laid (t':=s.toks) (λb o e=>aH _ e) (aa _) (show ObjOk X.prog X.w _ _ _ (.tup a) from⟨⟨j,λo e=>Pq e⟩,f,c,mj _ _⟩)
  exact⟨.ref h'.objs.size,_,m,rfl,q _ (i.hok.fresh (aa _))⟩
 ·obtain⟨f,c,pl,j⟩:=I.tuple d;exact call_tuple_same pl ⟨.ref p,H,I,rfl,q⟩
noncomputable def tyV(K:aE)(T:String)(x:V)(H:Hp):Prop:=match x with
 | .str _=>T = "str"
 | .int _=>T = "int"
 | .ref p=>(T = "list"/\∃xs,SqL K H p xs)\/(T = "tuple"/\∃o,K.lookup p=ag o/\o.cls = .type "tuple"/\o.dict=aA)\/
   (T = "dict"/\((∃o5,H p=ag (.dK o5))\/∃o5,H p=ag (.dT o5)))\/(T = "set"/\∃S n,H p=ag (.set S n))\/(T = "tuple"/\∃xs,H p=ag (.tup xs))
 | _=>False
theorem Zf3{l:List (aK×cg)}{U:St}{H:Hp}{s:aM}{T:String}{x:V}{v:aG}(I:Inv X l U H s)(r:RelV x v)(ty:tyV X.K T x H) :
  s.TypeIs v T/\∀a,v = .ref a->∃ob,s.heap.get? a=ag ob/\ob.dict=aA:=by
 cases x with
 | str z=>
  obtain⟨t,rfl⟩:=r;cases (ty);exact⟨typeIs_str s z t,λ_ e=>nomatch e⟩
 | int i=>
  obtain⟨t,rfl⟩:=r;cases (ty);exact⟨kB s i t,λ_ e=>nomatch e⟩
 | ref p=>
  cases r;rcases ty with⟨rfl,xs,m⟩ | ⟨rfl,o,b,k,hd⟩ | ⟨rfl,b⟩ | ⟨rfl,S,n,b⟩ | ⟨rfl,xs,b⟩;rotate_left 4
  ·obtain⟨z,h,_,o,g,f,_⟩:=(I.hok p _ b);refine⟨⟨o,g,f⟩,λa e=>?_⟩;cases e;exact⟨o,g,z.2 o g⟩
  ·obtain⟨h,_,pl,_⟩:=I.list m;refine⟨pl.isList.typeIs,λa e=>?_⟩;cases e;obtain⟨o,n,e,c,hd,_⟩:=pl;exact⟨o,e,hd⟩
  ·refine⟨⟨o,I.kIn p o b,k⟩,λa e=>?_⟩;cases e;exact⟨o,I.kIn _ o b,hd⟩
  ·have z:∃o,s.heap.get? p=ag o/\o.ExactDict:=by
    rcases b with⟨j,b⟩ | ⟨j,b⟩
    ·obtain⟨_,_,_,_,o,_,_,e,d,_⟩:=I.hok p _ b;exact⟨o,e,d⟩
    ·obtain⟨_,_,_,_,o,_,_,e,d,_⟩:=I.hok p _ b;exact⟨o,e,d⟩
   obtain⟨o,e,d⟩:=z;refine⟨⟨o,e,d.1⟩,λa f=>?_⟩;cases f;exact⟨o,e,d.2.1⟩
  ·obtain⟨o,_,_,_,e,d,_⟩:=I.hok p _ b;refine⟨⟨o,e,d.1⟩,λa f=>?_⟩;cases f;exact⟨o,e,d.2.1⟩
 | _=>exact bw ty
noncomputable def tBM(K:aE)(T:String)(r:V->List V->Hp->VK->Prop)(to:TE)(t:TA):TE:=λU H Q=>to U H λx H1=>tyV K T x H1/\t U H1 λxs H2=>r x xs H2 Q
variable {o e:bB} {es:List bB} {to:TE} {t:TA} {name:aj} {apos o7:da} {T id:String} {r:V->List V->Hp->VK->Prop}
theorem Vp(m:PlainAttrs T)(f:Slot T name id)(g:typeOf (.builtin id)=pure (.type "method_descriptor"))(u:MtR X id r)(A:PE X o to)(w:PA X (e::es) t)
  (c:j6 o name X.env (eval o X.env)=eval o X.env:=by rfl)
  (d:((ck o7 (aO (e::es) X.env)).all (λx=>!x.1)&&(nU o7 (kb [] X.env)).all (λx=>x.1.isSome)
   &&decide ((e::es).length+([]:List nM).length+(if([]:List nM).isEmpty then 0 else 1)<30))=aC:=by rfl)
  (b:(apos.endLine==o7.line)=aC:=by rfl) (hs:aO (e::es) X.env=(aB,eval e X.env)::aO es X.env:=by rfl) (a:(ck o7 (aO es X.env)).any (·.1)=aB:=by rfl) :
  PE X (.Call (.Attribute o name apos) (e::es) [] o7) (tBM X.K T r to t):=by
 intro i s U H Q I h;refine wpAny_Call_method_late c d b rfl (Yf (A i s U H _ I h) λv s1 ⟨x,B,l,k,ty,z⟩=>?_);obtain⟨q,y⟩:=Zf3 l k ty;refine⟨T,id,m,f,g,q,y,?_⟩;have j:=w o7 i s1 U B _ l z;rw[hs] at j ⊢;refine kC (by show(aB || (ck o7 (aO es X.env)).any (·.1))=aB;rw[a]<;>rfl) (iS ?_);exact Yf j λp s2 ⟨vs,n,C,E,D⟩=>u i s2 U n x vs v p Q C k E D
end
noncomputable def MtM(X:Cx)(id:String)(r:V->List V->Hp->VK->Prop):Prop:=
 ∀(o4:List (aK×cg))(s:aM)(U:St)(H:Hp)(x:V)(xs:List V)(v:aG)(us:List aG)(Q:VK),Inv X o4 U H s->RelV x v->Vals xs us->r x xs H Q->
  av (model X.prog X.w) X.A (call (.builtin id) (v::us)) (EP X o4 U Q) X.xe s
theorem Vals.one:∀{x:V}{us:List aG},Vals [x] us->∃u,us=[u]/\RelV x u
 | _,_,.cons r .nil=>⟨_,rfl,r⟩
theorem Vals.two:∀{x y:V}{us:List aG},Vals [x,y] us->∃u v,us=[u,v]/\RelV x u/\RelV y v
 | _,_,_,.cons r (.cons q .nil)=>⟨_,_,rfl,r,q⟩
theorem Vals.dropLast{xs:List V}{a:List aG}(h:Vals xs a):Vals xs.dropLast a.dropLast:=by
 induction h with
 | nil=>exact .nil
 | cons r t ih=>
  cases t with
  | nil=>exact .nil
  | cons q t'=>exact .cons r ih
theorem Vals.rep{xs:List V}{a:List aG}(h:Vals xs a):∀k:Nat,Vals (aQ k xs).flatten (aQ k a).flatten
 | 0=>.nil
 | k+1=>by rw[dO,dO,fV,fV];exact Vals.append h (Vals.rep h k)
theorem RA(a:List aG):∀(k:Nat)(acc:List aG),
  la (λc d=>c++d) acc.toArray (aQ k a.toArray)=(acc++(aQ k a).flatten).toArray
 | 0,acc=>by simp
 | k+1,acc=>by
  have e:acc.toArray++a.toArray=(acc++a).toArray:=by simp
  have b:(acc++a)++(aQ k a).flatten=acc++(aQ (k+1) a).flatten:=by rw[dO,fV,fX]
  rw[<-b,<-RA a k (acc++a),<-e,dO,i5]
section
variable {X:Cx} {o4:List (aK×cg)} {U:St} {H:Hp} {s:aM} {l b:aK} {xs ys zs:List V}
theorem Inv.lset{b a:List aG}{n:Nat}{f:Array aG->Array aG}{t':Nat}(I:Inv X o4 U H s)(c:H l=ag (.lst xs))
  (e:s.heap.get? l=ag { cls:=.type "list",data:=.seq b.toArray n }) (j:f b.toArray=a.toArray) (d:Vals ys a) (h:ys.length<=sizeLine) :
  Inv X o4 U (upd H l (.lst ys)) { s with heap:=s.heap.update l (gj f),toks:=t' }:=by
 have q:=PySem.IsL.update e f;rw[j] at q;refine I.write (by rw[c];exact trivial) (.inl rfl) (λk u g i=>(cA s.heap (gj f) (bP g)).trans i) ⟨_,q⟩ ?_;exact⟨h,a,_,d,q⟩
theorem Inv.lnew{a:List aG}{t':Nat}(I:Inv X o4 U H s)(b:Vals ys a)(c:ys.length<=sizeLine) :
  Inv X o4 U (upd H s.heap.objs.size (.lst ys)) { s with heap:=s.heap.push { cls:=.type "list",data:=.seq a.toArray },toks:=t' }:=
 I.laid (λ_ _ q=>aH _ q) (aa _) ⟨c,a,0,b,af _ rfl⟩
theorem Inv.fresh(I:Inv X o4 U H s):H s.heap.objs.size=aA:=I.hok.fresh (aa _)
theorem Inv.lstM(I:Inv X o4 U H s)(b:H l=ag (.lst xs)):xs.length<=sizeLine/\∃(a:List aG) (n:Nat),Vals xs a/\xs.length=a.length/\s.heap.get? l=ag { cls:=.type "list",data:=.seq a.toArray n }:=by obtain⟨z,a,n,r,e⟩:=I.hok l _ b;exact⟨z,a,n,r,r.length,e⟩
theorem Kq{n:Nat}(h:n<=sizeLine):gS n=aB:=by exact decide_eq_false (by omega)
end
section
variable {X:Cx}
noncomputable def Gw:V->List V->Hp->VK->Prop:=λx vs H Q=>∃l xs y,x = .ref l/\vs=[y]/\H l=ag (.lst xs)/\xs.length<sizeLine/\Q .non (upd H l (.lst (xs++[y])))
theorem Y6:MtM X "list.append" Gw:=by intro i s U H x vs v g Q I c f h;obtain⟨l,xs,y,rfl,rfl,a,j,q⟩:=h;cases c;obtain⟨u,rfl,d⟩:=f.one;obtain⟨z,b,n,r,k,e⟩:=I.lstM a;refine fg F.slot_list_append ⟨_,e,rfl⟩ F.entry_list_append (F.args_list_append_2 _ _) (PySem.list_append l b.toArray n u (by rw[aT];omega)) ⟨e,?_⟩;refine⟨.non,_,I.lset a e (by simp) (r.append (.cons d .nil)) ?_,rfl,q⟩;rw[aY,dS];omega
noncomputable def Gx:V->List V->Hp->VK->Prop:=λx vs H Q=>∃l b xs zs,x = .ref l/\vs=[.ref b]/\H l=ag (.lst xs)/\H b=ag (.lst zs)/\xs.length+zs.length<=sizeLine/\Q .non (upd H l (.lst (xs++zs)))
theorem NS:MtM X "list.extend" Gx:=by
 intro C s U H x vs v B Q I m w h;obtain⟨l,b,xs,y,rfl,rfl,g,o,D,q⟩:=h;cases m;obtain⟨u,rfl,t⟩:=w.one;cases t;obtain⟨z,d,n,r,E,e⟩:=I.lstM g;obtain⟨A,a,j,p,k,i⟩:=I.lstM o;have f:d.toArray.size+a.toArray.size<=sizeLine:=by rw[aT,aT];omega
 have c:¬(!d.toArray.isEmpty&&gS (d.toArray.size+a.toArray.size))=aC:=by rw[Kq f,Bool.and_false];exact bx
 refine fg F.slot_list_extend ⟨_,e,rfl⟩ F.entry_list_extend (F.args_list_extend_2 _ _)
  (AutoSeq1.list_extend_list_list_0 l d.toArray n b a.toArray j c (by omega) (by omega)) ⟨e,i,?_⟩
 refine⟨.non,_,I.lset g e (by simp) (r.append p) ?_,rfl,q⟩;rw[aY];omega
noncomputable def Zi0:R2:=λx y H Q=>∃l b xs zs,x = .ref l/\y = .ref b/\H l=ag (.lst xs)/\H b=ag (.lst zs)/\xs.length+zs.length<=sizeLine/\∀p,H p=aA->Q (.ref p) (upd H p (.lst (xs++zs)))
theorem Cg:Sm X (dj .Add) Zi0:=by
 intro w s U H x y v u Q I j d h;obtain⟨l,b,xs,o,rfl,rfl,i,k,A,q⟩:=h;cases j;cases d;obtain⟨z,c,n,r,B,e⟩:=I.lstM i;obtain⟨p,a,t,m,g,f⟩:=I.lstM k;refine PySem.P.add_list e f ?_ (by rw[aT,aT];omega);have ea:c.toArray++a.toArray=(c++a).toArray:=by simp
 rw[ea];exact⟨.ref _,_,I.lnew (r.append m) (by rw[aY];omega),rfl,q _ I.fresh⟩
noncomputable def Zln:R2:=λx y H Q=>∃l k xs,x = .ref l/\y = .int k/\H l=ag (.lst xs)/\-(2^63)<=k/\k<2^63/\xs.length*k.toNat<=sizeLine/\
 ∀p,H p=aA->Q (.ref p) (upd H p (.lst (aQ k.toNat xs).flatten))
theorem MK{a:Type}(xs:List a)(k:Nat):(aQ k xs).flatten.length=k*xs.length:=by simp
theorem Zf4:Sm X (dj .Mult) Zln:=by
 intro L s U H x y v u Q I D w h;obtain⟨l,k,xs,rfl,rfl,C,o,A,j,q⟩:=h;cases D;obtain⟨t,rfl⟩:=w;obtain⟨z,b,n,r,G,e⟩:=I.lstM C;have f:b.toArray.size*k.toNat<=sizeLine:=by rw[aT,<-G];exact j
 have d:¬b.toArray.size*k.toNat>(2^63-1)/8:=by
  have:(sizeLine:Nat)<=(2^63-1)/8:=by decide
  omega
 have g:¬(!Builtin.List.listFitsIndex k)=aC:=by rw[fitsIndex_both o A];exact bx
 have c:¬gS (b.toArray.size*k.toNat)=aC:=by rw[Kq f];exact bx
 have i:la (λE B=>E++B) #[] (aQ (if b.toArray.isEmpty=aC then 0 else k.toNat) b.toArray)=(aQ k.toNat b).flatten.toArray:=by
  have J:=λm=>by have:=RA b m [];rw[nC] at this;exact this
  rw[J]
  cases b with
  | nil=>simp
  | cons a r'=>rw[oY (by simp)]
 refine jT rfl ⟨_,e,rfl⟩ (λp=>kB p k t) noFill_list_mul F.fills_int_mul F.slot_int_rmul repeat_list F.slot_int_index.lookup
  (fg F.slot_int_rmul (kB s k t) F.entry_int_rmul (F.args_int_rmul_2 _ _) (int___rmul___int_list k t l b.toArray n)
   ⟨e,rfl,⟨_,e,rfl⟩,fg F.slot_list_mul ⟨_,e,rfl⟩ F.entry_list_mul (F.args_list_mul_2 _ _) (AutoListH.list___mul___list_int_3 l b.toArray n k t g d c) ⟨e,?_⟩⟩)
 rw[i];exact⟨.ref _,_,I.lnew (r.rep k.toNat) (by rw[MK,mT];exact j),rfl,q _ I.fresh⟩
end
end L2
namespace Att
open PySem PySem.W PySem.Calls PyProof.Rows
theorem QO{P:Params}{h:bR}:∀(c:List Int)(vs:List aG),WellAll P h vs (c.map mm)->jz vs c:=by
 intro c
 induction c with
 | nil=>
  intro vs w;cases w;exact .nil
 | cons n c ih=>
  intro vs w
  cases w with
  | cons a b=>
   cases a;exact .cons _ _ (ih _ b)
theorem script_of{l:OpenLaw}{n:Nat}(s:l.most=ag n){P:Params}{h:bR}{b:List WData}{e:List aG}
  (f:l.row.toRowW.claim.pre b=aC) (k:WellAll P h e b) :
  ∃a vs c,e=[dN a]/\b=[WData.list (c.map mm)]/\h.get? a=ag { cls:=.type "list",data:=.seq vs.toArray }/\jz vs c/\c.length<=n:=by
 have j:=(pre_splitW f).1;have t:=(pre_splitW f).2;obtain⟨d,r,rfl,o,p⟩:=hasAllW_cons j;obtain rfl:=hasAllW_nil p;obtain⟨xs,rfl,q⟩:=hasW_list o;obtain⟨c,rfl⟩:=items_int q
 have g:c.length<=n:=by
  have i:(WTm.not (.lt (.lit (.int (n:Int))) (.len (.arg 0)))).holds [] { args:=[.list (c.map .int)] }=aC:=by have i:=(holds_andW t).1;rw[s] at i;exact i
  have m:=condW_of i (w_not (w_lt w_lit (w_len_list (w_arg rfl))))
  first
   | (rw[decide_eq_true q'] at m;exact absurd m rfl)
   | (simp at m;omega)
 cases k with
 | cons w1 w2=>
  cases w2
  cases w1 with
  | list ho hall=>exact⟨_,_,c,rfl,rfl,ho,QO c _ hall,g⟩
theorem post_true(l:OpenLaw)(a:List WData):l.row.toRowW.claim.post a (.bool aC) a=aC:=
 postW_of
  (show WShape.has [] (.bool aC) .bool=aC by first | rfl | decide | simp[WShape.arms])
  (w_eq_bool (w_res rfl) w_lit) rfl
end Att
namespace L2
open PySem PySem.Spec PyProof.Rows
section
variable {κ:Type} [DecidableEq κ]
noncomputable def Sw(o5:List (κ×V))(k:κ):Option V:=(o5.find? λkv=>decide (kv.1=k)).map (·.2)
noncomputable def Ul(o5:List (κ×V))(k:κ)(v:V):List (κ×V):=
 if(o5.any λkv=>decide (kv.1=k))=aC then o5.map (λkv=>if kv.1=k then(kv.1,v) else kv) else o5++[(k,v)]
theorem Sx{p:κ×V}{r:List (κ×V)}{k:κ}(e:p.1=k):Sw (p::r) k=ag p.2:=by simp[Sw,e]
theorem Sy{p:κ×V}{r:List (κ×V)}{k:κ}(e:¬p.1=k):Sw (p::r) k=Sw r k:=by simp[Sw,e]
theorem Kr(k:κ):∀o5:List (κ×V),(o5.any λa=>decide (a.1=k))=(Sw o5 k).isSome
 | []=>rfl
 | p::r=>by
  rw[lT];by_cases e:p.1=k
  ·simp only[Sx e,decide_eq_true e,Bool.true_or,lg]
  ·rw[Sy e,decide_eq_false e,Bool.false_or];exact Kr k r
theorem Ur(a:List (κ×V))(k:κ)(v:V):(Ul a k v).length<=a.length+1:=by
 unfold Ul;split
 ·rw[aL];omega
 ·rw[aY,bK,kQ];omega
theorem RelO.isSome_eq{o:Option V}{u:Option aG}(r:RelO o u):o.isSome=u.isSome:=by
 cases o with
 | none=>cases u with
  | none=>rfl
  | some _=>exact(r).elim
 | some _=>cases u with
  | none=>exact(r).elim
  | some _=>rfl
theorem KV.val{c:List (κ×V)}{vs:List (κ×aG)}(r:KV c vs)(k:κ):RelO (Sw c k) (mU vs k):=by
 induction r with
 | nil=>exact bY
 | @cons p q ps qs h t ih=>
  obtain⟨d,f⟩:=h;by_cases e:p.1=k
  ·have a:=d.symm.trans e;have b:mU (q::qs) k=ag q.2:=by simp[mU,a]
   rw[Sx e,b];exact f
  ·have a:¬q.1=k:=λz=>e (d.trans z);have b:mU (q::qs) k=mU qs k:=by simp[mU,a]
   rw[Sy e,b];exact ih
theorem KV.any{b:List (κ×V)}{vs:List (κ×aG)}(r:KV b vs)(k:κ):(b.any λa=>decide (a.1=k))=vs.any λa=>decide (a.1=k):=by
 unfold KV at r
 induction r with
 | nil=>rfl
 | cons h t ih=>rw[lT,lT,ih,h.1]
theorem KV.repl{c:List (κ×V)}{vs:List (κ×aG)}(r:KV c vs)(k:κ){y:V}{u:aG}(d:RelV y u) :
  KV (c.map λa=>if a.1=k then(a.1,y) else a) (vs.map λa=>if a.1=k then(a.1,u) else a):=by
 induction r with
 | nil=>exact .nil
 | @cons p q ps qs h t ih=>
  rw[ak,ak];refine .cons ?_ ih;obtain⟨b,f⟩:=h;by_cases e:p.1=k
  ·rw[oX e,oX (b.symm.trans e)];exact⟨b,d⟩
  ·rw[oY e,oY (λz=>e (b.trans z))];exact⟨b,f⟩
theorem KV.put{b:List (κ×V)}{vs:List (κ×aG)}(r:KV b vs)(k:κ){y:V}{u:aG}(a:RelV y u):KV (Ul b k y) (stored vs k u):=by
 unfold Ul stored;rw[r.any k];by_cases e:(vs.any λc=>decide (c.1=k))=aC
 ·rw[oX e,oX e];exact r.repl k a
 ·rw[oY e,oY e];exact Paired.snoc r ⟨rfl,a⟩
theorem KV.length{a:List (κ×V)}{vs:List (κ×aG)}(r:KV a vs):a.length=vs.length:=Paired.length r
end
theorem Ks{P:ay}{w:b9}{k:YR}{u:aG}(r:RelV (kV k) u):(Yv P w).is k u=aC:=by
 cases k with
 | inl i=>obtain⟨t,e⟩:=(r);subst e;exact Kh P w i t
 | inr x=>obtain⟨t,e⟩:=(r);subst e;exact Ki P w x t
theorem NT{P:ay}{w:b9}:∀{ks:List YR}{us:List aG},Vals (ks.map kV) us->ItemsAre (Yv P w) ks us
 | [],_,r=>by rw[fL] at r;cases r;exact .nil
 | k::ks,_,r=>by
  rw[ak] at r
  cases r with
  | cons h t=>exact .cons (Ks h) (NT t)
abbrev KT(H:Hp):List (List YR×V)->List (List YR×aK×aG)->Prop:=Paired λp q=>p.1=q.1/\H q.2.1=ag (.tup (p.1.map kV))/\RelV p.2 q.2.2
theorem KT.val{H:Hp}{c:List (List YR×V)}{xs:List (List YR×aK×aG)}(r:KT H c xs)(k:List YR):RelO (Sw c k) ((nZ xs k).map (·.2)):=by
 induction r with
 | nil=>exact bY
 | @cons p q ps qs h t ih=>
  obtain⟨d,_,f⟩:=h;by_cases e:p.1=k
  ·have a:=d.symm.trans e;have b:nZ (q::qs) k=ag q.2:=by simp[nZ,a]
   rw[Sx e,b];exact f
  ·have a:¬q.1=k:=λz=>e (d.trans z);have b:nZ (q::qs) k=nZ qs k:=by simp[nZ,a]
   rw[Sy e,b];exact ih
theorem KT.repl{H:Hp}{d:List (List YR×V)}{xs:List (List YR×aK×aG)}(r:KT H d xs)(k:List YR){y:V}{u:aG}(f:RelV y u) :
  KT H (d.map λb=>if b.1=k then(b.1,y) else b) (xs.map (putAt k u)):=by
 induction r with
 | nil=>exact .nil
 | @cons p q ps qs h t ih=>
  rw[ak];refine .cons ?_ ih;obtain⟨a,c,g⟩:=h;unfold putAt;by_cases e:p.1=k
  ·rw[oX e,oX (a.symm.trans e)];exact⟨a,c,f⟩
  ·rw[oY e,oY (λz=>e (a.trans z))];exact⟨a,c,g⟩
theorem KT.put{H:Hp}{a:List (List YR×V)}{xs:List (List YR×aK×aG)}(r:KT H a xs)(k:List YR){b:aK}{y:V}{u:aG}(d:H b=ag (.tup (k.map kV)))(c:RelV y u) :
  KT H (Ul a k y) (storedH xs k b u):=by
 have e:(a.any λf=>decide (f.1=k))=(nZ xs k).isSome:=by rw[Kr,(r.val k).isSome_eq,mV]
 unfold Ul storedH;rw[e];by_cases q:(nZ xs k).isSome=aC
 ·rw[oX q,oX q];exact r.repl k c
 ·rw[oY q,oY q];exact Paired.snoc r ⟨rfl,d,c⟩
theorem KT.keeps{H a:Hp}{c:List (List YR×V)}{xs:List (List YR×aK×aG)}(r:KT H c xs)(d:∀b ys,H b=ag (.tup ys)->a b=ag (.tup ys)):KT a c xs:=
 Paired.mapP r λ_ _ z=>⟨z.1,d _ _ z.2.1,z.2.2⟩
section
variable {P:ay} {w:b9} {H:Hp} {h:bR} {a:aK}
theorem Zd8{u:HO}(ok:HOk P w H h)(e:Rd H a u):ObjOk P w H h a u:=e.ok ok
theorem Gy{b:List (YR×V)}(ok:HOk P w H h)(e:Rd H a (.dK b)):b.length<=sizeLine/\(a==fZ)=aB/\∃vs,KV b vs/\h.DictOf (Yv P w) a vs:=
 Zd8 ok e
theorem Zd9{b:List (YR×V)}(ok:HOk P w H h)(e:H a=ag (.dK b)):b.length<=sizeLine/\(a==fZ)=aB/\∃vs,KV b vs/\h.DictOf (Yv P w) a vs:=Gy ok (.inl e)
theorem ML{b:List YR}(ok:HOk P w H h)(e:H a=ag (.tup (b.map kV))):(ku (Yv P w)).is h b a:=by obtain⟨_,f,r,o,g,d,n,c⟩:=(ok a _ e);exact⟨o,f.toArray,n,g,d,c,by simpa using NT r⟩
theorem Gz{c:List (List YR×V)}(ok:HOk P w H h)(e:Rd H a (.dT c)):c.length<=sizeLine/\(a==fZ)=aB/\
  ∃xs,KT H c xs/\h.DictOfH (ku (Yv P w)) a xs:=by
 obtain⟨z,y,xs,r,o,i,ep,d,f,g,j,k⟩:=(Zd8 ok e);refine⟨z,y,xs,r,o,i,ep,d,f,g,j,λx b=>?_,k⟩
 have all:∀{l:List (List YR×V)}{m:List (List YR×aK×aG)},KT H l m->∀x∈m,(ku (Yv P w)).is h x.1 x.2.1:=by
  intro l m q
  induction q with
  | nil=>intro x b;exact nomatch b
  | @cons p q ps qs hq t ih=>
   intro x b;rcases aX.mp b with e | b
   ·subst e;exact ML ok (by rw[<-hq.1];exact hq.2.1)
   ·exact ih x b
 exact all r x b
theorem Zi1{b:List (List YR×V)}(ok:HOk P w H h)(e:H a=ag (.dT b)):b.length<=sizeLine/\(a==fZ)=aB/\
  ∃xs,KT H b xs/\h.DictOfH (ku (Yv P w)) a xs:=Gz ok (.inl e)
end
noncomputable def Eh(H:Hp)(a:aK)(y:V)(r:Option V):Prop:=
 (∃o5 k,Rd H a (.dK o5)/\y=kV k/\r=Sw o5 k)\/∃o5 k b,Rd H a (.dT o5)/\y = .ref b/\H b=ag (.tup (k.map kV))/\r=Sw o5 k
noncomputable def Zi2(H:Hp)(a:aK)(y v:V)(H':Hp):Prop:=
 (∃o5 k,H a=ag (.dK o5)/\y=kV k/\o5.length<sizeLine/\H'=upd H a (.dK (Ul o5 k v)))\/
 ∃o5 k b,H a=ag (.dT o5)/\y = .ref b/\H b=ag (.tup (k.map kV))/\o5.length<sizeLine/\H'=upd H a (.dT (Ul o5 k v))
section
variable {X:Cx} {o4:List (aK×cg)} {U:St} {H:Hp} {s:aM} {a:aK} {y v:V} {u r:aG} {o:Option V} {A:bU} {E:aG->aM->Prop}
theorem Inv.big(I:Inv X o4 U H s):fZ<s.heap.objs.size:=by have h:=(I.mod.glob.keeps I.bk).lt;exact mW (by decide) h
theorem Ei{Q:aG->aM->Prop}(t:A.units+1<eT)(I:Inv X o4 U H s)(g:Eh H a y (ag v))(m:RelV y u)(h:∀d s',Inv X o4 U H s'->RelV v d->Q d s') :
  av (model X.prog X.w) A (jy (.ref a) u) Q E s:=by
 rcases g with⟨n,k,e,j,l⟩ | ⟨n,k,b,e,j,q,l⟩
 ·subst j;obtain⟨z,hd,vs,c,dd⟩:=Gy I.hok e;obtain⟨d,f,Xg⟩:=RelO.some_of (by rw[l];exact c.val k);exact wpAny_getItem_of (Ks m) dd.mapOf f (h d _ (I.tok _) Xg)
 ·subst j;cases (m);obtain⟨z,hd,xs,c,dd⟩:=Gz I.hok e;obtain⟨d,f,Xg⟩:=RelO.some_of (by rw[l];exact c.val k);obtain⟨p,o,i⟩:=gz.mp f;refine wpAny_getItem_heap (jK t) (ML I.hok q) dd o ?_;rw[i];exact h d _ (I.tok _) Xg
theorem Zav{Q:aG->aM->Prop}(m:A.units+1<eT)(I:Inv X o4 U H s)(g:Eh H a y o)(f:RelV y u)(h:∀s',Inv X o4 U H s'->Q (.bool (!o.isSome)) s') :
  av (model X.prog X.w) A (eJ .NotIn u (.ref a)) Q E s:=by
 rcases g with⟨i,k,e,d,l⟩ | ⟨i,k,b,e,d,j,l⟩
 ·subst d;obtain⟨z,hd,vs,c,dd⟩:=Gy I.hok e;refine wpAny_notIn_of (Ks f) hd dd.mapOf ?_;rw[<-(c.val k).isSome_eq,<-l];exact h _ (I.tok _)
 ·subst d;cases (f);obtain⟨z,hd,xs,c,dd⟩:=Gz I.hok e;refine wpAny_notIn_heap (jK m) (ML I.hok j) hd dd ?_;have q:=(c.val k).isSome_eq;rw[mV] at q;rw[<-q,<-l];exact h _ (I.tok _)
theorem MM{h':bR}{t':Nat}{c:HO}(I:Inv X o4 U H s)(f:Uq (H a))(hs:cj a s.heap h')(d:∃q,h'.get? a=ag q)(new:ObjOk X.prog X.w (upd H a c) h' a c) :
  Inv X o4 U (upd H a c) { s with heap:=h',toks:=t' }:=
 I.write f (.inl rfl) (λb q e z=>(hs.2 b e).trans z) d new
theorem Ci{P:ay}{w:b9}{d:Hp}{h':bR}{b:List (YR×V)}{vs:List (YR×aG)}(z:b.length<=sizeLine)(hd:(a==fZ)=aB)(c:KV b vs)(dd:h'.DictOf (Yv P w) a vs) :
  ObjOk P w d h' a (.dK b):=⟨z,hd,vs,c,dd⟩
theorem Ej{t:Hp}{Q:Unit->aM->Prop}(L:A.units+1<eT)(I:Inv X o4 U H s)(g:Zi2 H a y v t)(p:RelV y u)(B:RelV v r)(h:∀s',Inv X o4 U t s'->Q () s') :
  av (model X.prog X.w) A (setItem (.ref a) u r) Q E s:=by
 rcases g with⟨i,k,e,m,l,n⟩ | ⟨i,k,b,e,m,x,l,n⟩
 ·subst m n;obtain⟨z,hd,vs,d,dd⟩:=Zd9 I.hok e;have M:vs.length<=sizeLine:=by rw[<-d.length];exact z
  have o:(Ul i k v).length<=sizeLine:=by have:=Ur i k v;omega
  refine wpAny_setItem_pairs (Ks p) dd λh' f hs=>h _ ?_;have F:∃q,h'.get? a=ag q:=let⟨q,_,_,j,_⟩:=f;⟨q,j⟩;exact MM I (by rw[e];exact bY) hs F (Ci o hd (d.put k B) f)
 ·subst m n;cases (p);obtain⟨z,hd,xs,d,dd⟩:=Zi1 I.hok e;have M:xs.length<=sizeLine:=by rw[<-Paired.length d];exact z
  have o:(Ul i k v).length<=sizeLine:=by have:=Ur i k v;omega
  refine wpAny_setItem_heap (jK L) (ML I.hok x) dd λh' f hs=>h _ ?_;obtain⟨q,G,ep,j,C,D,J,_,N⟩:=f;refine MM I (by rw[e];exact bY) hs ⟨q,j⟩ ⟨o,hd,_,(d.put k x B).keeps λc O w=>?_,q,G,ep,j,C,D,J,N⟩;rw[upd_ne (Zh9 w e (λz=>nomatch z))];exact w
end
noncomputable def Zf5(i:bB):Prop:=∀ov iv,subscripted i aB ov iv=operate [ov,iv] (jy ov iv)
theorem Zaw{prog:ay}{w:b9}{A:bU}{E:aG->aM->Prop}{s:aM}{env:jR}{b a:bB}{k:da}{T id:String}{Q:aG->aM->Prop}
  (m:typeLookup (.type T) "__getitem__" = pure (ag (.builtin id))) (hs:Zf5 a)
  (h:av (model prog w) A (eval b env) (λo e=>av (model prog w) A (eval a env) (λi c=>c.TypeIs o T/\av (model prog w) A (jy o i) Q E c) E e) E s) :
  av (model prog w) A (eval (.Subscript b a k) env) Q E s:=by
 refine nY (bW h (λo e h₁=>bW h₁ (λi c d=>?_) λ_ _ x=>x) λ_ _ x=>x);obtain⟨l,d⟩:=d;refine aI ?_;refine aI (wpAny_specialOf l m ?_);have g:av (model prog w) A (subscripted a aB o i) (λr f=>av (model prog w) A (letTemporaryGo b o r >>= λ_=>pure r) Q E f) E c:=by rw[hs o i];exact wpAny_operating (bW d (λr f j=>aI (wpAny_letTemporaryGo (a9 j))) λ_ _ x=>x)
 first
  | exact a9 (aI g)
  | exact aI (a9 (aI g))
  | exact aI g
theorem Kt{X:Cx}{d:List (aK×cg)}{U:St}{H:Hp}{s:aM}{a:aK}{y:V}{o:Option V}(I:Inv X d U H s)(g:Eh H a y o):s.TypeIs (.ref a) "dict":=by
 rcases g with⟨c,k,e,_,_⟩ | ⟨c,k,b,e,_,_,_⟩
 ·obtain⟨_,_,vs,_,dd⟩:=Gy I.hok e;exact dd.typeIs
 ·obtain⟨_,_,xs,_,dd⟩:=Gz I.hok e;exact dd.typeIs
noncomputable def Zea(td ty:TE):TE:=λU H Q=>td U H λx H1=>ty U H1 λy H2=>∃a v,x = .ref a/\Eh H2 a y (ag v)/\Q v H2
noncomputable def GA(ty td:TE):TE:=λU H Q=>ty U H λy H1=>td U H1 λx H2=>∃a o,x = .ref a/\Eh H2 a y o/\Q (.bl (!o.isSome)) H2
noncomputable def sDPut(td ty tv:TE):TS:=λD U H=>tv U H λv H1=>td U H1 λx H2=>ty U H2 λy H3=>∃a H4,x = .ref a/\Zi2 H3 a y v H4/\D.nx U H4
section
variable {X:Cx} {o i e value:bB} {pos pos' tpos:da} {td ty tv:TE}
theorem Zax(w:X.A.units+1<eT)(m:PE X o td)(e:PE X i ty)(hs:Zf5 i):PE X (.Subscript o i pos) (Zea td ty):=by intro c s U H Q I h;refine Zaw PySem.F.slot_dict_getitem.lookup hs (Yf (m c s U H _ I h) λu s1 ⟨x,n,t,p,l⟩=>Yf (e c s1 U n _ t l) λB s2 ⟨y,d,b,j,a,v,f,g,q⟩=>?_);subst f;obtain rfl:=p;exact⟨Kt b g,Ei w b g j λz A k Xg=>⟨v,d,k,Xg,q⟩⟩
theorem Ek(w:X.A.units+1<eT)(d:PE X i ty)(l:PE X o td):PC X .NotIn i o (GA ty td):=by intro b s U H Q I h;refine Yf (d b s U H _ I h) λA s1 ⟨y,m,t,f,k⟩=>Yf (l b s1 U m _ t k) λu s2 ⟨x,c,p,n,a,v,e,g,q⟩=>?_;subst e;obtain rfl:=n;exact Zav w p g f λz j=>⟨.bl (!v.isSome),c,j,rfl,q⟩
theorem Zay(C:X.A.units+1<eT)(p:PE X o td)(d:PE X i ty)(q:PE X value tv)(hs:eK value (ag (.Subscript o i pos')) pos.line X.env=pure aB) :
  PS X (.Assign [.Subscript o i pos'] value pos) (sDPut td ty tv):=by
 intro b s U H D I h;refine wpAny_Assign_Subscript (Yf (q b s U H _ I h) λr s1 ⟨v,t,B,E,n⟩=>Yf (p b s1 U t _ B n) λu s2 ⟨x,c,z,w,A⟩=>Yf (d b s2 U c _ z A) λL F ⟨y,J,k,f,a,l,e,g,m⟩=>?_) hs;subst e;obtain rfl:=w;exact Ej C k g f E λG j=>⟨U,l,j,m⟩
end
theorem Cj{P:ay}{w:b9}{H:Hp}(h:bR)(a:fZ<h.objs.size):ObjOk P w H (h.push { cls:=.type "dict",data:=.dict #[] }) h.objs.size (.dK []):=
 ⟨eY _,beq_eq_false_iff_ne.mpr (bP (az a)),[],.nil,bR.DictOf.new h⟩
noncomputable def Ii:List (TE×TE)->St->Hp->(List (V×V)->Hp->Prop)->Prop
 | [],_,H,Q=>Q [] H
 | (tk,tv)::r,U,H,Q=>tk U H λx H1=>tv U H1 λy H2=>Ii r U H2 λps H3=>Q ((x,y)::ps) H3
abbrev VV:List (V×V)->List (aG×aG)->Prop:=Paired λp q=>RelV p.1 q.1/\RelV p.2 q.2
noncomputable def PPs(X:Cx)(pos:da)(keys:List (Option bB))(values:List bB)(trs:List (TE×TE)):Prop:=
 ∀(o4:List (aK×cg))(s:aM)(U:St)(H:Hp)(Q:List (V×V)->Hp->Prop),Inv X o4 U H s->Ii trs U H Q->
  av (model X.prog X.w) X.A (evalPairs (pairTrees keys values X.env pos)) (λvs s'=>∃ps H',Inv X o4 U H' s'/\VV ps vs/\Q ps H') X.xe s
theorem Zaz{X:Cx}{a:da}:PPs X a [] [] []:=λb s U H Q I h=>pairTrees_nil_walk ⟨[],H,I,.nil,h⟩
theorem Ck{X:Cx}{b:da}{k v:bB}{f:List (Option bB)}{vs:List bB}{tk e:TE}{a:List (TE×TE)}(i:PE X k tk)(q:PE X v e)(m:PPs X b f vs a) :
  PPs X b (ag k::f) (v::vs) ((tk,e)::a):=λd s U H Q I h=>
 pairTrees_cons_walk (Yf (i d s U H _ I h) λu s1 ⟨x,p,B,t,o⟩=>Yf (q d s1 U p _ B o) λE s2 ⟨y,g,w,j,z⟩=>
  Yf (m d s2 U g _ w z) λF D ⟨A,C,l,c,n⟩=>⟨(x,y)::A,C,l,.cons ⟨t,j⟩ c,n⟩)
noncomputable def Pz(o5 more:List (YR×V)):List (YR×V):=more.foldl (λacc kv=>Ul acc kv.1 kv.2) o5
theorem KV.merge:∀{more:List (YR×V)}{b:List (YR×aG)}{a:List (YR×V)}{vs:List (YR×aG)},KV more b->KV a vs->KV (Pz a more) (merged vs b):=by
 intro more b a vs r
 induction r generalizing a vs with
 | nil=>intro q;exact q
 | @cons p q ps qs h t ih=>
  intro c;have e:KV (Ul a p.1 p.2) (stored vs q.1 q.2):=by have:=c.put p.1 h.2;rw[<-h.1];exact this
  exact ih e
theorem TB:∀(more o5:List (YR×V)),(Pz o5 more).length<=o5.length+more.length
 | [],o5=>by show o5.length<=o5.length+0;omega
 | p::r,o5=>by have b:=TB r (Ul o5 p.1 p.2);have a:=Ur o5 p.1 p.2;show(Pz (Ul o5 p.1 p.2) r).length<=_;rw[bK];omega
theorem PB{P:ay}{w:b9}:∀{o5:List (YR×V)}{ws:List (aG×aG)},VV (o5.map λe=>(kV e.1,e.2)) ws->∃d,Carries (Yv P w) ws d/\KV o5 d
 | [],_,r=>by rw[fL] at r;cases r;exact⟨[],bY,.nil⟩
 | p::o5,_,r=>by
  rw[ak] at r
  cases r with
  | @cons a b as bs h t=>
   obtain⟨d,c,q⟩:=PB (P:=P) (w:=w) t;obtain⟨b1,f⟩:=b;exact⟨(p.1,f)::d,⟨Ks h.1,rfl,c⟩,.cons ⟨rfl,h.2⟩ q⟩
noncomputable def Zi3(trs:List (TE×TE)):TE:=λU H Q=>∀p,H p=aA->Ii trs U (upd H p (.dK [])) λps H2=>H2 p=ag (.dK [])/\∃o5:List (YR×V),ps=o5.map (λkv=>(kV kv.1,kv.2))/\o5.length<=15/\Q (.ref p) (upd H2 p (.dK (Pz [] o5)))
theorem Za0{X:Cx}{i:da}{a:List (Option bB)}{b:List bB}{f:List (TE×TE)}(h:PPs X i a b f)(g:a.all (·.isSome)=aC)(C:a.length=b.length)(u:a≠[])
  (j:a.length<=15):PE X (.Dict a b i) (Zi3 f):=by
 intro B s U H Q I q;have t:=I.hok.fresh (aa s.heap.objs.size);have y:=I.laid (t':=s.toks) (λ_ _ q=>aH _ q) (aa _) (Cj s.heap I.big);refine wpAny_Dict_walk (knd:=Yv X.prog X.w) g C u j (Yf (h B _ U _ _ y (q _ t)) λG s2 ⟨J,F,m,k,e,l,ep,L,v⟩=>?_);subst ep;obtain⟨E,c,w⟩:=PB k;obtain⟨z,hd,x,n,dd⟩:=Zd9 m.hok e;cases n;refine⟨E,c,dd,λh' d hs=>⟨.ref s.heap.objs.size,_,?_,rfl,v⟩⟩;have D:(Pz [] l).length<=sizeLine:=by have o:=TB l [];rw[kQ] at o;rw[gn];omega
 have A:∃q,h'.get? s.heap.objs.size=ag q:=let⟨q,_,_,p,_⟩:=d;⟨q,p⟩;exact MM m (by rw[e];exact bY) hs A (Ci D hd (w.merge .nil) d)
theorem NU:∀{vs:List aG}{ns:List Int},jz vs ns->Vals (ns.map V.int) vs
 | _,_,.nil=>.nil
 | _,_,.cons n t h=>.cons ⟨t,rfl⟩ (NU h)
noncomputable def Yy(s:ba):kz:=match s with
 | .FunctionDef _ a _ _ _ _ _ _ _ _=>a
 | _=>{ posonlyargs:=[],args:=[],vararg:=aA,kwonlyargs:=[],kw_defaults:=[],kwarg:=aA,defaults:=[] }
noncomputable def Z2(s:ba):List ba:=match s with
 | .FunctionDef _ _ b _ _ _ _ _ _ _=>b
 | _=>[]
noncomputable def Zg(s:ba):du:=match s with
 | .FunctionDef _ _ _ _ _ _ sc _ _ _=>sc
 | _=>{ kind:=.function,names:=[],isGenerator:=aB,isCoroutine:=aB }
abbrev MN:CXT:=λ_ _ _ _ _ _=>False
abbrev E0:XK:=λ_ _ _=>False
theorem Zeb{X:Cx}:Pw MN X E0:=λ_ _ _ _ _ _ _ h=>h.elim
structure Fun(K:aE)(x qual:aj)(st:ba)(f:aK)(fd:eU):Prop where
 ex:∃(oc:aG) (od:Option aK) (kV doc pm:aG) (an:Option aK) (cdv ct:aG) (osl:Array (Option aG)),
  fd=cV x qual (Yy st) (Z2 st) (Zg st) .none kV doc pm an cdv ct/\K.lookup f=ag ⟨oc,od,.func fd,osl⟩/\cy K cdv qual=aC
 kp:dw K (.ref f)=aC
section
variable {P:ay} {w:b9} {K:aE} {mg:aj->Option aG} {base:bR}
theorem Fun.ok{x b:aj}{st:ba}{f:aK}{l:eU}{N i:List aj}{k:Nat}{j:Sp}(F:Fun K x b st f l)(S:Zq N i (Zg st))(len:∀vs H Q E,j vs H Q E->vs.length=i.length)
  (d:∀(c:aG)(A:bU)(a:List jR)(s:aM)(H:Hp)(vs:List V)(Q:VK)(E:XK),Room k (A.deeper (gh b (Zg st) s.heap.objs.size f c))->j vs H Q E->
   ∃t,PSs (Su MN P w K mg base N b (Zg st) f c A a s H E).nox (Z2 st) t/\t { nx:=λ_ o=>Q .non o,rt:=Q } (start N vs) H):Tr P w K mg base MN (k+1) f l i j:=by
 obtain⟨z,B,kV,m,v,y,c,ct,p,rfl,u,e⟩:=F.ex;refine YZ u e S len λA a s H vs Q E n g=>?_;obtain⟨t,h,q⟩:=d c A a s H vs Q E n g;exact⟨t,h.nox,q⟩
theorem Fun.binds{x a:aj}{st:ba}{f:aK}{i:eU}{g:List aj}(F:Fun K x a st f i)
  (h:∀(kV c d:aG)(e:Option aK)(b ct:aG)(us:List aG),us.length=g.length->gx (cV x a (Yy st) (Z2 st) (Zg st) .none kV c d e b ct) ⟨us,[]⟩=pure (g.zip us)):Binds K i g []:=by
 obtain⟨l,n,kV,c,d,e,b,ct,k,rfl,m,j⟩:=F.ex;exact .all (h kV c d e b ct)
theorem Cm{x a:aj}{st:ba}{f:aK}{j:aG}{i g:Option aK}{e:Array (Option aG)}{kV d h b ct:aG}(l:K.lookup f=ag ⟨j,i,.func (cV x a (Yy st) (Z2 st) (Zg st) .none kV d h g b ct),e⟩)
  (c:cy K b a=aC) (k:dw K (.ref f)=aC):Fun K x a st f (cV x a (Yy st) (Z2 st) (Zg st) .none kV d h g b ct):=⟨⟨j,i,kV,d,h,g,b,ct,e,rfl,l,c⟩,k⟩
end
theorem GB{A:bU}{k:Nat}(a:Room k A):A.units+1<eT:=dE (Nat.add_le_add_left (by simp) _) a.units
section
variable {X:Cx}
theorem pv(i:Nat){x:aj}{b:da}(d:X.N[i]?=ag x:=by rfl)(c:Vis X.env.scope x:=by first | exact j8 rfl | exact kd (j8 rfl) | exact kd (kd rfl))(hd:(x==("__debug__" : aj))=aB:=by decide)
  (a:(x==("__classdict__" : aj))=aB:=by decide):PE X (.Name x b) (TV i):=DT d c hd a
end
theorem Zi4{A B:Prop}(h:B):if aB=aC then A else B:=by rw[oY bx];exact h
theorem Zi5{A B:Prop}(h:A):if aC=aC then A else B:=by rw[oX rfl];exact h
noncomputable def Same(H H':Hp):Prop:=∀b o,H b=ag o->H' b=ag o
theorem Same.refl(H:Hp):Same H H:=λ_ _ h=>h
theorem Same.trans{H e d:Hp}(a:Same H e)(b:Same e d):Same H d:=λc o h=>b c o (a c o h)
theorem Same.free{H a:Hp}(e:Same H a){l:aK}(h:a l=oS):H l=oS:=by
 cases q:H l with
 | none=>rfl
 | some o=>
  rw[e l o q] at h;cases h
end L2
set_option maxHeartbeats 4000000
namespace L2
open PySem PySem.Spec PyProof.Rows
noncomputable def WA(cells:List (aj×aK)):List (aj×eV)->List (aj×aK)->List (aj×aK)
 | [],acc=>acc
 | (n,k)::r,acc=>WA cells r (if(k==bj)=aC then(n,(cells.lookup n).getD 0)::acc else acc)
theorem TC{env:jR}:∀(names:List (aj×eV))(acc:List (aj×aK)),(∀y∈names,y.2 = .free->(env.cells.lookup y.1).isSome=aC)->
  (forIn (m:=Sem) names acc λ(x:aj×eV) (d:List (aj×aK))=>
   match x with
   | (name,kind)=>if(kind==bj)=aC then do
     let c <-cellOf env name
     pure (fR ((name,c)::d))
    else pure (fR d))=pure (WA env.cells names acc)
 | [],acc,_=>rfl
 | (n,k)::r,acc,h=>by
  rw[List.forIn_cons];have e:=λa=>TC r a λy f=>h y (aR _ f)
  cases hk:(k==bj) with
  | true=>
   have hs:=h (n,k) ao (by simpa using hk);obtain⟨c,b⟩:=cT.mp hs;have b:env.cells.lookup n=ag c:=b;have g:cellOf env n=pure c:=by unfold cellOf;rw[b]
   dsimp only
   rw[hk,oX rfl,g];refine Eq.trans (e ((n,c)::acc)) ?_;show _=pure (WA env.cells r (if(k==bj)=aC then(n,(env.cells.lookup n).getD 0)::acc else acc));rw[oX hk,b];rfl
  | false=>
   dsimp only
   rw[hk,oY bx];refine Eq.trans (e acc) ?_;show _=pure (WA env.cells r (if(k==bj)=aC then(n,(env.cells.lookup n).getD 0)::acc else acc));rw[oY (by rw[hk];exact bx)]
theorem Vm{a:du}{env:jR}(h:∀y∈a.names,y.2 = .free->(env.cells.lookup y.1).isSome=aC):jL a env=pure (WA env.cells a.names []):=by
 have e:=TC a.names [] h;unfold jL
 dsimp only
 rw[e];rfl
theorem RD{a:List (aj×aK)}{x:aj}{c:aK}:∀(names:List (aj×eV))(acc:List (aj×aK)),(∀y∈names,y.2 = .free->(a.lookup y.1).isSome=aC)->(acc.lookup x=ag c->a.lookup x=ag c)->
  (WA a names acc).lookup x=ag c->a.lookup x=ag c
 | [],_,_,h,e=>h e
 | (n,k)::r,acc,hf,h,e=>by
  refine RD r _ (λy g=>hf y (aR _ g)) ?_ e;intro q;by_cases b:(k==bj)=aC
  ·rw[oX b,bZ] at q
   cases hx:x==n with
   | true=>
    rw[hx] at q;have f:x=n:=by simpa using hx
    obtain⟨d,hd⟩:=cT.mp (hf (n,k) ao (by simpa using b));have hd:a.lookup n=ag d:=hd;rw[hd] at q;rw[f,hd];exact q
   | false=>rw[hx] at q;exact h q
  ·rw[oY b] at q;exact h q
theorem PD{a:List (aj×aK)}{x:aj}:∀(names:List (aj×eV))(acc:List (aj×aK)),(acc.lookup x).isSome=aC->((WA a names acc).lookup x).isSome=aC
 | [],_,h=>h
 | (n,k)::r,acc,h=>by
  refine PD r _ ?_;split
  ·rw[bZ];split<;>simp_all
  ·exact h
theorem RE{a:List (aj×aK)}{x:aj}:∀(names:List (aj×eV))(acc:List (aj×aK)),(x,bj)∈names->((WA a names acc).lookup x).isSome=aC
 | (n,k)::r,acc,h=>by
  rcases aX.mp h with e | h
  ·cases e;refine PD r _ ?_;rw[oX (by decide),bZ];simp
  ·exact RE r _ h
structure CompScope(N:List aj)(around scope:du)(own fr:List aj)(ix:List Nat):Prop where
 kind:scope.kind = .function
 nocell:∀y∈scope.names,y.2≠.cell
 names:∀y∈scope.names,y.2 = .local->scope.names.lookup y.1=ag .local
 frees:∀y∈scope.names,y.2 = .free->(around.names.lookup y.1=ag .cell\/around.names.lookup y.1=ag .free)
 slots:fr.map ag=ix.map (λi=>N[i]?)
 outs:∀x∈fr,(x,bj)∈scope.names
 apart:∀x∈fr,scope.names.lookup x≠ag .local
noncomputable def ZH(X:Cx)(N':List aj)(scope:du)(cl:List (aj×aK))(C:aK)(s:aM)(H:Hp)(ex:List aK):Cx:=
 { X with N:=N',s₀:=s,H₀:=H,env:=jo scope cl C X.env,outer:=X.stack,ex:=ex,fn:=λ_=>aB,pn:=[],xe:=λ_ _=>False }
noncomputable def Z4(n:Nat)(ix:List Nat)(U:St):St:=aQ n aA++ix.map (λi=>(U[i]?).join)
theorem Xi{env:jR}{x:aj}:∀{names:List (aj×eV)}{k:eV},names.lookup x=ag k->
  (names.map λ(n,k)=>if(k==bj&&env.scope.kind==.function&&env.kindOf n==ag .cell) then(n,dm) else(n,k)).lookup x =
   ag (if(k==bj&&env.scope.kind==.function&&env.kindOf x==ag .cell)=aC then dm else k)
 | [],_,h=>by simp at h
 | (n,k')::r,k,h=>by
  show List.lookup x ((if(k'==bj&&env.scope.kind==.function&&env.kindOf n==ag .cell)=aC then(n,dm) else(n,k'))::_)=_
  cases hx:x==n with
  | true=>
   simp only[bZ,hx] at h;cases h;have e:x=n:=by simpa using hx
   subst e;split
   ·simp[bZ]
   ·simp[bZ]
  | false=>
   simp only[bZ,hx] at h;split
   ·simp only[bZ,hx];exact Xi h
   ·simp only[bZ,hx];exact Xi h
theorem Wh{env:jR}{x:aj}:∀{names:List (aj×eV)}{k':eV},
  (names.map λ(n,k)=>if(k==bj&&env.scope.kind==.function&&env.kindOf n==ag .cell) then(n,dm) else(n,k)).lookup x=ag k'->∃k,names.lookup x=ag k
 | [],_,h=>by simp at h
 | (n,k0)::r,k',h=>by
  have h:List.lookup x ((if(k0==bj&&env.scope.kind==.function&&env.kindOf n==ag .cell)=aC then(n,dm) else(n,k0))::_)=ag k':=h
  cases hx:x==n with
  | true=>exact⟨k0,by simp[bZ,hx]⟩
  | false=>
   have:∃k,r.lookup x=ag k:=by
    apply Wh (env:=env) (k':=k');split at h<;>simpa [bZ,hx] using h
   obtain⟨k,e⟩:=this;exact⟨k,by simp[bZ,hx,e]⟩
section
variable {X:Cx} {o4:List (aK×cg)} {U:St} {H:Hp} {s:aM} {own fr:List aj} {ix:List Nat} {scope:du}
theorem CompScope.clos(S:CompScope X.N X.env.scope scope own fr ix)(I:Inv X o4 U H s):∀y∈scope.names,y.2 = .free->(X.env.cells.lookup y.1).isSome=aC:=λy a b=>by obtain⟨c,e⟩:=I.ok.has y.1 (S.frees y a b);rw[e];rfl
end
theorem MO{prog:ay}{w:b9}{A:bU}{R:nS->aM->Prop}{s:aM}{C a t:bB}{D:List bB}{p:du}{B:da}{z acc:aG}{env:jR}(I:Nat->aM->Prop)
  (turn:∀n s,I n s->av (model prog w) A (oN z) (λr b=>match r with
   | none=>R (.ok .next) b
   | some v=>av (model prog w) A (kP a z v) (λ_ d=>av (model prog w) A (assign a env v) (λ_ k=>
     av (model prog w) A (forIn D aC λc r=>if r=aC then do let ok <-l3 c env (eval c env);pure (fR ok) else pure (fR r)) (λok f=>
      if ok=aC then av (model prog w) A (eval C env) (λx i=>
       av (model prog w) A (call (.builtin "list.append") [acc,x]) (λ_ j=>∃m,m<n/\I m j) (lA (model prog w) A env λe g=>R (.error e) g) i) (lA (model prog w) A env λe g=>R (.error e) g) f
      else ∃m,m<n/\I m f) (lA (model prog w) A env λe g=>R (.error e) g) k) (lA (model prog w) A env λe g=>R (.error e) g) d) (lA (model prog w) A env λe g=>R (.error e) g) b) (lA (model prog w) A env λe g=>R (.error e) g) s)
  (n:Nat) (h:I n s) :
  gY (model prog w) A (.compLoop (.ListComp C [⟨a,t,D,0⟩] p B) 0 z acc env) R s:=by
 refine codeAny_loop rfl I (λn s E=>?_) n h;refine wpAny_noted ?_;refine aI (gO (aI (bW (turn n s E) (λr b h₁=>?_) λ_ _ h'=>h')))
 cases r with
 | none=>exact a9 h₁
 | some v=>
  refine aI (bW h₁ (λ_ d o=>?_) λ_ _ h'=>h');refine aI (bW o (λ_ k y=>aI (bW y (λok f l=>?_) λ_ _ h'=>h')) λ_ _ h'=>h')
  cases ok with
  | false=>exact a9 ⟨rfl,l⟩
  | true=>
   exact aI (aI (bW l (λx i q=>aI (bW q (λ_ j u=>a9 (a9 ⟨rfl,u⟩)) λ_ _ h'=>h')) λ_ _ h'=>h'))
noncomputable def Ij(X:Cx)(o9:List bB)(t:TT):Prop:=
 ∀(o4:List (aK×cg))(s:aM)(U:St)(H:Hp)(Q:Bool->Hp->Prop),Inv X o4 U H s->t U H Q->
  av (model X.prog X.w) X.A (forIn o9 aC λc r=>if r=aC then do let ok <-l3 c X.env (eval c X.env);pure (fR ok) else pure (fR r)) (TP X o4 U Q) X.xe s
noncomputable def Zi6:TT:=λ_ H Q=>Q aC H
theorem Za1{X:Cx}:Ij X [] Zi6:=λ_ _ _ H _ I h=>wpAny_tests_nil ⟨H,I,h⟩
theorem Za2{X:Cx}{c:bB}{t:TT}(h:PT X c t):Ij X [c] t:=λa s U H Q I b=>wpAny_tests_one (h a s U H Q I b)
noncomputable def Zi7(n:Nat)(ix:List Nat)(g:TG)(tt:TT)(te:TE)(U:St)(Q:VK)(J:It)(H1:Hp):Prop:=
 ∃W:Nat->Nat->List V->Hp->Prop,(∃m,W 0 m [] H1)/\∀i m ys H,W i m ys H->ys.length<=sizeLine/\
  ((J.stop i H/\∀p,H p=aA->Q (.ref p) (upd H p (.lst ys)))\/
   (J.go i H/\∃N:List V->Hp->Prop,(∀ys' H',N ys' H'->∃m',m'<m/\W (i+1) m' ys' H')/\
    ∀x H',J.yld i H x H'->g x (Z4 n ix U) H' λU2 H2=>U2.drop n=(Z4 n ix U).drop n/\tt U2 H2 λb H3=>if b=aC then te U2 H3 λy H4=>N (ys++[y]) H4 else N ys H3))
noncomputable def PF(n:Nat)(ix:List Nat)(wi:TI)(g:TG)(tt:TT)(te:TE):TE:=λU H Q=>wi U H λJ H1=>Zi7 n ix g tt te U Q J H1
theorem El{n:Nat}{ix:List Nat}{U U2:St}(hd:U2.drop n=(Z4 n ix U).drop n):∀(i:Nat) v,(Z4 n ix U)[i]?=ag (ag v)->U2[i]?=ag (ag v):=λi v e=>by
 by_cases a:i<n
 ·unfold Z4 at e;rw[au (by simpa using a),bc] at e;rw[oX a] at e;cases e
 ·have q:=congrArg (λl=>l[i-n]?) hd;simp only[gk] at q;rw[show n+(i-n)=i by omega] at q;rw[q];exact e
section
variable {X:Cx} {tg oV iter:bB} {o9:List bB} {scope:du} {pos:da} {own fr:List aj} {ix:List Nat} {wi:TI} {g:TG} {tt:TT} {te:TE}
theorem Cn{o4:List (aK×cg)}{U:St}{B:Hp}{s2:aM}{E:List aK}{h₁:bR}{tk:Nat}{C:aK}(S:CompScope X.N X.env.scope scope own fr ix)(d:Inv X o4 U B s2)(H:∀b∈E,VF X o4 B b)(N:∀b∈E,b<s2.heap.objs.size)
  (I:s2.heap.objs.size<=C) (T:h₁.Ns C λ_=>aA) (s:∀b o,s2.heap.get? b=ag o->h₁.get? b=ag o) :
  Inv (ZH X (own++fr) scope (WA X.env.cells scope.names []) C s2 B E) [] (Z4 own.length ix U) B { s2 with heap:=h₁,toks:=tk }:=by
 have cs:=S.clos d;have sub:∀x c,(WA X.env.cells scope.names []).lookup x=ag c->X.env.cells.lookup x=ag c:=λx c e=>RD scope.names [] cs (λh=>by simp at h) e;have Q:=d.stkSub
 have L:(ZH X (own++fr) scope (WA X.env.cells scope.names []) C s2 B E).Ok:=by
  refine⟨d.ok.mod,S.kind,d.ok.glob,d.ok.blt,I,λx y c t f=>d.ok.inj x y c (sub x c t) (sub y c f),λx hx=>?_,λx c h _=>?_,d.ok.hd,d.ok.frames,.inl rfl,λb A=>⟨?_,λx c e=>?_⟩,d.bs,?_,λb o e A=>?_,λb A z=>?_,d.stack,d.stkFree,d.ok.tab.un d.base,λ_ z=>absurd rfl z⟩
  ·-- the cells of the block's free names
   have J:(x,bj)∈scope.names:=by
    have:∃k',(relabel scope X.env).names.lookup x=ag k'/\(k' = .cell\/k' = .free):=by
     rcases hx with h | h
     ·exact⟨_,h,.inl rfl⟩
     ·exact⟨_,h,.inr rfl⟩
    obtain⟨k',e,M⟩:=this;obtain⟨k,F⟩:=Wh e;have O:=Xi (env:=X.env) F;have e:(scope.names.map λ(n,k)=>if(k==bj&&X.env.scope.kind==.function&&X.env.kindOf n==ag .cell) then(n,dm) else(n,k)).lookup x=ag k':=e;rw[O] at e;have m:=cU F
    cases k with
    | free=>exact m
    | cell=>exact absurd rfl (S.nocell _ m)
    | _=>simp at e;subst e;rcases M with z | z<;>cases z
   exact cT.mp (RE _ _ J)
  ·cases h
  ·-- E differs from the frame
   exact az (aZ (N b A) I)
  ·exact(H b A).2.2.2.2.1 x c (sub x c e)
  ·exact bO d.ok.bsz d.sz
  ·rcases(H b A).2.2.2.1 with z | z
   ·exact d.ok.noex b o e z
   ·exact absurd (aZ (aP (d.ok.bs b o e).1) z) (bu _)
  ·rcases aX.mp (Q b z) with e | e
   ·exact(H b A).2.1 e
   ·exact(H b A).2.2.1 e
 have sl:fr.length=ix.length:=by simpa using congrArg iR S.slots
 refine⟨L,rfl,d.bare,Un.kept s,⟨_,T,λi x v t f g=>?_⟩,λx c e=>?_,d.hok.fresh I,λx c e=>d.freeC x c (sub x c e),λp hp=>absurd (show p∈([]:List (aK×cg)) from hp) (by simp),d.hok.kept s,?_⟩
 ·-- a name of the def around
  have t:(own++fr)[i]?=ag x:=t;have G:¬i<own.length:=λG=>by unfold Z4 at f;rw[au (by simpa using G),bc,oX G] at f;cases f
  rw[bH (by omega)] at t;unfold Z4 at f;rw[bH (by simpa using G),dR,aU] at f
  cases ej:ix[i-own.length]? with
  | none=>rw[ej] at f;cases f
  | some j=>
   rw[ej] at f;have f:(U[j]?).join=ag v:=by simpa using f
   have f:U[j]?=ag (ag v):=by
    cases q:U[j]? with
    | none=>rw[q] at f;cases f
    | some z=>rw[q] at f;exact congrArg ag f
   have hN:X.N[j]?=ag x:=by have q:=congrArg (λl=>l[i-own.length]?) S.slots;simp only[aU,t,ej] at q;exact(bG q).symm
   have W:=S.outs x (cE t);have Y:=S.frees _ W rfl;obtain⟨m,hn,hl⟩:=d.loc;obtain⟨u,r,l⟩:=hl j x v hN f (by rcases Y with k | k;exact .inr (.inl k);exact .inr (.inr k));refine⟨u,r,?_⟩;rcases l with⟨k,_⟩ | ⟨_,c,hc,w⟩
   ·have k:X.env.scope.names.lookup x=ag .local:=k;rcases Y with q | q<;>rw[k] at q<;>cases q
   ·obtain⟨c',D⟩:=cT.mp (RE _ [] W);have Z:=sub x c' D;rw[hc] at Z;cases Z;refine .inr ⟨?_,c,D,?_⟩
    ·have g:=g;rcases g with g | g
     ·obtain⟨k0,F⟩:=Wh g;have O:=Xi (env:=X.env) F;have g:(scope.names.map λ(n,k)=>if(k==bj&&X.env.scope.kind==.function&&X.env.kindOf n==ag .cell) then(n,dm) else(n,k)).lookup x=ag .local:=g;rw[O] at g
      have P:k0 = .local:=by
       cases k0<;>simp at g ⊢
       split at g<;>cases g
      subst P;exact absurd F (S.apart x (cE t))
     ·exact g
    ·obtain⟨o,R,hd⟩:=w;exact⟨o,s _ _ R,hd⟩
 ·obtain⟨v,o,R,hd⟩:=d.cell x c (sub x c e);exact⟨v,o,s _ _ R,hd⟩
 ·show(Z4 own.length ix U).length=(own++fr).length;unfold Z4;rw[aY,dR,aL,aY,sl]
noncomputable def cxG(fv:aj->Bool)(X:Cx)(N':List aj)(scope:du)(cl:List (aj×aK))(C:aK)(s:aM)(H:Hp)(ex:List aK):Cx:=
 { X with N:=N',s₀:=s,H₀:=H,env:=jo scope cl C X.env,outer:=X.stack,ex:=ex,fn:=fv,pn:=[],xe:=λ_ _=>False }
theorem NV{fv:aj->Bool}{N:List aj}{cl:List (aj×aK)}{kk:Nat}{C D:aK}{h₁:bR}{tk:Nat}{o4:List (aK×cg)}{U:St}{t:Hp}{s2:aM}{k:List aK}{it:aK}{tn:Nat->bR->Prop}{J:It}{Fin:List V->Hp->Prop}{RR:aG->aK->nS->aM->Prop}
  (G:X.calm=aC) (hg:PG (cxG fv X N scope cl C s2 t k) tg g) (ht:Ij (cxG fv X N scope cl C s2 t k) o9 tt) (he:PE (cxG fv X N scope cl C s2 t k) oV te)
  (I2:Inv X o4 U t s2) (T:MF X.prog X.w X.K tg J k it tn) (st2:tn 0 s2.heap) (f2:∀b∈k,VF X o4 t b)
  {W:Nat->Nat->List V->Hp->Prop} {m0:Nat} (w0:W 0 m0 [] t)
  (turn:∀i m f H,W i m f H->f.length<=sizeLine/\
   ((J.stop i H/\Fin f H)\/
    (J.go i H/\∃N:List V->Hp->Prop,(∀ys' h,N ys' h->∃m',m'<m/\W (i+1) m' ys' h)/\
     ∀x h,J.yld i H x h->g x (Z4 kk ix U) h λU2 t=>U2.drop kk=(Z4 kk ix U).drop kk/\tt U2 t λb w=>if b=aC then te U2 w λy H4=>N (f++[y]) H4 else N f w)))
  (hRR:∀(D C:aK)(oC:cg)(m:aj->Option aG)(I:aM)(h:Hp)(f:List V),Inv X (o4++[(C,oC)]) U (upd h D (.lst f)) I->I.heap.get? C=ag oC->I.heap.Ns C m->VF X o4 (upd h D (.lst f)) C->h D=aA->Fin f h->RR (.ref D) C (.ok .next) I)
  (hfp:∀b∈k,b<s2.heap.objs.size) (hC:@Eq Nat C (D+1)) (hDD:@Eq Nat s2.heap.objs.size D) (old:∀b o,s2.heap.get? b=ag o->h₁.get? b=ag o) (hacc:h₁.get? D=ag { cls:=.type "list",data:=.seq ([]:List aG).toArray 0 })
  (I0:∀tk,Inv (cxG fv X N scope cl C s2 t k) [] (Z4 kk ix U) t { s2 with heap:=h₁,toks:=tk }) (hcl:∀x c,cl.lookup x=ag c->c≠D) :
  gY (model X.prog X.w) X.A (.compStart (.ListComp oV [⟨tg,iter,o9,0⟩] scope pos) 0 (.ref it) (.ref D) (jo scope cl C X.env)) (RR (.ref D) C) { s2 with heap:=h₁,toks:=tk }:=by
 have hDC:@Ne Nat D C:=by omega
 have j:∀b,b<s2.heap.objs.size->b≠C/\b≠D:=λb a=>by rw[hDD] at a;exact⟨az (by omega),az a⟩
 have loop:gY (model X.prog X.w) X.A (.compLoop (.ListComp oV [⟨tg,iter,o9,0⟩] scope pos) 0 (.ref it) (.ref D) (jo scope cl C X.env)) (RR (.ref D) C) { s2 with heap:=h₁,toks:=tk }:=by
  generalize s:cxG fv X N scope cl C s2 t k=Y at I0 hg ht he
  have E:∀{h:Hp}{pn:List (aK×cg)},(∀b∈k,h b=aA)->(∀p∈pn,∀b∈k,p.1≠b)->∀b∈k,VF Y pn h b:=λ{h pn} hn B b a=>by
   subst s;refine⟨hn b a,(j b (hfp b a)).1,λz=>?_,.inl a,λx c e=>?_,λp hp'=>B p hp' b a⟩
   ·exact(I0 0).ok.exfs b a z
   ·exact((I0 0).ok.exf b a).2 x c e
  have dfp:=λb a=>bP (j b (hfp b a)).2;have S:∀x c,Y.env.cells.lookup x=ag c->c≠D:=by subst s;exact hcl
  have hfsD:D∉Y.fs:=λz=>by subst s;obtain⟨_,o,ho,_⟩:=(I0 0).ok.funs.mem z;have:=aP ho;have:D<s2.heap.objs.size:=this;exact bu _ (Nat.lt_of_lt_of_eq this hDD)
  have eL:Y.env.locals=C:=by subst s;rfl
  have eS:Y.s₀=s2:=by subst s;rfl
  have eP:Y.pn=[]:=by subst s;rfl
  refine MO (λn I=>∃i f A F h,Inv Y [] (Z4 kk ix U) h I/\tn i I.heap/\(∀b∈k,h b=aA)/\I.heap.get? D=ag { cls:=.type "list",data:=.seq A F }/\Vals f A.toList/\h D=aA/\W i n f h) ?_ m0
   ⟨0,[],#[],0,t,I0 _,T.keep _ _ _ st2 λb _ o e=>old b o e,λb a=>(f2 b a).1,hacc,.nil,I2.hok.fresh (by omega),w0⟩
  rintro n s3 ⟨i,f,A,F,w,I3,st3,fr3,oD,vD,nD,w3⟩;obtain⟨hlen,R⟩:=turn i n f w w3;have hsize:A.size<=sizeLine:=by have:=vD.length;simp only[fC] at this;omega
  have pD:Inv Y [(D,{ cls:=.type "list",data:=.seq A F })] (Z4 kk ix U) w s3:=I3.pins_of λp B=>by rw[aN.mp B];exact⟨oD,nD,by rw[eL];exact hDC,hfsD,λv z=>by cases z⟩
  have YP:Y.prog=X.prog:=by subst s;rfl
  have Yw:Y.w=X.w:=by subst s;rfl
  have YK:Y.K=X.K:=by subst s;rfl
  have YA:Y.A=X.A:=by subst s;rfl
  have Yx:Y.xe=λ_ _=>False:=by subst s;rfl
  have Ye:Y.env=jo scope cl C X.env:=by subst s;rfl
  have ne1:∀p∈[((D,{ cls:=.type "list",data:=.seq A F }):aK×cg)],∀b∈k,p.1≠b:=λp B b a=>by rw[aN.mp B];exact dfp b a
  rcases R with⟨stop,qn⟩ | ⟨go,N,hN,step⟩
  ·have d:=T.done Y YP Yw YK (by subst s;exact G) i _ s3 _ w (lA (model X.prog X.w) X.A (jo scope cl C X.env) λe I=>RR (.ref D) C (.error e) I) pD (E fr3 ne1) st3 stop;rw[YA] at d;refine Yf d λr s4 ⟨hr,I4⟩=>?_;subst hr;obtain⟨oD4,l,_⟩:=I4.pin (D,_) (by rw[eP];exact ao);obtain⟨m,hn,_⟩:=I4.loc;rw[eL] at hn;obtain⟨oC,es,ep,hoC,hdC,hrest⟩:=id hn;have P:w C=aA:=by have:=I4.free;rw[eL] at this;exact this
   have un:Un (Nx X.stack) k t w s2.heap s4.heap:=by have:=I4.base;subst s;exact this
   have lt2:∀b o,s2.heap.get? b=ag o->b≠D:=λb o e=>(j b (aP e)).2
   have un':Un (Nx X.stack) k t (upd w D (.lst f)) s2.heap s4.heap:=by
    refine⟨un.keep,un.slot,λb o e n hx=>?_,un.there,λb xs e=>?_,λb o u e=>?_,λb ps e=>?_⟩
    ·rw[upd_ne (lt2 b o e)];exact un.free b o e n hx
    ·have q:=un.tups b xs e;rw[upd_ne (Zn q l)];exact q
    ·have q:=un.frzs b o u e;rw[upd_ne (Zn q l)];exact q
    ·obtain⟨more,q⟩:=un.tbls b ps e;exact⟨more,by rw[upd_ne (Zn q l)];exact q⟩
   have hok4:HOk X.prog X.w w s4.heap:=by have:=I4.hok;rw[YP,Yw] at this;exact this
   have hok':HOk X.prog X.w (upd w D (.lst f)) s4.heap:=λb u q=>by
    by_cases a:b=D
    ·subst a;rw[Zl] at q;cases q;exact⟨hlen,A.toList,F,vD,by simpa using oD4⟩
    ·rw[upd_ne a] at q;exact(hok4 b u q).stay (λc v _ z=>z) (λc z=>by rw[upd_ne (Zn z l)];exact z) (λc xs z=>by rw[upd_ne (Zn z l)];exact z) λc u z=>by rw[upd_ne (Zn z l)];exact z
   have os4:s4.os=s2.os:=by rw[I4.os,eS]
   have I5:=I2.call' os4 un' hok' I4.bare λb a=>⟨(f2 b a).2.2.2.1,(f2 b a).2.1,(f2 b a).2.2.2.2.1,(f2 b a).2.2.2.2.2⟩;have CL:C≠X.env.locals:=λz=>by exact(j _ I2.lt).1 z.symm
   have O:VF X o4 (upd w D (.lst f)) C:=I2.fpOk (by omega) (by rw[upd_ne (bP hDC)];exact P);refine hRR D C oC m s4 w f (I5.pins_of λp B=>?_) hoC hn O l qn;rcases ah.mp B with z | z
   ·exact I5.pin p (aq _ z)
   ·rw[aN.mp z];exact⟨hoC,O.1,O.2.1,O.2.2.1,λv z=>by rw[hdC] at z;cases z⟩
  ·have d:=T.item Y YP Yw YK (by subst s;exact G) i _ s3 _ w (λ_ _=>False) pD (E fr3 ne1) st3 go;rw[YA] at d;refine bW d (λr s4 ⟨u,hr,h4⟩=>?_) λ_ _ z=>z.elim;subst hr;refine bW h4 (λ_ s5 ⟨x,H5,I5,r5,y5,st5,fr5⟩=>?_) λ_ _ z=>z.elim;have I5':=I5.pinned (E fr5 ne1) (T.obj _ _ st5);have a6:=hg _ s5 _ H5 x u _ I5' r5 (step x H5 y5);rw[YP,Yw,YA,Ye,Yx] at a6;refine bW a6 (λ_ s6 ⟨U6,H6,I6,dr,q6⟩=>?_) λ_ _ z=>z.elim;have a7:=ht _ s6 U6 H6 _ I6 q6;rw[YP,Yw,YA,Ye,Yx] at a7;refine bW a7 (λok s7 ⟨H7,I7,q7⟩=>?_) λ_ _ z=>z.elim
   have back:∀{M:Hp}{L:aM},Inv Y ([((D,{ cls:=.type "list",data:=.seq A F }):aK×cg)]++Rx k s5.heap) U6 M L->
     L.heap.get? D=ag { cls:=.type "list",data:=.seq A F }/\M D=aA/\tn (i+1) L.heap/\(∀b∈k,M b=aA):=λ{M L} Q=>by
    obtain⟨e1,Z,_⟩:=Q.pin (D,{ cls:=.type "list",data:=.seq A F }) (by simp);refine⟨e1,Z,T.keep _ _ _ st5 λb a o e=>(Q.pin (b,o) (by rw[eP];exact aR _ (VG a e))).1,λb a=>?_⟩;obtain⟨o,e,_⟩:=T.obj _ _ st5 b a;exact(Q.pin (b,o) (by rw[eP];exact aR _ (VG a e))).2.1
   have unp:∀{M:Hp}{L:aM},Inv Y ([((D,{ cls:=.type "list",data:=.seq A F }):aK×cg)]++Rx k s5.heap) U6 M L->Inv Y [] (Z4 kk ix U) M L:=λ{M L} Q=>
    (Q.pins_of λp B=>absurd B (by simp)).weak (by
     have e1:=(I0 0).len;have Z:=Q.len;rw[e1,Z]) (El dr)
   cases ok with
   | false=>
    obtain⟨e1,Z,e3,e4⟩:=back I7;obtain⟨m',hm,w7⟩:=hN _ _ q7;exact⟨m',hm,i+1,f,A,F,H7,unp I7,e3,e4,e1,vD,Z,w7⟩
   | true=>
    have a8:=he _ s7 U6 H7 _ I7 q7;rw[YP,Yw,YA,Ye,Yx] at a8;refine bW a8 (λyv L ⟨y,M,Q,ry,q8⟩=>?_) λ_ _ z=>z.elim;obtain⟨e1,Z,e3,e4⟩:=back Q;obtain⟨m',hm,w8⟩:=hN _ _ q8;refine append_at e1 (λh9 hs9 hD9=>?_) hsize;have I9:=(unp Q).turned (t':=L.toks) (λb o a e=>hs9.extBut b o a e) Z (by rw[eL];exact hDC) (.inr (by rw[eS];omega)) S (λp B=>absurd (show p∈([]:List (aK×cg)) by rw[eP] at B;exact B) (by simp));refine⟨m',hm,i+1,f++[y],A.push yv,F+1,M,I9,T.keep _ _ _ e3 λb a o e=>hs9.extBut b o (bP (dfp b a)) e,e4,hD9,?_,Z,w8⟩;rw[Array.toList_push];exact vD.append (.cons ry .nil)
 exact codeAny_compStart_list loop (T.self X.A 0 _ _ _ (T.keep _ _ _ st2 λb _ o e=>old b o e) loop)
theorem PH{M:List (aK×cg)}{U:St}{t:Hp}{s2:aM}{P:List aK}{Y:aK}{Z:Nat->bR->Prop}{J:It}{Fin:List V->Hp->Prop}{RR:aG->aK->nS->aM->Prop}{E:aG->aM->Prop}
  (l:X.calm=aC) (S:CompScope X.N X.env.scope scope own fr ix)
  (hg:∀cl C s H ex,PG (ZH X (own++fr) scope cl C s H ex) tg g) (ht:∀cl C s H ex,Ij (ZH X (own++fr) scope cl C s H ex) o9 tt) (he:∀cl C s H ex,PE (ZH X (own++fr) scope cl C s H ex) oV te)
  (I:Inv X M U t s2) (T:MF X.prog X.w X.K tg J P Y Z) (F:Z 0 s2.heap) (f2:∀b∈P,VF X M t b)
  {W:Nat->Nat->List V->Hp->Prop} {m0:Nat} (w0:W 0 m0 [] t)
  (turn:∀i m ys H,W i m ys H->ys.length<=sizeLine/\
   ((J.stop i H/\Fin ys H)\/
    (J.go i H/\∃N:List V->Hp->Prop,(∀ys' H',N ys' H'->∃m',m'<m/\W (i+1) m' ys' H')/\
     ∀x H',J.yld i H x H'->g x (Z4 own.length ix U) H' λU2 t=>U2.drop own.length=(Z4 own.length ix U).drop own.length/\tt U2 t λb H3=>if b=aC then te U2 H3 λy H4=>N (ys++[y]) H4 else N ys H3)))
  (Q:∀(D C:aK)(oC:cg)(m:aj->Option aG)(s':aM)(H':Hp)(ys:List V),Inv X (M++[(C,oC)]) U (upd H' D (.lst ys)) s'->s'.heap.get? C=ag oC->s'.heap.Ns C m->VF X M (upd H' D (.lst ys)) C->H' D=aA->Fin ys H'->RR (.ref D) C (.ok .next) s') :
  av (model X.prog X.w) X.A (newList []) (λacc G=>av (model X.prog X.w) X.A (jM scope X.env.globals (WA X.env.cells scope.names []) [] X.env.qual aA .none (ag X.env)) (λk w=>
   gY (model X.prog X.w) X.A (.compStart (.ListComp oV [⟨tg,iter,o9,0⟩] scope pos) 0 (.ref Y) acc { k with scope:=relabel scope X.env }) (RR acc k.locals) w) E G) E s2:=by
 have A:∀b∈P,b<s2.heap.objs.size:=λb L=>by obtain⟨o,e,_⟩:=T.obj 0 s2.heap F b L;exact aP e
 refine dI (ke S.nocell (by simp) (λh₁ d a=>?_) S.kind);generalize n:s2.heap.push { cls:=.type "list",dict:=aA,data:=.seq ([]:List aG).toArray }=G2 at d a ⊢;have O:G2.objs.size=s2.heap.objs.size+1:=by rw[<-n,cS]
 generalize hCC:G2.objs.size=C at d a O ⊢;generalize p:s2.heap.objs.size=D at O ⊢;have R:D≠C:=by omega
 have j:∀b,b<s2.heap.objs.size->b≠C/\b≠D:=λb L=>by rw[p] at L;exact⟨az (by omega),az L⟩
 have u:=λb o e=>a.extBut b o (j b (aP e)).1 (aH _ (n▸aH _ e))
 have B:h₁.get? D=ag { cls:=.type "list",data:=.seq ([]:List aG).toArray 0 }:=by
  have e0:G2.get? D=ag { cls:=.type "list",data:=.seq ([]:List aG).toArray 0 }:=by rw[<-n,<-p];exact af _ rfl
  exact a.extBut _ _ R (aH _ e0)
 have f:h₁.Ns C λ_=>aA:=by simpa using d
 have I0:=λtk=>Cn (tk:=tk) S I f2 A (by omega) f u;refine NV (s2:=s2) (h₁:=h₁) (fv:=λ_=>aB) (N:=own++fr) (C:=C) (D:=D) (cl:=WA X.env.cells scope.names []) l (hg _ _ _ _ _) (ht _ _ _ _ _) (he _ _ _ _ _) I T F f2 w0 turn Q A O p u B I0 λx c e z=>?_;obtain⟨v,q⟩:=I.cell x c (RD scope.names [] (S.clos I) (λh=>by simp at h) e);exact(j c q.lt).2 z
theorem Za3(c:X.calm=aC)(k:PI X tg iter wi)(S:CompScope X.N X.env.scope scope own fr ix)
  (t:∀cl C s H ex,PG (ZH X (own++fr) scope cl C s H ex) tg g) (w:∀cl C s H ex,Ij (ZH X (own++fr) scope cl C s H ex) o9 tt) (F:∀cl C s H ex,PE (ZH X (own++fr) scope cl C s H ex) oV te)
  (hs:∀x,bq iter X.env x=pure x:=by intro _;rfl):PE X (.ListComp oV [⟨tg,iter,o9,0⟩] scope pos) (PF own.length ix wi g tt te):=by
 intro L s U H Q I h;refine gU rfl hs (Vm (S.clos I)) S.kind S.names (Yf (k L s U H _ I h) λv s1 p=>Yf p λl s2 u=>?_);obtain⟨O,Z,Y,J,N,e,A,T,d,B,W,⟨P,E⟩,turn⟩:=u;subst e;refine PH c S t w F A T d B E turn ?_;intro D C R m s' y M j q z a n f;refine⟨m,z,λh' i=>⟨.ref D,upd y D (.lst M),?_,rfl,f D n⟩⟩;exact(j.unpinned).turned (λb o G e=>i.extBut b o G e) a.1 a.2.1 a.2.2.2.1 a.2.2.2.2.1 a.2.2.2.2.2
theorem Za4{i:Nat}{y:aj}{t d:da}(R:X.N.Nodup)(O:X.N[i]?=ag y)(c:X.env.scope.names.lookup y=ag .local)(f:X.calm=aC)(A:PI X tg iter wi)(S:CompScope X.N X.env.scope scope own fr ix)
  (G:∀cl C s H ex,PG (ZH X (own++fr) scope cl C s H ex) tg g) (M:∀cl C s H ex,Ij (ZH X (own++fr) scope cl C s H ex) o9 tt) (he:∀cl C s H ex,PE (ZH X (own++fr) scope cl C s H ex) oV te)
  (n:eK (.ListComp oV [⟨tg,iter,o9,0⟩] scope pos) (ag (.Name y t)) d.line X.env=pure aC:=by rfl)
  (hs:∀x,bq iter X.env x=pure x:=by intro _;rfl):PS X (.Assign [.Name y t] (.ListComp oV [⟨tg,iter,o9,0⟩] scope pos) d) (J7 (PF own.length ix wi g tt te) (Sr i)):=by
 intro o4 s U H D0 I h;rw[exec_Assign_Name_used _ _ _ _ n];refine aI (gO (aI ?_))
 refine aI (bW (gU rfl hs (Vm (S.clos I)) S.kind S.names
  (Yf (A o4 s U H _ I h) λv s1 F=>Yf F λB s2 L=>?_)) (λ_ s' hq=>a9 (a9 hq)) λ_ _ e=>e)
 obtain⟨it,fp,tn,J,H2,e,Y,T,p,Z,W,⟨m0,w0⟩,turn⟩:=L;subst e;refine PH f S G M he Y T p Z w0 turn ?_;intro D C u m s' N ys z k Q a E q;refine wpAny_assign_Name (Vo z R O (.inl c) (v:=.ref D) rfl (λs6 w=>?_) (.inr c));obtain⟨P,_⟩:=w.pin (C,u) (aq _ (aq _ ao));obtain⟨o',es,ep,j,r'⟩:=Q;rw[k] at j;cases j;refine⟨m,⟨u,es,ep,P,r'⟩,λh' l=>⟨_,upd N D (.lst ys),?_,q D E⟩⟩;exact(w.unpinned).turned (λb o hb e=>l.extBut b o hb e) a.1 a.2.1 a.2.2.2.1 a.2.2.2.2.1 a.2.2.2.2.2
end
open AutoSeq1 (wpAny_loadPart')
section
variable {prog:ay} {w:b9} {A:bU} {E:aG->aM->Prop} {s:aM}
theorem Sz{b l:aK}{i:Nat}{items}{x:aG}{Q:aG->aM->Prop}(a:s.heap.IsTupleIter b l i)
  (h:s.heap.IsTuple l items) (f:items[i]?=ag x)
  (g:∀h',h'.IsTupleIter b l (i+1)->cj b s.heap h'->Q x { s with heap:=h' }) :
  av (model prog w) A (jU (.ref b)) Q E s:=by
 obtain⟨o,c,j,hd⟩:=id a;obtain⟨k,e,_,m,d⟩:=h
 refine aI (dh a.typeIs F.slot_tuple_iterator_next
  (fE F.slot_tuple_iterator_next a.typeIs F.entry_tuple_iterator_next ?_ (F.args_tuple_iterator_next_1 _)))
 show av _ _ (field (.ref b) 0 >>= _) _ _ s;refine aI (cD c hd rfl ?_);refine aI (cD c hd rfl ?_);refine aI (dy e d ?_);simp only[cC,f];refine aI (iA c hd (by simp) (a9 ⟨x,rfl,a9 (g _ ?_ (lH ..))⟩));exact⟨_,cw _ c (fU (dG hd _)),(jY ..).trans j,by rw[dG hd];simp[eF]⟩
theorem RF{b l:aK}{i:Nat}{items}{Q:aG->aM->Prop}(g:A.handled=aA)
  (a:s.heap.IsTupleIter b l i) (k:s.heap.IsTuple l items) (h:items[i]?=aA)
  (j:∀h' e,mz b s.heap h'->(∃o,h'.get? e=ag o/\o.cls = .type "StopIteration")->E (.ref e) { s with heap:=h' }) :
  av (model prog w) A (jU (.ref b)) Q E s:=by
 obtain⟨o,d,q,hd⟩:=id a;obtain⟨n,f,_,p,c⟩:=k
 refine aI (dh a.typeIs F.slot_tuple_iterator_next
  (fE F.slot_tuple_iterator_next a.typeIs F.entry_tuple_iterator_next ?_ (F.args_tuple_iterator_next_1 _)))
 show av _ _ (field (.ref b) 0 >>= _) _ _ s;refine aI (cD d hd rfl ?_);refine aI (cD d hd rfl ?_);refine aI (dy f c ?_);simp only[cC,h];refine aI (lj (aI (iA d hd (by simp) ?_)));refine aI ?_;refine aI (m:=firstArgMember _ _) (wpAny_of_eq rfl ?_);refine dI ?_ (by size_fits);refine aI (wpAny_handled ?_)
 first | rw[g] | rw[g]
 refine aI (a9 (wpAny_throw ?_));exact j _ _ (((lH ..).extBut.push _).push _) ⟨_,af _ rfl,rfl⟩
end
noncomputable def SeqB(b:Bool)(h:bR)(a:aK)(oW:Array aG):Prop:=if b=aC then h.IsList a oW else h.IsTuple a oW
noncomputable def IterB(b:Bool)(h:bR)(it a:aK)(i:Nat):Prop:=if b=aC then h.IsListIter it a i else h.IsTupleIter it a i
noncomputable def Nu(b:Bool)(K:aE)(H:Hp)(a:aK)(xs:List V):Prop:=if b=aC then SqL K H a xs else SqT K H a xs
noncomputable def Ug(b:Bool)(a:aK):cg:={ cls:=.type (if b=aC then "list_iterator" else "tuple_iterator"),data:=.fields #[.ref a,.int 0 0] }
theorem SeqB.at{b:Bool}{h h':bR}{a:aK}{c:Array aG}(x:SeqB b h a c)(k:∀o,h.get? a=ag o->h'.get? a=ag o):SeqB b h' a c:=by
 cases b with
 | true=>obtain⟨o,e,r⟩:=(x);exact⟨o,k o e,r⟩
 | false=>obtain⟨o,e,r⟩:=(x);exact⟨o,k o e,r⟩
theorem SeqB.has{b:Bool}{h:bR}{a:aK}{c:Array aG}(x:SeqB b h a c):∃o,h.get? a=ag o:=by
 cases b with
 | true=>obtain⟨o,e,r⟩:=(x);exact⟨o,e⟩
 | false=>obtain⟨o,e,r⟩:=(x);exact⟨o,e⟩
theorem IterB.at{b:Bool}{h h':bR}{c a:aK}{i:Nat}(x:IterB b h c a i)(k:∀o,h.get? c=ag o->h'.get? c=ag o):IterB b h' c a i:=by
 cases b with
 | true=>obtain⟨o,e,r⟩:=(x);exact⟨o,k o e,r⟩
 | false=>obtain⟨o,e,r⟩:=(x);exact⟨o,k o e,r⟩
theorem IterB.has{b:Bool}{h:bR}{c a:aK}{i:Nat}(x:IterB b h c a i):∃o,h.get? c=ag o/\∀v,o.data≠.cell v:=by
 cases b with
 | true=>obtain⟨o,e,_,d⟩:=(x);exact⟨o,e,λv z=>by rw[d] at z;cases z⟩
 | false=>obtain⟨o,e,_,d⟩:=(x);exact⟨o,e,λv z=>by rw[d] at z;cases z⟩
theorem IterB.new{b:Bool}{h:bR}{c a:aK}(e:h.get? c=ag (Ug b a)):IterB b h c a 0:=by
 cases b with
 | true=>exact⟨_,e,rfl,rfl⟩
 | false=>exact⟨_,e,rfl,rfl⟩
section
variable {X:Cx} {o4:List (aK×cg)} {U:St} {H:Hp} {s:aM} {a:aK} {xs ys:List V} {b:Bool}
theorem Inv.seqB(I:Inv X o4 U H s)(h:Nu b X.K H a xs):∃c:List aG,Vals xs c/\SeqB b s.heap a c.toArray/\xs.length<=sizeLine:=by
 cases b with
 | true=>
  obtain⟨c,r,p,z⟩:=I.list (h);exact⟨c,r,p.isList,z⟩
 | false=>
  obtain⟨c,r,p,z⟩:=I.tuple (h);exact⟨c,r,p,z⟩
theorem Inv.seqB_inj(I:Inv X o4 U H s)(h:Nu b X.K H a xs)(h':Nu b X.K H a ys):xs=ys:=by
 cases b with
 | true=>exact I.list_inj (h) (h')
 | false=>exact I.tuple_inj (h) (h')
end
theorem Draws.seq{prog:ay}{w:b9}{A:bU}(b:Bool)(n:A.handled=aA)(f l:aK)(g:l≠f)(a:Array aG) :
  Draws prog w A f [f,l] a.size (λi v=>a[i]?=ag v) (λi h=>IterB b h f l i/\SeqB b h l a) where
 live:=λ_ _ st=>let⟨o,q,_⟩:=st.1.has;⟨o,q⟩
 frame:=λ_ _ _ st k=>⟨st.1.at λo e=>k f (by simp) o e,st.2.at λo e=>k l (by simp) o e⟩
 item:=λi s Q E j st m=>by
  cases b with
  | true=>
   refine wpAny_nextOf_list_item (st.1) (st.2) (x:=a[i]) (by simp[j]) λh' c d=>?_;exact m _ h' s.toks (by simp[j]) ⟨c,st.2.at λo e=>d.extBut l o g e⟩ d
  | false=>
   refine Sz (st.1) (st.2) (x:=a[i]) (by simp[j]) λh' c d=>?_;exact m _ h' s.toks (by simp[j]) ⟨c,st.2.at λo e=>d.extBut l o g e⟩ d
 done:=λs Q E st p=>by
  cases b with
  | true=>exact wpAny_nextOf_list_end n (st.1) (st.2) (by simp) p
  | false=>exact RF n (st.1) (st.2) (by simp) p
theorem Yt{prog:ay}{w:b9}{A:bU}{E:aG->aM->Prop}{s:aM}{b:Bool}{a:aK}{d:Array aG}{Q:aG->aM->Prop}(h:SeqB b s.heap a d)
  (c:Q (.ref s.heap.objs.size) { s with heap:=s.heap.push (Ug b a) }):av (model prog w) A (pyIter (.ref a)) Q E s:=by
 cases b with
 | true=>exact wpAny_pyIter_list (h) c
 | false=>exact l4 (h) c
set_option maxHeartbeats 4000000 in
theorem PJ(b:Bool)(l:aK)(a:Array aG) :
  Meets (kD.«enumerate.__new__» ⟨[.type "enumerate",.ref l],[]⟩) (λ_ R s=>SeqB b s.heap l a/\
   R (.ok (.ret (.ref (s.heap.push (Ug b l)).objs.size)))
    { s with heap:=(s.heap.push (Ug b l)).push { cls:=.type "enumerate",data:=.fields #[.none,.bool aB,.ref s.heap.objs.size,eF 0,.none,.none] } }):=
 .of_wp λprog w A R s h=>by
  obtain⟨k,g,d,tk,os⟩:=s;obtain⟨j,h⟩:=h;have i:=sub_enumerate;obtain⟨o,e⟩:=j.has;have f:SeqB b (oU ⟨k,g,d,tk,os⟩) l a:=j
  wp_walk using i6 e
  refine wpAny_stack_any λst=>a9 ?_;split
  ·rename_i c _ _ _ _ _;cases (c==nN "enumerate")
   ·wp_walk using i6 e,Yt f
    exact⟨_,rfl,h⟩
   ·wp_walk using i6 e,Yt f
    exact⟨_,rfl,h⟩
  ·wp_walk using i6 e,Yt f
   exact⟨_,rfl,h⟩
section
variable {prog:ay} {w:b9} {A:bU} {E:aG->aM->Prop} {s:aM}
theorem Nz{b:Bool}{l:aK}{a:Array aG}{Q:aG->aM->Prop}(f:SeqB b s.heap l a)
  (h:∀h',IsEnum h' (s.heap.objs.size+1) s.heap.objs.size 0 .none->IterB b h' s.heap.objs.size l 0->h'.objs.size=s.heap.objs.size+2->
   (∀b o,s.heap.get? b=ag o->h'.get? b=ag o)->Q (.ref (s.heap.objs.size+1)) { s with heap:=h' }) :
  av (model prog w) A (call (.type "enumerate") [.ref l]) Q E s:=by
 refine callType_new F.called_enumerate rfl (F.typeCall_enumerate_1 _) (F.newCall_enumerate_1 _) (λc=>F.args_object_init_2 c _) F.entry_enumerate_new
  (PJ b l a) ⟨f,?_⟩
 have e:(s.heap.push (Ug b l)).objs.size=s.heap.objs.size+1:=cS ..;rw[e]
 have d:IsEnum ((s.heap.push (Ug b l)).push
   { cls:=.type "enumerate",data:=.fields #[.none,.bool aB,.ref s.heap.objs.size,eF 0,.none,.none] }) (s.heap.objs.size+1) s.heap.objs.size 0 .none:=by
  have:=af (s.heap.push (Ug b l))
   (o:={ cls:=.type "enumerate",data:=.fields #[.none,.bool aB,.ref s.heap.objs.size,eF 0,.none,.none] }) rfl
  rw[e] at this;exact this
 refine⟨⟨_,d,rfl⟩,h _ d (IterB.new (aH _ (af _ rfl))) (by simp) λb o x=>aH _ (aH _ x)⟩
end
noncomputable def Ite(b:Bool)(K:aE)(a:aK):It:=
  ⟨λi H=>∃xs x,Nu b K H a xs/\xs[i]?=ag x,
   λi H v H'=>∃p x,H p=aA/\v = .ref p/\H'=upd H p (.tup [.int i,x])/\∀xs,Nu b K H a xs->xs[i]?=ag x,
   λi H=>∃xs,Nu b K H a xs/\xs.length=i⟩
theorem Em{P:ay}{w:b9}{K:aE}{elts:List bB}{k:Nat}{pos:da}(b:Bool)(a e t:aK)(N:e≠t) :
  MF P w K (.Tuple elts k pos) (Ite b K a) [e,t] e (λi h=>(∃B,IsEnum h e t i B)/\IterB b h t a i) where
 mem:=by simp
 obj:=λi h st c R=>by
  rcases aX.mp R with rfl | R
  ·obtain⟨⟨B,q⟩,_⟩:=st;exact⟨_,q,λv z=>by cases z⟩
  ·rw[aN.mp R];exact st.2.has
 keep:=λi h h' st kk=>⟨let⟨B,q⟩:=st.1;⟨B,kk e (by simp) _ q⟩,st.2.at λo q=>kk t (by simp) o q⟩
 item:=by
  intro X hP hw hK R i o4 s U H E I S st hg;subst hP hw hK;obtain⟨xs,x,hq,hx⟩:=hg;obtain⟨T,rv,p,hz⟩:=I.seqB hq;obtain⟨u,hu,ru⟩:=rv.get hx;obtain⟨⟨B,J⟩,l⟩:=st;have fe:=S e (by simp);have fi:=S t (by simp);obtain⟨oa,M⟩:=p.has
  -- the sequence is neither record
  have j:∀c,VF X o4 H c->(∃oc,s.heap.get? c=ag oc/\∃n vs,oc.cls = .type n/\oc.data = .fields vs)->a≠c:=λc _ ⟨oc,hoc,n,vs,hn,hv⟩ z=>by
   subst z;rw[M] at hoc;cases hoc
   cases b with
   | true=>obtain⟨o,G,_,m,d⟩:=(p);rw[M] at G;cases G;rw[hv] at d;cases d
   | false=>obtain⟨o,G,_,m,d⟩:=(p);rw[M] at G;cases G;rw[hv] at d;cases d
  have ae:=j e fe ⟨_,J,_,_,rfl,rfl⟩
  have ai:=j t fi (by
   cases b with
   | true=>obtain⟨o,G,c1,d1⟩:=(l);exact⟨o,G,_,_,c1,d1⟩
   | false=>obtain⟨o,G,c1,d1⟩:=(l);exact⟨o,G,_,_,c1,d1⟩)
  have D:=Draws.seq (prog:=X.prog) (w:=X.w) (A:=X.A.in1) b (I.ok.hd R) t a ai T.toArray;have hlt:i<T.toArray.size:=by have:=(aS.mp hu).1;simpa using this
  refine wpAny_pyNext_enum_itemD D J ⟨l,p⟩ hlt N (by simp[N,bP ae]) λy h' tk hPy ho hs' hT hsz hk=>?_
  have ey:y=u:=by
   have q1:=hPy;have q2:T.toArray[i]?=ag u:=by simpa using hu
   rw[q1] at q2;exact bG q2
  subst ey;refine⟨_,rfl,wpAny_letOwnedTupleGo_enum ho λh2 he2 L=>?_⟩;have Tne:=dk (aP J);have F:=I.hok.fresh (aa _);have kk:∀c o,c∉[e,t]->s.heap.get? c=ag o->h2.get? c=ag o:=λc o g q=>L.extBut c o (λz=>g (by simp[z])) (hk c o (λz=>g (by simp[z])) (λz=>g (by simp[z])) q);have hT2:=L.extBut _ _ Tne hT;have hcs:∀c∈[e,t],(c∈X.ex\/X.s₀.heap.objs.size<=c)/\c≠X.env.locals/\(∀x d,X.env.cells.lookup x=ag d->d≠c)/\∀p∈X.pn++o4,p.1≠c:=λc g=>by have f:=S c g;exact⟨f.2.2.2.1,f.2.1,f.2.2.2.2.1,f.2.2.2.2.2⟩
  have nfp:∀c O,H c=ag O->c∉[e,t]:=λc O q g=>by rw[(S c g).1] at q;cases q
  have hok0:=λc O q=>(I.hok c O q).stay (λd v hd q'=>kk d v (by
    rcases hd with z | z
    ·rw[z];exact nfp c O q
    ·exact nfp d _ z) q') (λ_ z=>z) (λ_ _ z=>z) λ_ _ z=>z
  have new:ObjOk X.prog X.w (upd H s.heap.objs.size (.tup [.int i,x])) h2 s.heap.objs.size (.tup [.int i,x]):=
   ⟨⟨by show 2<=sizeLine;decide,λo e=>by rw[hT2] at e;cases e;rfl⟩,[.int i tk,y],.cons ⟨tk,rfl⟩ (.cons ru .nil),⟨_,hT2,rfl,_,rfl⟩⟩
  have Y:HOk X.prog X.w (upd H s.heap.objs.size (.tup [.int i,x])) h2:=λc O q=>by
   by_cases hb:c=s.heap.objs.size
   ·subst hb;rw[Zl] at q;cases q;exact new
   ·rw[upd_ne hb] at q;exact(hok0 c O q).stay (λd v _ q'=>q') (λd z=>by rw[upd_ne (Zn z F)];exact z) (λd zs z=>by rw[upd_ne (Zn z F)];exact z) λd u z=>by rw[upd_ne (Zn z F)];exact z
  have un:Un (Nx X.stack) [e,t] H (upd H s.heap.objs.size (.tup [.int i,x])) s.heap h2:=by
   refine⟨λc o q _ _ C=>kk c o C q,λc o q _ _ C=>⟨o.slots,kk c o C q⟩,λc o q n _=>?_,λc o q C=>⟨o,kk c o C q⟩,λc zs q=>?_,λc o zs q=>?_,λc ps q=>⟨#[],?_⟩⟩
   ·rw[upd_ne (az (aP q))];exact n
   ·rw[upd_ne (Zn q F)];exact q
   ·rw[upd_ne (Zn q F)];exact q
   ·rw[upd_ne (Zn q F),q];simp
  have I2:Inv X o4 U (upd H s.heap.objs.size (.tup [.int i,x])) { s with heap:=h2,toks:=tk+1 }:=I.call un Y I.bare hcs;refine⟨.ref s.heap.objs.size,upd H s.heap.objs.size (.tup [.int i,x]),I2,rfl,⟨_,x,F,rfl,rfl,λzs hzs=>by rw[I.seqB_inj hzs hq];exact hx⟩,⟨⟨y,by simpa using he2⟩,?_⟩,λc g=>?_⟩
  ·exact hs'.1.at λo q=>L.extBut t o (bP N) q
  ·rw[upd_ne (az (by
    rcases aX.mp g with rfl | g
    ·exact aP J
    ·rw[aN.mp g];obtain⟨o,q,_⟩:=l.has;exact aP q))]
   exact(S c g).1
 done:=by
  intro X hP hw hK R i o4 s U H E I S st hg;subst hP hw hK;obtain⟨xs,hq,hx⟩:=hg;obtain⟨T,rv,p,hz⟩:=I.seqB hq;obtain⟨⟨B,J⟩,l⟩:=st;have fi:=S t (by simp)
  have ai:a≠t:=λz=>by
   subst z
   cases b with
   | true=>
    obtain⟨o,G,_,m,d⟩:=(p);obtain⟨o',Z,_,W⟩:=(l);rw[G] at Z;cases Z;rw[d] at W;cases W
   | false=>
    obtain⟨o,G,_,m,d⟩:=(p);obtain⟨o',Z,_,W⟩:=(l);rw[G] at Z;cases Z;rw[d] at W;cases W
  have D:=Draws.seq (prog:=X.prog) (w:=X.w) (A:=X.A.in1) b (I.ok.hd R) t a ai T.toArray;have hl:=rv.length;have hi:i=T.toArray.size:=by simp;omega
  refine wpAny_pyNext_enum_endD D J (by rw[<-hi];exact⟨l,p⟩) λh' C=>⟨rfl,?_⟩;obtain⟨f0,f1,f2,f3,f4,f5⟩:=fi;exact I.turned (λc o hb q=>C c o hb q) f0 f1 f3 f4 f5
 self:=λA i s Q E st hQ=>by obtain⟨⟨B,J⟩,_⟩:=st;exact wpAny_pyIter_enum J hQ
end L2
namespace L2
open PySem PySem.Spec PyProof.Rows
section
variable {X:Cx}
noncomputable def Zi9(b:Bool)(K:aE)(ta:TA):TI:=λU H R=>ta U H λvs H1=>∃a,vs=[.ref a]/\(∃xs,Nu b K H1 a xs)/\R (Ite b K a) H1
theorem Za5{i:List bB}{k:Nat}{f:da}(b:Bool){a:bB}{n:TA}{p g:da}(w:Gl X "enumerate")(u:X.mg "enumerate" = aA)(x:PA X [a] n)(hs:aO [a] X.env=[(aB,eval a X.env)]:=by rfl) :
  PI X (.Tuple i k f) (.Call (.Name "enumerate" p) [a] [] g) (Zi9 b X.K n):=by
 intro C s U H R I h;refine Call_ (VD I w u rfl (cJ (Yf (x g C s U H _ I h) λE s1 ⟨vs,z,d,A,y⟩=>?_) hs rfl));obtain⟨a,e,⟨xs,D⟩,q⟩:=y;subst e
 cases A with
 | cons r rr=>
  cases rr;cases r;obtain⟨F,J,j,G⟩:=d.seqB D;refine Nz j λh' o l t v=>?_;refine wpAny_pyIter_enum o ?_;have B:=d.kept (t':=s1.toks) v;have ne:s1.heap.objs.size+1≠s1.heap.objs.size:=dk (fF _);refine⟨s1.heap.objs.size+1,[s1.heap.objs.size+1,s1.heap.objs.size],_,_,z,rfl,B,Em b a (s1.heap.objs.size+1) s1.heap.objs.size ne,⟨⟨.none,o⟩,l⟩,λc m=>?_,q⟩;rcases aX.mp m with rfl | m
  ·exact d.fpOk (iT _) (d.hok.fresh (iT _))
  ·rw[aN.mp m];exact d.fpOk (aa _) (d.hok.fresh (aa _))
end
section
variable {prog:ay} {w:b9} {A:bU} {E:aG->aM->Prop} {s:aM}
structure NW(z TI TO i1 i2:aK)(fp1 fp2:List aK):Prop where
 TIz:TI≠z
 TOz:TO≠z
 i1z:i1≠z
 i2z:i2≠z
 TITO:TI≠TO
 TIi1:TI≠i1
 TIi2:TI≠i2
 TOi1:TO≠i1
 TOi2:TO≠i2
 i12:i1≠i2
 z1:z∉fp1
 TO1:TO∉fp1
 i21:i2∉fp1
 z2:z∉fp2
 TO2:TO∉fp2
 i12':i1∉fp2
theorem Co{z TI TO i1 i2:aK}{fp1 fp2:List aK}{n1 n2 k:Nat}{P1 P2:Nat->aG->Prop}{S X:Nat->bR->Prop}{a b:aG}{Q:aG->aM->Prop}(D:NW z TI TO i1 i2 fp1 fp2)
  (D1:Draws prog w A i1 fp1 n1 P1 S) (D2:Draws prog w A i2 fp2 n2 P2 X)
  (hz:kR s.heap z TI TO .none) (hTI:fj s.heap TI (.ref i1) (.ref i2)) (hTO:fj s.heap TO a b)
  (h1:S k s.heap) (h2:X k s.heap) (hx:k<n1) (hy:k<n2)
  (hQ:∀x y h' tk,P1 k x->P2 k y->kR h' z TI TO (eF s.heap.objs.size)->fj h' TO x y->S (k+1) h'->X (k+1) h'->fj h' s.heap.objs.size x y->h'.objs.size=s.heap.objs.size+1->
   (∀c o,c≠z->c≠TO->c≠i1->c≠i2->s.heap.get? c=ag o->h'.get? c=ag o)->Q (.ref s.heap.objs.size) { s with heap:=h',toks:=tk }) :
  av (model prog w) A (kD.«zip.__next__» ⟨[.ref z],[]⟩) (λfin s'=>∃v,fin = .done (.ret v)/\Q v s') E s:=by
 show av _ _ (field (.ref z) 2 >>= _) _ _ _;refine aI (cD hz rfl rfl ?_);refine aI (cD hz rfl rfl ?_);refine aI (dy hTI rfl ?_);refine aI ?_;refine aI (cD hz rfl rfl (a9 ?_));refine aI (lj ?_);refine aI (cD hz rfl rfl ?_);refine aI (dz hz (by simp) λh₁ C l=>?_)
 replace C:kR h₁ z TI TO .ellipsis:=C
 refine aI ?_;refine aI (aI (iP ?_));have st1:=D1.frame _ _ _ h1 λc B o e=>l.extBut c o (λq=>D.z1 (q▸B)) e;refine aI (D1.item k _ _ _ hx st1 λx M tk₂ hPx Z h=>a9 ?_)
 replace h:cj i1 h₁ M:=h
 have F:=h.extBut _ _ D.TOi1 (l.extBut _ _ D.TOz hTO);refine aI (dy F rfl ?_);refine aI (iU F λI n d=>?_)
 replace n:fj I TO x b:=n
 replace d:cj TO M I:=d
 refine aI (nA (a9 ?_));refine aI (aI (iP ?_));have st2:=D2.frame _ _ _ h2 λc B o e=>d.extBut c o (λq=>D.TO2 (q▸B)) (h.extBut c o (λq=>D.i12' (q▸B)) (l.extBut c o (λq=>D.z2 (q▸B)) e));refine aI (D2.item k _ _ _ hy st2 λy N Y hPy R g=>a9 ?_)
 replace g:cj i2 I N:=g
 have G:=g.extBut _ _ D.TOi2 n;refine aI (dy G rfl ?_);refine aI (iU G λi j f=>?_)
 replace j:fj i TO x y:=j
 replace f:cj TO N i:=f
 refine aI (nA (a9 (a9 ?_)));refine aI (dy j rfl ?_);refine aI (wpAny_newTuple ?_);have hsz:i.objs.size=s.heap.objs.size:=by rw[f.1,g.1,d.1,h.1,l.1]
 have L:=f.extBut _ _ D.TOz.symm (g.extBut _ _ D.i2z.symm (d.extBut _ _ D.TOz.symm (h.extBut _ _ D.i1z.symm C)))
 have P:∀c o,c≠z->c≠TO->c≠i1->c≠i2->s.heap.get? c=ag o->i.get? c=ag o:=λc o c1 c2 c3 c4 e=>
  f.extBut _ _ c2 (g.extBut _ _ c4 (d.extBut _ _ c2 (h.extBut _ _ c3 (l.extBut _ _ c1 e))))
 have W:=D1.frame _ _ _ Z λc B o e=>f.extBut c o (λq=>D.TO1 (q▸B)) (g.extBut c o (λq=>D.i21 (q▸B)) (d.extBut c o (λq=>D.TO1 (q▸B)) e));have U:=D2.frame _ _ _ R λc B o e=>f.extBut c o (λq=>D.TO2 (q▸B)) e;have O:=aP L;refine aI ?_;have T:kR (i.push { cls:=.type "tuple",data:=.seq #[x,y] }) z TI TO .ellipsis:=aH _ L;refine aI (dz T (by simp) λh₇ u t=>?_)
 replace u:kR h₇ z TI TO (eF i.objs.size):=u
 refine dz u (by simp) λH m p=>?_
 replace m:kR H z TI TO (eF i.objs.size):=m
 have up:∀c o,c≠z->i.get? c=ag o->H.get? c=ag o:=λc o c1 e=>p.extBut _ _ c1 (t.extBut _ _ c1 (aH _ e));have J:=p.extBut _ _ (dk O) (t.extBut _ _ (dk O) (af _ rfl));have hz8:H.objs.size=i.objs.size+1:=by rw[p.1,t.1,cS]
 rw[hsz] at m J hz8;refine a9 ⟨_,rfl,?_⟩;rw[hsz];exact hQ x y H Y hPx hPy m (up _ _ D.TOz j) (D1.frame _ _ _ W λc B o e=>up c o (λq=>D.z1 (q▸B)) e) (D2.frame _ _ _ U λc B o e=>up c o (λq=>D.z2 (q▸B)) e) J hz8 λc o c1 c2 c3 c4 e=>up c o c1 (P c o c1 c2 c3 c4 e)
theorem Za6{z TI TO G H:aK}{I O:List aK}{n1 n2 k:Nat}{P1 P2:Nat->aG->Prop}{M J:Nat->bR->Prop}{a b:aG}{Q:PySem.Fin->aM->Prop}(D:NW z TI TO G H I O)
  (W:Draws prog w A G I n1 P1 M) (D2:Draws prog w A H O n2 P2 J)
  (R:kR s.heap z TI TO .none) (X:fj s.heap TI (.ref G) (.ref H)) (Y:fj s.heap TO a b)
  (h1:M k s.heap) (h2:J k s.heap) (L:k=n1\/(k<n1/\k=n2))
  (hE:∀h' tk e,(∀c o,c≠z->c≠TO->c≠G->c≠H->s.heap.get? c=ag o->h'.get? c=ag o)->(∃o,h'.get? e=ag o/\o.cls = .type "StopIteration")->E (.ref e) { s with heap:=h',toks:=tk }) :
  av (model prog w) A (kD.«zip.__next__» ⟨[.ref z],[]⟩) Q E s:=by
 show av _ _ (field (.ref z) 2 >>= _) _ _ _;refine aI (cD R rfl rfl ?_);refine aI (cD R rfl rfl ?_);refine aI (dy X rfl ?_);refine aI ?_;refine aI (cD R rfl rfl (a9 ?_));refine aI (lj ?_);refine aI (cD R rfl rfl ?_);refine aI (dz R (by simp) λh₁ h g=>?_)
 replace h:kR h₁ z TI TO .ellipsis:=h
 replace g:cj z s.heap h₁:=g
 refine aI ?_;refine aI (aI (iP ?_));have C:=W.frame _ _ _ h1 λc N o e=>g.extBut c o (λq=>D.z1 (q▸N)) e;rcases L with T | ⟨hx,T⟩
 ·rw[T] at C;refine aI (W.done _ _ _ C λm e d Z=>?_)
  replace d:mz G h₁ m:=d
  obtain⟨oe,n,v⟩:=Z;have t:=d _ _ D.i1z.symm h;have F:e≠z:=λx=>by subst x;rw[t] at n;cases n;simp at v
  refine dz t (by simp) λl _ f=>?_
  replace f:cj z m l:=f
  exact hE l _ e (λc o c1 _ c3 _ x=>f.extBut _ _ c1 (d _ _ c3 (g.extBut _ _ c1 x))) ⟨oe,f.extBut _ _ F n,v⟩
 ·refine aI (W.item k _ _ _ hx C λx m U hPx h1₂ d=>a9 ?_)
  replace d:cj G h₁ m:=d
  have p:=d.extBut _ _ D.TOi1 (g.extBut _ _ D.TOz Y);refine aI (dy p rfl ?_);refine aI (iU p λl S f=>?_)
  replace f:cj TO m l:=f
  refine aI (nA (a9 ?_));refine aI (aI (iP ?_));have P:=D2.frame _ _ _ h2 λc N o e=>f.extBut c o (λq=>D.TO2 (q▸N)) (d.extBut c o (λq=>D.i12' (q▸N)) (g.extBut c o (λq=>D.z2 (q▸N)) e));rw[T] at P;refine aI (D2.done _ _ _ P λy e i Z=>?_)
  replace i:mz H l y:=i
  obtain⟨oe,n,v⟩:=Z;have u:=i _ _ D.i2z.symm (f.extBut _ _ D.TOz.symm (d.extBut _ _ D.i1z.symm h));have F:e≠z:=λx=>by subst x;rw[u] at n;cases n;simp at v
  refine dz u (by simp) λB _ j=>?_
  replace j:cj z y B:=j
  exact hE B _ e (λc o c1 c2 c3 c4 x=>j.extBut _ _ c1 (i _ _ c4 (f.extBut _ _ c2 (d.extBut _ _ c3 (g.extBut _ _ c1 x))))) ⟨oe,j.extBut _ _ F n,v⟩
theorem QP{z TI TO i h:aK}{f g:List aK}{q p k:Nat}{n u:Nat->aG->Prop}{e d:Nat->bR->Prop}{a b:aG}{Q:Option aG->aM->Prop}(D:NW z TI TO i h f g)
  (S:Draws prog w A.in1 i f q n e) (v:Draws prog w A.in1 h g p u d)
  (t:kR s.heap z TI TO .none) (j:fj s.heap TI (.ref i) (.ref h)) (l:fj s.heap TO a b)
  (H:e k s.heap) (J:d k s.heap) (P:k<q) (O:k<p)
  (L:∀x y h' tk,n k x->u k y->kR h' z TI TO (eF s.heap.objs.size)->fj h' TO x y->e (k+1) h'->d (k+1) h'->fj h' s.heap.objs.size x y->h'.objs.size=s.heap.objs.size+1->
   (∀c o,c≠z->c≠TO->c≠i->c≠h->s.heap.get? c=ag o->h'.get? c=ag o)->Q (ag (.ref s.heap.objs.size)) { s with heap:=h',toks:=tk }) :
  av (model prog w) A (oN (.ref z)) Q E s:=by
 have m:s.TypeIs (.ref z) "zip":=⟨_,t,rfl⟩
 exact aI (lU (dh m F.slot_zip_next
  (fE F.slot_zip_next m F.entry_zip_next
   (Co D S v t j l H J P O λx y h' tk C p2 M N R I T B G=>a9 (L x y h' tk C p2 M N R I T B G)) (F.args_zip_next_1 _))))
theorem PL{z TI TO l j:aK}{d i:List aK}{p t k:Nat}{G M:Nat->aG->Prop}{h f:Nat->bR->Prop}{a b:aG}{Q:Option aG->aM->Prop}(D:NW z TI TO l j d i)
  (I:Draws prog w A.in1 l d p G h) (v:Draws prog w A.in1 j i t M f)
  (u:kR s.heap z TI TO .none) (m:fj s.heap TI (.ref l) (.ref j)) (n:fj s.heap TO a b)
  (x:h k s.heap) (B:f k s.heap) (g:k=p\/(k<p/\k=t))
  (C:∀h' tk,(∀c o,c≠z->c≠TO->c≠l->c≠j->s.heap.get? c=ag o->h'.get? c=ag o)->Q aA { s with heap:=h',toks:=tk }):av (model prog w) A (oN (.ref z)) Q E s:=by
 have q:s.TypeIs (.ref z) "zip":=⟨_,u,rfl⟩
 refine aI (lU (dh q F.slot_zip_next
  (fE F.slot_zip_next q F.entry_zip_next (Za6 D I v u m n x B g λh' tk e y L=>?_) (F.args_zip_next_1 _))))
 obtain⟨o,H,J⟩:=L;refine aI (wpAny_isInstance ⟨o,H,J⟩ isSubtype_stop ?_);exact a9 (C _ tk y)
end
abbrev zq1(h:bR)(b1:Bool)(l1:aK):bR:=h.push (Ug b1 l1)
abbrev zq2(h:bR)(b1 b2:Bool)(l1 l2:aK):bR:=(zq1 h b1 l1).push (Ug b2 l2)
abbrev zq3(h:bR)(b1 b2:Bool)(l1 l2:aK):bR:=(zq2 h b1 b2 l1 l2).push { cls:=.type "tuple",data:=.seq #[.ref h.objs.size,.ref (zq1 h b1 l1).objs.size] }
abbrev zq4(h:bR)(b1 b2:Bool)(l1 l2:aK):bR:=(zq3 h b1 b2 l1 l2).push { cls:=.type "tuple",data:=.seq #[.none,.none] }
abbrev zq5(h:bR)(b1 b2:Bool)(l1 l2:aK):bR:=(zq4 h b1 b2 l1 l2).push { cls:=.type "zip",data:=.fields #[.none,.bool aB,.bool aB,.ref (zq2 h b1 b2 l1 l2).objs.size,.ref (zq3 h b1 b2 l1 l2).objs.size] }
theorem NA(b1 c:Bool)(b a:aK)(xs l:Array aG) :
  Meets (kD.«zip.__new__» ⟨[.type "zip",.ref b,.ref a],[]⟩) (λ_ R s=>SeqB b1 s.heap b xs/\SeqB c s.heap a l/\
   R (.ok (.ret (.ref (zq4 s.heap b1 c b a).objs.size))) { s with heap:=zq5 s.heap b1 c b a }):=
 .of_wp λprog w A R s h=>by
  obtain⟨n,g,d,tk,os⟩:=s;obtain⟨i,j,h⟩:=h;have m:=sub_zip;have k:=i;have f:SeqB c (oU ⟨n.push (Ug b1 b),g,d,tk,os⟩) a l:=j.at λo e=>aH _ e
  wp_walk using Yt k,Yt f
  exact⟨_,rfl,h⟩
section
variable {prog:ay} {w:b9} {A:bU} {E:aG->aM->Prop} {s:aM}
theorem MP{b1 d:Bool}{a b:aK}{xs t:Array aG}{Q:aG->aM->Prop}(g:SeqB b1 s.heap a xs)(j:SeqB d s.heap b t)
  (h:∀h',kR h' (s.heap.objs.size+4) (s.heap.objs.size+2) (s.heap.objs.size+3) .none->fj h' (s.heap.objs.size+2) (.ref s.heap.objs.size) (.ref (s.heap.objs.size+1))->
   fj h' (s.heap.objs.size+3) .none .none->IterB b1 h' s.heap.objs.size a 0->IterB d h' (s.heap.objs.size+1) b 0->h'.objs.size=s.heap.objs.size+5->
   (∀c o,s.heap.get? c=ag o->h'.get? c=ag o)->Q (.ref (s.heap.objs.size+4)) { s with heap:=h' }) :
  av (model prog w) A (call (.type "zip") [.ref a,.ref b]) Q E s:=by
 refine callType_new F.called_zip rfl (F.typeCall_zip_2 _ _) (F.newCall_zip_2 _ _) (λk=>F.args_object_init_3 k _ _) F.entry_zip_new
  (NA b1 d a b xs t) ⟨g,j,?_⟩
 have f:(zq1 s.heap b1 a).objs.size=s.heap.objs.size+1:=cS ..;have e:(zq2 s.heap b1 d a b).objs.size=s.heap.objs.size+2:=by rw[cS,f]
 have m:(zq3 s.heap b1 d a b).objs.size=s.heap.objs.size+3:=by rw[cS,e]
 have l:(zq4 s.heap b1 d a b).objs.size=s.heap.objs.size+4:=by rw[cS,m]
 have v:(zq5 s.heap b1 d a b).objs.size=s.heap.objs.size+5:=by rw[cS,l]
 have i:(zq5 s.heap b1 d a b).get? (zq4 s.heap b1 d a b).objs.size=ag _:=af _ rfl;have q:(zq5 s.heap b1 d a b).get? (zq3 s.heap b1 d a b).objs.size=ag _:=aH _ (af _ rfl);have p:(zq5 s.heap b1 d a b).get? (zq2 s.heap b1 d a b).objs.size=ag _:=aH _ (aH _ (af _ rfl));have n:(zq5 s.heap b1 d a b).get? (zq1 s.heap b1 a).objs.size=ag (Ug d b):=aH _ (aH _ (aH _ (af _ rfl)));have u:(zq5 s.heap b1 d a b).get? s.heap.objs.size=ag (Ug b1 a):=aH _ (aH _ (aH _ (aH _ (af _ rfl))));rw[e,m,l] at i;rw[f,e] at p;rw[m] at q;rw[f] at n;rw[l]
 exact⟨⟨_,i,rfl⟩,h _ i p q (IterB.new u) (IterB.new n) v λc o x=>
  aH _ (aH _ (aH _ (aH _ (aH _ x))))⟩
end
theorem Inv.newTup{X:Cx}{w:List (aK×cg)}{U:St}{H:Hp}{s:aM}{m:List aK}{j:bR}{tk n:Nat}{y:List aG}{xs:List V}(I:Inv X w U H s)(F:∀b∈m,VF X w H b)
  (kk:∀c o,c∉m->s.heap.get? c=ag o->j.get? c=ag o) (D:j.get? s.heap.objs.size=ag { cls:=.type "tuple",data:=.seq y.toArray n }) (J:Vals xs y) (G:xs.length<=sizeLine) :
  Inv X w U (upd H s.heap.objs.size (.tup xs)) { s with heap:=j,toks:=tk }:=by
 have a:=I.hok.fresh (aa _);have A:∀c∈m,(c∈X.ex\/X.s₀.heap.objs.size<=c)/\c≠X.env.locals/\(∀x d,X.env.cells.lookup x=ag d->d≠c)/\∀p∈X.pn++w,p.1≠c:=λc h=>by have f:=F c h;exact⟨f.2.2.2.1,f.2.1,f.2.2.2.2.1,f.2.2.2.2.2⟩
 have l:∀c i,H c=ag i->c∉m:=λc i q h=>by rw[(F c h).1] at q;cases q
 have t:=λc i q=>(I.hok c i q).stay (λd v hd B=>kk d v (by
   rcases hd with z | z
   ·rw[z];exact l c i q
   ·exact l d _ z) B) (λ_ z=>z) (λ_ _ z=>z) λ_ _ z=>z
 have new:ObjOk X.prog X.w (upd H s.heap.objs.size (.tup xs)) j s.heap.objs.size (.tup xs):=
  ⟨⟨G,λo e=>by rw[D] at e;cases e;rfl⟩,y,J,⟨_,D,rfl,_,rfl⟩⟩
 have k:HOk X.prog X.w (upd H s.heap.objs.size (.tup xs)) j:=λc i q=>by
  by_cases E:c=s.heap.objs.size
  ·subst E;rw[Zl] at q;cases q;exact new
  ·rw[upd_ne E] at q;exact(t c i q).stay (λd v _ B=>B) (λd z=>by rw[upd_ne (Zn z a)];exact z) (λd C z=>by rw[upd_ne (Zn z a)];exact z) λd u z=>by rw[upd_ne (Zn z a)];exact z
 have un:Un (Nx X.stack) m H (upd H s.heap.objs.size (.tup xs)) s.heap j:=by
  refine⟨λc o q _ _ g=>kk c o g q,λc o q _ _ g=>⟨o.slots,kk c o g q⟩,λc o q n _=>?_,λc o q g=>⟨o,kk c o g q⟩,λc C q=>?_,λc o C q=>?_,λc L q=>⟨#[],?_⟩⟩
  ·rw[upd_ne (az (aP q))];exact n
  ·rw[upd_ne (Zn q a)];exact q
  ·rw[upd_ne (Zn q a)];exact q
  ·rw[upd_ne (Zn q a),q];simp
 exact I.call un k I.bare A
theorem Inv.turnedL{X:Cx}{k:List (aK×cg)}{U:St}{H:Hp}{s:aM}{h:List aK}{m:bR}{tk:Nat}(I:Inv X k U H s)(t:∀b∈h,VF X k H b)
  (kk:∀c o,c∉h->s.heap.get? c=ag o->m.get? c=ag o):Inv X k U H { s with heap:=m,toks:=tk }:=by
 have l:∀c∈h,(c∈X.ex\/X.s₀.heap.objs.size<=c)/\c≠X.env.locals/\(∀x d,X.env.cells.lookup x=ag d->d≠c)/\∀p∈X.pn++k,p.1≠c:=λc e=>by have f:=t c e;exact⟨f.2.2.2.1,f.2.1,f.2.2.2.2.1,f.2.2.2.2.2⟩
 have g:∀c i,H c=ag i->c∉h:=λc i q e=>by rw[(t c e).1] at q;cases q
 have j:=λc i q=>(I.hok c i q).stay (λd v hd w=>kk d v (by
   rcases hd with z | z
   ·rw[z];exact g c i q
   ·exact g d _ z) w) (λ_ z=>z) (λ_ _ z=>z) λ_ _ z=>z
 have un:Un (Nx X.stack) h H H s.heap m:=
  ⟨λc o q _ _ a=>kk c o a q,λc o q _ _ a=>⟨o.slots,kk c o a q⟩,λc o q n _=>n,λc o q a=>⟨o,kk c o a q⟩,λc u q=>q,λc o u q=>q,λc y q=>⟨#[],by rw[q];simp⟩⟩
 exact I.call un j I.bare l
theorem SeqB.ne_rec{b:Bool}{h:bR}{a c:aK}{j:Array aG}{o:cg}{vs:Array aG}(p:SeqB b h a j)(e:h.get? c=ag o)(d:o.data = .fields vs):a≠c:=λz=>by
 subst z
 cases b with
 | true=>obtain⟨i,f,_,m,g⟩:=(p);rw[e] at f;cases f;rw[d] at g;cases g
 | false=>obtain⟨i,f,_,m,g⟩:=(p);rw[e] at f;cases f;rw[d] at g;cases g
theorem IterB.rec{b:Bool}{h:bR}{c a:aK}{i:Nat}(x:IterB b h c a i):∃o,h.get? c=ag o/\∃vs,o.data = .fields vs:=by
 cases b with
 | true=>obtain⟨o,e,_,d⟩:=(x);exact⟨o,e,_,d⟩
 | false=>obtain⟨o,e,_,d⟩:=(x);exact⟨o,e,_,d⟩
structure Zf7(a1 a2 TO TI:aK):Prop where
 a:a1≠TO
 b:a2≠TO
 c:a1≠TI
 d:a2≠TI
noncomputable def Itz(b1 b2:Bool)(K:aE)(a1 a2:aK):It:=
  ⟨λi H=>∃xs ys x y,Nu b1 K H a1 xs/\Nu b2 K H a2 ys/\xs[i]?=ag x/\ys[i]?=ag y,
   λi H v H'=>∃p x y,H p=aA/\v = .ref p/\H'=upd H p (.tup [x,y])/\(∀xs,Nu b1 K H a1 xs->xs[i]?=ag x)/\∀ys,Nu b2 K H a2 ys->ys[i]?=ag y,
   λi H=>∃xs ys,Nu b1 K H a1 xs/\Nu b2 K H a2 ys/\(i=xs.length\/(i<xs.length/\i=ys.length))⟩
theorem Cp{P:ay}{w:b9}{K:aE}{elts:List bB}{k:Nat}{pos:da}(b1 b2:Bool)(a1 a2 z TI TO J G:aK)(d:[z,TI,TO,J,G].Nodup) :
  MF P w K (.Tuple elts k pos) (Itz b1 b2 K a1 a2) [z,TI,TO,J,G] z
   (λi h=>kR h z TI TO .none/\fj h TI (.ref J) (.ref G)/\(∃u v,fj h TO u v/\Zf7 a1 a2 TO TI)/\IterB b1 h J a1 i/\IterB b2 h G a2 i) where
 mem:=by simp
 obj:=λi h st c hc=>by
  obtain⟨F,b,⟨u,v,n,_⟩,T,W⟩:=st;simp only[aX,cM,or_false] at hc;rcases hc with rfl | rfl | rfl | rfl | rfl
  ·exact⟨_,F,λv q=>by cases q⟩
  ·exact⟨_,b,λv q=>by cases q⟩
  ·exact⟨_,n,λv q=>by cases q⟩
  ·exact T.has
  ·exact W.has
 keep:=λi h h' st kk=>by obtain⟨F,b,⟨u,v,n,f⟩,T,W⟩:=st;exact⟨kk z (by simp) _ F,kk TI (by simp) _ b,⟨u,v,kk TO (by simp) _ n,f⟩,T.at λo q=>kk J (by simp) o q,W.at λo q=>kk G (by simp) o q⟩
 item:=by
  intro X hP hw hK hc i o4 s U H E I hf st hg;subst hP hw hK;obtain⟨xs,ys,x,y,O,Z,hx,hy⟩:=hg;obtain⟨j,rv1,S,hz1⟩:=I.seqB O;obtain⟨g,rv2,p2,hz2⟩:=I.seqB Z;obtain⟨u,hu,ru⟩:=rv1.get hx;obtain⟨v,hv,rv⟩:=rv2.get hy;obtain⟨F,b,⟨q1,q2,n,f⟩,T,W⟩:=st;obtain⟨o1,e1,vs1,d1⟩:=T.rec;obtain⟨o2,e2,vs2,d2⟩:=W.rec;have A1z:=S.ne_rec F rfl;have A2z:=p2.ne_rec F rfl;have A11:=S.ne_rec e1 d1;have A12:=S.ne_rec e2 d2;have A21:=p2.ne_rec e1 d1;have A22:=p2.ne_rec e2 d2;simp only[aw,aX,cM,not_or,cF,and_true,not_false_eq_true] at d;obtain⟨⟨m,t,B,C⟩,⟨Y,N,R⟩,⟨L,M⟩,p⟩:=d;obtain⟨f1,f2,f3,f4⟩:=f;have D:NW z TI TO J G [J,a1] [G,a2]:=⟨bP m,bP t,bP B,bP C,Y,N,R,L,M,p,by simp[B,bP A1z],by simp[L,bP f1],by simp[bP p,bP A12],by simp[C,bP A2z],by simp[M,bP f2],by simp[p,bP A21]⟩;have D1:=Draws.seq (prog:=X.prog) (w:=X.w) (A:=X.A.in1) b1 (I.ok.hd hc) J a1 A11 j.toArray;have D2:=Draws.seq (prog:=X.prog) (w:=X.w) (A:=X.A.in1) b2 (I.ok.hd hc) G a2 A22 g.toArray;have l1:i<j.toArray.size:=by simpa using(aS.mp hu).1
  have l2:i<g.toArray.size:=by simpa using(aS.mp hv).1
  refine QP D D1 D2 F b n ⟨T,S⟩ ⟨W,p2⟩ l1 l2 λx' y' h' tk hPx hPy c1 c2 c3 c4 c5 c6 hk=>?_
  have ex':x'=u:=by
   have w1:=hPx;have w2:j.toArray[i]?=ag u:=by simpa using hu
   rw[w1] at w2;exact bG w2
  have ey':y'=v:=by
   have w1:=hPy;have w2:g.toArray[i]?=ag v:=by simpa using hv
   rw[w1] at w2;exact bG w2
  subst ex' ey';refine⟨_,rfl,wpAny_letOwnedTupleGo_zip c1 λh3 hz3 l=>?_⟩
  replace l:cj z h' h3:=l
  have kk:∀c o,c∉[z,TI,TO,J,G]->s.heap.get? c=ag o->h3.get? c=ag o:=λc o a q=>
   l.extBut c o (λe=>a (by simp[e])) (hk c o (λe=>a (by simp[e])) (λe=>a (by simp[e])) (λe=>a (by simp[e])) (λe=>a (by simp[e])) q)
  have hTn:=I.hok.fresh (aa _);have hT3:=l.extBut _ _ (dk (aP F)) c5;have I2:=I.newTup (tk:=tk) hf kk hT3 (.cons ru (.cons rv .nil)) (by show 2<=sizeLine;decide);refine⟨.ref s.heap.objs.size,_,I2,rfl,⟨_,x,y,hTn,rfl,rfl,λzs hzs=>by rw[I.seqB_inj hzs O];exact hx,λzs hzs=>by rw[I.seqB_inj hzs Z];exact hy⟩,⟨hz3,l.extBut _ _ (bP m) (hk _ _ (bP m) Y N R b),⟨_,_,l.extBut _ _ (bP t) c2,f1,f2,f3,f4⟩,c3.1.at λo q=>l.extBut _ o (bP B) q,c4.1.at λo q=>l.extBut _ o (bP C) q⟩,λc a=>?_⟩;rw[upd_ne (az ?_)]
  ·exact(hf c a).1
  ·simp only[aX,cM,or_false] at a;rcases a with rfl | rfl | rfl | rfl | rfl
   ·exact aP F
   ·exact aP b
   ·exact aP n
   ·exact aP e1
   ·exact aP e2
 done:=by intro X hP hw hK hc i o4 s U H E I hf st hg;subst hP hw hK;obtain⟨xs,ys,O,Z,hx⟩:=hg;obtain⟨j,rv1,S,hz1⟩:=I.seqB O;obtain⟨g,rv2,p2,hz2⟩:=I.seqB Z;obtain⟨F,b,⟨q1,q2,n,f⟩,T,W⟩:=st;obtain⟨o1,e1,vs1,d1⟩:=T.rec;obtain⟨o2,e2,vs2,d2⟩:=W.rec;have A1z:=S.ne_rec F rfl;have A2z:=p2.ne_rec F rfl;have A11:=S.ne_rec e1 d1;have A12:=S.ne_rec e2 d2;have A21:=p2.ne_rec e1 d1;have A22:=p2.ne_rec e2 d2;simp only[aw,aX,cM,not_or,cF,and_true,not_false_eq_true] at d;obtain⟨⟨m,t,B,C⟩,⟨Y,N,R⟩,⟨L,M⟩,p⟩:=d;obtain⟨f1,f2,f3,f4⟩:=f;have D:NW z TI TO J G [J,a1] [G,a2]:=⟨bP m,bP t,bP B,bP C,Y,N,R,L,M,p,by simp[B,bP A1z],by simp[L,bP f1],by simp[bP p,bP A12],by simp[C,bP A2z],by simp[M,bP f2],by simp[p,bP A21]⟩;have D1:=Draws.seq (prog:=X.prog) (w:=X.w) (A:=X.A.in1) b1 (I.ok.hd hc) J a1 A11 j.toArray;have D2:=Draws.seq (prog:=X.prog) (w:=X.w) (A:=X.A.in1) b2 (I.ok.hd hc) G a2 A22 g.toArray;have n1:=rv1.length;have n2:=rv2.length;refine PL D D1 D2 F b n ⟨T,S⟩ ⟨W,p2⟩ (by simp only[aT];omega) λh' tk hk=>⟨rfl,?_⟩;exact I.turnedL hf λc o a q=>hk c o (λe=>a (by simp[e])) (λe=>a (by simp[e])) (λe=>a (by simp[e])) (λe=>a (by simp[e])) q
 self:=λA i s Q E st hQ=>wpAny_pyIter_zip st.1 hQ
section
variable {X:Cx}
noncomputable def Zlo(b1 b2:Bool)(K:aE)(ta:TA):TI:=λU H R=>ta U H λvs H1=>∃a1 a2,vs=[.ref a1,.ref a2]/\(∃xs,Nu b1 K H1 a1 xs)/\(∃ys,Nu b2 K H1 a2 ys)/\R (Itz b1 b2 K a1 a2) H1
theorem Zf8{m:List bB}{k:Nat}{g:da}(b1 D:Bool){a b:bB}{E:TA}{p l:da}(O:Gl X "zip")(M:X.mg "zip" = aA)(P:PA X [a,b] E)
  (hs:aO [a,b] X.env=[(aB,eval a X.env),(aB,eval b X.env)]:=by rfl) (t:aO [b] X.env=[(aB,eval b X.env)]:=by rfl) :
  PI X (.Tuple m k g) (.Call (.Name "zip" p) [a,b] [] l) (Zlo b1 D X.K E):=by
 intro o4 s U H R I h;refine Call_ (VD I O M boot_zip (cJ (Yf (P l o4 s U H _ I h) λus s1 ⟨vs,S,o,W,Q⟩=>?_) (by rw[hs,t]) (by rw[t];rfl)));obtain⟨x,y,e,⟨xs,v⟩,⟨ys,w⟩,q⟩:=Q;subst e
 cases W with
 | cons r rr=>
  cases rr with
  | cons r' rr=>
   cases rr;cases r;cases r';obtain⟨G,J,A,_⟩:=o.seqB v;obtain⟨z,Z,p2,_⟩:=o.seqB w;refine MP A p2 λh' c1 c2 c3 c4 c5 c6 N=>?_;refine wpAny_pyIter_zip c1 ?_;have Y:=o.kept (t':=s1.toks) N;have B:=let⟨_,e⟩:=A.has;aP e;have C:=let⟨_,e⟩:=p2.has;aP e;generalize T:s1.heap.objs.size=n at *;have ne:∀(a:aK)(j:Nat),a<n->a≠n+j:=λa j h=>az (aZ h (fG _ _));have L:([n+4,n+2,n+3,n,n+1]:List aK).Nodup:=by have d:∀(i j:Nat),i≠j->(n+i:Nat)≠n+j:=λi j h e=>h (lJ e);have u:∀(i:Nat),i≠0->(n+i:Nat)≠n:=λi h e=>h (lJ (e.trans (Nat.add_zero n).symm));simp only[aw,aX,cM,not_or,cF,and_true,not_false_eq_true];exact⟨⟨d 4 2 (by decide),d 4 3 (by decide),u 4 (by decide),d 4 1 (by decide)⟩,⟨d 2 3 (by decide),u 2 (by decide),d 2 1 (by decide)⟩,⟨u 3 (by decide),d 3 1 (by decide)⟩,(u 1 (by decide)).symm⟩
   refine⟨n+4,[n+4,n+2,n+3,n,n+1],_,_,S,rfl,Y,Cp b1 D x y (n+4) (n+2) (n+3) n (n+1) L,⟨c1,c2,⟨_,_,c3,ne x 3 B,ne y 3 C,ne x 2 B,ne y 2 C⟩,c4,c5⟩,λc F=>?_,q⟩
   have f:s1.heap.objs.size<=c:=by
    rw[T];simp only[aX,cM,or_false] at F;rcases F with rfl | rfl | rfl | rfl | rfl
    ·exact fG _ _
    ·exact fG _ _
    ·exact fG _ _
    ·exact aa _
    ·exact fG _ _
   exact o.fpOk f (o.hok.fresh f)
end
theorem Walks.seqB{prog:ay}{w:b9}{A:bU}(b:Bool)(e:A.handled=aA)(I c:aK)(d:c≠I)(a:Array aG) :
  Walks prog w A I [I,c] [I] a.size (λi v=>a[i]?=ag v) (λi h=>IterB b h I c i/\SeqB b h c a):=by
 cases b with
 | true=>exact Walks.list e I c d a
 | false=>exact Walks.tuple e I c d a
section
variable {X:Cx}
theorem YS(F:X.calm=aC):Xh X (.builtin "sum") (λxs H Q=>∃(b:Bool) (p:aK) (a:List Int),xs=[.ref p]/\Nu b X.K H p (a.map V.int)/\Q (.int a.sum) H):=by
 intro M s U H xs L Q I r h;obtain⟨b,p,a,rfl,J,q⟩:=h;obtain⟨u,rfl,E⟩:=Ue r;cases E;obtain⟨m,w,d,N⟩:=I.seqB J;have z:=let⟨_,e⟩:=d.has;aP e;refine call_sum_walkG (Yt d ?_);refine⟨_,_,_,_,_,_,λi=>a.getD i 0,rfl,Walks.seqB (A:=X.A.in1) b (I.ok.hd F) s.heap.objs.size p (az z) m.toArray,⟨IterB.new (af _ rfl),d.at λo e=>aH _ e⟩,λc f=>?_,λi v j=>?_,λh' tk t' y=>?_⟩
 ·show c<(s.heap.push _).objs.size;rw[cS];rcases aX.mp f with rfl | f
  ·exact fF _
  ·rw[aN.mp f];exact eZ z
 ·have j:=j;have j:m[i]?=ag v:=by simpa using j
  have l:=w.length;rw[aL] at l;have C:i<a.length:=by rw[l];exact(aS.mp j).1
  obtain⟨u,B,G⟩:=w.get (i:=i) (x:=.int a[i]) (by simp);rw[j] at B;cases B;obtain⟨t,rfl⟩:=G;refine⟨t,?_⟩;show jD a[i] t=jD (a.getD i 0) t;rw[aF,aJ C];rfl
 ·have e:preSum (λi=>a.getD i 0) m.toArray.size=a.sum:=by
   have l:=w.length;rw[aL] at l;rw[aT,<-l]
   have n:∀k,k<=a.length->preSum (λi=>a.getD i 0) k=(a.take k).sum:=by
    intro k
    induction k with
    | zero=>intro _;simp[preSum]
    | succ k ih=>
     intro y;rw[preSum,ih (by omega),List.take_add_one,aF,aJ (by omega),di];simp
   rw[n _ (aa _),jq]
  rw[e];refine⟨.int a.sum,H,I.kept (λc o g=>y c o ?_ (aH _ g)),⟨_,rfl⟩,q⟩;intro D;rw[aN.mp D] at g;exact absurd (aP g) (bu _)
theorem RG(C:X.calm=aC):Xh X (.builtin "all") (λxs H Q=>∃(b:Bool) (p:aK) (bs:List Bool),xs=[.ref p]/\Nu b X.K H p (bs.map V.bl)/\Q (.bl (bs.all id)) H):=by
 intro M s U H xs F Q I r h;obtain⟨b,p,bs,rfl,E,q⟩:=h;obtain⟨u,rfl,B⟩:=Ue r;cases B;obtain⟨j,m,a,N⟩:=I.seqB E;have y:=let⟨_,e⟩:=a.has;aP e;have k:=m.length;rw[aL] at k;refine call_all_walk (Yt a ?_);refine⟨_,_,_,_,_,_,λi=>bs.getD i aC,rfl,Walks.seqB (A:=X.A.in1) b (I.ok.hd C) s.heap.objs.size p (az y) j.toArray,⟨IterB.new (af _ rfl),a.at λo e=>aH _ e⟩,λi v J G L g w=>?_,λh' tk n=>?_⟩
 ·have g:=g;have g:j[i]?=ag v:=by simpa using g
  have d:i<bs.length:=by rw[k];exact(aS.mp g).1
  obtain⟨u,l,D⟩:=m.get (i:=i) (x:=.bl bs[i]) (by simp);rw[g] at l;cases l;cases D;refine df ?_;have e:bs.getD i aC=bs[i]:=by rw[aF,aJ d];rfl
  rw[<-e];exact w
 ·have e:(aD j.toArray.size).all (λi=>bs.getD i aC)=bs.all id:=by
   rw[aT,<-k,i7,bN,bN];constructor
   ·intro h x z;obtain⟨i,d,rfl⟩:=iV.mp z;have:=h i (aW.mpr d);rw[aF,aJ d] at this;exact this
   ·intro h i d;have d:=aW.mp d;rw[aF,aJ d];exact h _ (bT d)
  rw[e];refine⟨.bl (bs.all id),H,I.kept (λc o f=>n c o ?_ (aH _ f)),rfl,q⟩;intro t;rw[aN.mp t] at f;exact absurd (aP f) (bu _)
theorem XZ:Xh X (.builtin "isinstance") (λxs H Q=>∃x T t b,xs=[x,.ty T]/\TyOf X.K H x t/\cz X.K t (.type T)=ag b/\Q (.bl b) H):=by intro g s U H xs f Q I r h;obtain⟨x,T,t,b,rfl,c,a,q⟩:=h;obtain⟨u,v,rfl,d,e⟩:=Zd7 r;cases e;exact Ee I d c a λtk=>⟨.bl b,H,I.tok tk,rfl,q⟩
theorem Ku{K:aE}:cz K (.type "int") (.type "int")=ag aC:=rfl
theorem MQ{K:aE}:cz K (.type "int") (.type "bool")=ag aB:=rfl
theorem Kv{K:aE}:cz K (.type "tuple") (.type "tuple")=ag aC:=rfl
theorem NB{K:aE}:cz K (.type "list") (.type "list")=ag aC:=rfl
theorem Kw{K:aE}:cz K (.type "str") (.type "str")=ag aC:=rfl
noncomputable def GC:V->List V->Hp->VK->Prop:=λx vs H Q=>∃l xs k y,x = .ref l/\vs=[.int k,y]/\H l=ag (.lst xs)/\0<=k/\k<2^63/\xs.length<sizeLine/\Q .non (upd H l (.lst (xs.take k.toNat++y::xs.drop k.toNat)))
theorem NX:MtM X "list.insert" GC:=by
 intro B s U H x vs v w Q I m p h;obtain⟨l,xs,k,y,rfl,rfl,d,A,g,C,q⟩:=h;cases m;obtain⟨u,f,rfl,i,o⟩:=p.two;obtain⟨t,rfl⟩:=i;obtain⟨z,a,n,r,D,e⟩:=I.lstM d;have b:¬(!Builtin.List.listFitsIndex k)=aC:=by rw[fitsIndex_both (by omega) g];exact bx
 refine fg F.slot_list_insert ⟨_,e,rfl⟩ F.entry_list_insert (F.args_list_insert_3 _ _ _) (AutoListH.list_insert_list_int_val_1 l a.toArray n k t f b (by rw[aT];omega)) ⟨e,?_⟩;refine⟨.non,_,I.lset d e ?_ ((r.take k.toNat).append (.cons o (r.drop k.toNat))) ?_,rfl,q⟩
 ·show(have j:=if k<0 then(k+((a.toArray.size:Nat):Int)).toNat else min k.toNat a.toArray.size;(a.toArray.extract 0 j).push f++a.toArray.extract j)=_;rw[oY (by omega)];by_cases c:k.toNat<=a.length
  ·rw[fS (by rw[aT];exact c)];simp;rw[cB (by simp)]
  ·rw[jr (by rw[aT];omega)];rw[cB (by omega),iB (by omega)];simp
 ·rw[aY,bK,br,bh];omega
end
noncomputable def TK(H H':Hp):Prop:=∀b xs,H b=ag (.tup xs)->H' b=ag (.tup xs)
theorem Same.tk{H a:Hp}(s:Same H a):TK H a:=λb xs h=>s b _ h
theorem Same.new{H:Hp}{p:aK}(h:H p=aA)(o:HO):Same H (upd H p o):=λb u q=>by rw[upd_ne (Zn q h)];exact q
structure Def(K:aE)(mg:aj->Option aG)(x:aj)(st:ba):Prop where
 ex:∃f fd,mg x=ag (.ref f)/\Fun K x x st f fd
theorem def_mk{K:aE}{h:bR}{mg:aj->Option aG}{x:aj}{st:ba}{f:aK}{j:aG}{m i:Option aK}{e:Array (Option aG)}{kV d g b ct:aG}(X:K.In h)(G:h.Ns bX mg)
  (a:dD K bX x=ag (ag (.ref f))) (l:K.lookup f=ag ⟨j,m,.func (cV x x (Yy st) (Z2 st) (Zg st) .none kV d g i b ct),e⟩)
  (c:cy K b x=aC) (k:dw K (.ref f)=aC):Def K mg x st:=⟨f,_,j9 X G a,Cm l c k⟩
structure Xd(P:ay)(w:b9)(K:aE)(mg:aj->Option aG)(base:bR)(x:aj)(ps:List aj)(sp:Sp)(k:Nat):Prop where
 ex:∃f fd,mg x=ag (.ref f)/\dw K (.ref f)=aC/\Binds K fd ps []/\Tr P w K mg base MN k f fd ps sp
section
variable {P:ay} {w:b9} {K:aE} {mg:aj->Option aG} {base:bR}
theorem Def.cal{x:aj}{st:ba}{N d:List aj}{k:Nat}{e:Sp}(D:Def K mg x st)(S:Zq N d (Zg st))
  (m:∀(kV doc pm:aG)(an:Option aK)(b ct:aG)(us:List aG),us.length=d.length->gx (cV x x (Yy st) (Z2 st) (Zg st) .none kV doc pm an b ct) ⟨us,[]⟩=pure (d.zip us))
  (len:∀vs H Q E,e vs H Q E->vs.length=d.length)
  (c:∀(f:aK)(b:aG)(A:bU)(a:List jR)(s:aM)(H:Hp)(vs:List V)(Q:VK)(E:XK),Room k (A.deeper (gh x (Zg st) s.heap.objs.size f b))->e vs H Q E->
   ∃t,PSs (Su MN P w K mg base N x (Zg st) f b A a s H E).nox (Z2 st) t/\t { nx:=λ_ l=>Q .non l,rt:=Q } (start N vs) H):Xd P w K mg base x d e (k+1):=by
 obtain⟨f,g,i,F⟩:=D.ex;exact⟨f,g,i,F.kp,F.binds m,F.ok S len λb A a s H vs Q E j h=>c f b A a s H vs Q E j h⟩
end
section
variable {X:Cx} {x:aj} {ps:List aj} {sp:Sp} {k:Nat} {e:bB} {es:List bB} {t:TA} {p pos:da}
theorem Zf9(C:Xd X.prog X.w X.K X.mg X.base x ps sp k)(m:Room k X.A)(i:Gl X x)(j:PA X (e::es) t)
  (h:(x==("__debug__" : aj))=aB:=by decide) (l:aO (e::es) X.env=(aB,eval e X.env)::aO es X.env:=by rfl) (g:(ck pos (aO es X.env)).any (·.1)=aB:=by rfl) :
  PE X (.Call (.Name x p) (e::es) [] pos) (D9 sp [] E0 t):=by
 obtain⟨f,n,a,b,c,d⟩:=C.ex;exact Zap d m i a b c .nil Zeb j h l g
end
noncomputable def VJ(N:List aj)(around scope:du)(own fr:List aj)(ix:List Nat):Bool:=
 (match scope.kind with | .function=>aC | _=>aB)&&scope.names.all (λy=>y.2 != .cell)&&scope.names.all (λy=>y.2 != .local || scope.names.lookup y.1==ag .local)&&
 scope.names.all (λy=>y.2 != .free || (around.names.lookup y.1==ag .cell || around.names.lookup y.1==ag .free))&&(fr.map ag==ix.map (λi=>N[i]?))&&
 fr.all (λx=>scope.names.contains (x,bj))&&fr.all (λx=>scope.names.lookup x != ag .local)
theorem NY{N:List aj}{a b:du}{own fr:List aj}{ix:List Nat}(h:VJ N a b own fr ix=aC):CompScope N a b own fr ix:=by
 unfold VJ at h;simp only[bC] at h;obtain⟨⟨⟨⟨⟨⟨f,i⟩,j⟩,l⟩,m⟩,g⟩,k⟩:=h;refine⟨?_,λy c=>?_,λy c e=>?_,λy c e=>?_,by simpa using m,λx d=>?_,λx d=>?_⟩
 ·split at f
  ·assumption
  ·cases f
 ·simpa using bN.mp i y c
 ·have:=bN.mp j y c;rw[e] at this;simpa using this
 ·have:=bN.mp l y c;rw[e] at this;simpa using this
 ·simpa using bN.mp g x d
 ·simpa using bN.mp k x d
section
variable {X:Cx} {tg oV iter:bB} {o9:List bB} {scope:du} {pos:da} {wi:TI} {g:TG} {tt:TT} {te:TE}
theorem Kx(own fr:List aj)(ix:List Nat)(a:X.calm=aC)(e:PI X tg iter wi)(S:VJ X.N X.env.scope scope own fr ix=aC)
  (b:∀cl C s H ex,PG (ZH X (own++fr) scope cl C s H ex) tg g) (d:∀cl C s H ex,Ij (ZH X (own++fr) scope cl C s H ex) o9 tt) (c:∀cl C s H ex,PE (ZH X (own++fr) scope cl C s H ex) oV te)
  (hs:∀x,bq iter X.env x=pure x:=by intro _;rfl):PE X (.ListComp oV [⟨tg,iter,o9,0⟩] scope pos) (PF own.length ix wi g tt te):=
 Za3 a e (NY S) b d c hs
theorem Cq(own fr:List aj)(ix:List Nat){i:Nat}{y:aj}{e a:da}(l:X.N.Nodup)(k:X.N[i]?=ag y)(c:X.env.scope.names.lookup y=ag .local)(b:X.calm=aC)(f:PI X tg iter wi)(S:VJ X.N X.env.scope scope own fr ix=aC)
  (h:∀cl C s H ex,PG (ZH X (own++fr) scope cl C s H ex) tg g) (j:∀cl C s H ex,Ij (ZH X (own++fr) scope cl C s H ex) o9 tt) (m:∀cl C s H ex,PE (ZH X (own++fr) scope cl C s H ex) oV te)
  (d:eK (.ListComp oV [⟨tg,iter,o9,0⟩] scope pos) (ag (.Name y e)) a.line X.env=pure aC:=by rfl)
  (hs:∀x,bq iter X.env x=pure x:=by intro _;rfl):PS X (.Assign [.Name y e] (.ListComp oV [⟨tg,iter,o9,0⟩] scope pos) a) (J7 (PF own.length ix wi g tt te) (Sr i)):=
 Za4 l k c b f (NY S) h j m d hs
end
structure X7(mg:aj->Option aG):Prop where
 «len» : mg "len" = aA
 «sum» : mg "sum" = aA
 «range» : mg "range" = aA
 «enumerate» : mg "enumerate" = aA
 «zip» : mg "zip" = aA
 «tuple» : mg "tuple" = aA
 «list» : mg "list" = aA
 «all» : mg "all" = aA
 «any» : mg "any" = aA
 «isinstance» : mg "isinstance" = aA
 «int» : mg "int" = aA
 «bool» : mg "bool" = aA
 «str» : mg "str" = aA
 «min» : mg "min" = aA
 «max» : mg "max" = aA
 «sorted» : mg "sorted" = aA
 «abs» : mg "abs" = aA
 «ValueError» : mg "ValueError" = aA
 «reversed» : mg "reversed" = aA
 «set» : mg "set" = aA
abbrev Zlp(g:TG)(tb:TS)(D:Yz)(U:St)(J:It)(H:Hp):Prop:=
 ∃W:Nat->Nat->St->Hp->Prop,(∃m,W 0 m U H)/\∀i m U H,W i m U H->
   (J.stop i H/\D.nx U H)\/(J.go i H/\∃N:St->Hp->Prop,(∀U' H',N U' H'->∃m',m'<m/\W (i+1) m' U' H')/\∀x H',J.yld i H x H'->g x U H' λU2 H2=>tb { D with nx:=N,ct:=N,bk:=D.nx } U2 H2)
noncomputable def Zr(l:List Int)(i:Nat):Int:=l.getD i 0
theorem RH(l:List Int):(aD l.length).map (Zr l)=l:=by
 apply iC;intro i;rw[aU];by_cases h:i<l.length
 ·rw[aJ (by simpa using h)];simp[Zr,aJ h]
 ·rw[cK (by simpa using h),cK (by omega)];rfl
theorem ZC{f:Nat->Int}{n i:Nat}(h:i<n):Zr ((aD n).map f) i=f i:=by unfold Zr;rw[aF,aU,bz h];rfl
noncomputable def Zx(w:List (List Int))(i:Nat):List Int:=w.getD i []
theorem PM{w:List (List Int)}{i:Nat}(h:i<w.length):w[i]?=ag (Zx w i):=by unfold Zx;rw[aF,aJ h];rfl
noncomputable def ZW(w:List (List Int))(i j:Nat):Int:=Zr (Zx w i) j
structure ZA(w:List (List Int)):Prop where
 pos:1<=w.length
 few:w.length<=7
 sq:∀i,i<w.length->(Zx w i).length=w.length
 lo:∀i j,i<w.length->j<w.length->0<=ZW w i j
 hi:∀i j,i<w.length->j<w.length->ZW w i j<=9
 sym:∀i j,i<w.length->j<w.length->ZW w i j=ZW w j i
 dia:∀i,i<w.length->ZW w i i=0
noncomputable def Zga(K:aE):List V->Hp->VK->Prop:=λxs H Q=>∃p ys,xs=[.ref p]/\((SqL K H p ys/\∀l,H l=aA->Q (.ref l) (upd H l (.tup ys)))\/(SqT K H p ys/\Q (.ref p) H))
noncomputable def Za7(K:aE):List V->Hp->VK->Prop:=λxs H Q=>∃p ys,xs=[.ref p]/\(SqL K H p ys\/SqT K H p ys)/\∀l,H l=aA->Q (.ref l) (upd H l (.lst ys))
theorem Same.off{H a:Hp}{p:aK}(s:Same H a)(n:a p=aA):H p=aA:=s.free n
abbrev Tie:=Nat×Nat×Int
noncomputable def RI(M:List (List Int))(a b:Nat)(t:Int):List (List Int):=M.set a ((Zx M a).set b t)
structure MatOk(n:Nat)(M:List (List Int)):Prop where
 len:M.length=n
 row:∀i,i<n->(Zx M i).length=n
 lo:∀i j,i<n->j<n->0<=ZW M i j
 hi:∀i j,i<n->j<n->ZW M i j<=9
 sym:∀i j,i<n->j<n->ZW M i j=ZW M j i
 dia:∀i,i<n->ZW M i i=0
theorem NZ{M:List (List Int)}{a i:Nat}{r:List Int}(b:a<M.length):Zx (M.set a r) i=if a=i then r else Zx M i:=by
 unfold Zx;by_cases h:a=i
 ·subst h;simp[b]
 ·simp[h]
theorem nth_set{l:List Int}{b j:Nat}{t:Int}(a:b<l.length):Zr (l.set b t) j=if b=j then t else Zr l j:=by
 unfold Zr;by_cases h:b=j
 ·subst h;simp[a]
 ·simp[h]
theorem PN{n:Nat}{M:List (List Int)}{a b i j:Nat}{t:Int}(f:M.length=n)(c:∀i,i<n->(Zx M i).length=n)(e:a<n)(d:b<n):ZW (RI M a b t) i j=if a=i/\b=j then t else ZW M i j:=by
 show Zr (Zx (M.set a ((Zx M a).set b t)) i) j=_;rw[NZ (by omega)];by_cases h:a=i
 ·subst h;rw[oX rfl,nth_set (by rw[c a e];exact d)];by_cases q:b=j
  ·rw[oX q,oX ⟨rfl,q⟩]
  ·rw[oY q,oY (λz=>q z.2)];rfl
 ·rw[oY h,oY (λz=>h z.1)];rfl
theorem WB{n:Nat}{M:List (List Int)}{a b:Nat}{t:Int}(f:M.length=n)(c:∀i,i<n->(Zx M i).length=n)(d:a<n):(RI M a b t).length=n/\∀i,i<n->(Zx (RI M a b t) i).length=n:=by
 refine⟨by unfold RI;rw[cR];exact f,λi e=>?_⟩;show(Zx (M.set a ((Zx M a).set b t)) i).length=n;rw[NZ (by omega)];split
 ·rw[cR];exact c a d
 ·exact c i e
theorem MatOk.zero(n:Nat):MatOk n (aQ n (aQ n 0)):=by
 have r:∀i,i<n->Zx (aQ n (aQ n (0:Int))) i=aQ n 0:=λi a=>by unfold Zx;rw[aF,bc,oX a];rfl
 have z:∀i j,i<n->j<n->ZW (aQ n (aQ n (0:Int))) i j=0:=λi j a b=>by show Zr (Zx _ i) j=0;rw[r i a];unfold Zr;rw[aF,bc,oX b];rfl
 exact⟨by simp,λi a=>by rw[r i a];simp,λi j a b=>by rw[z i j a b];omega,λi j a b=>by rw[z i j a b];omega,λi j a b=>by rw[z i j a b,z j i b a],λi a=>z i i a a⟩
theorem MatOk.web{n:Nat}{M:List (List Int)}(h:MatOk n M)(b:1<=n)(a:n<=7):ZA M:=by have e:=h.len;subst e;exact⟨b,a,h.row,h.lo,h.hi,h.sym,h.dia⟩
theorem Z3(f:Nat->Int)(n:Nat):((aD (n+1)).map f).sum=((aD n).map f).sum+f n:=by rw[eQ];simp
theorem Yr{f g:Nat->Int}{n:Nat}(h:∀i,i<n->f i=g i):((aD n).map f).sum=((aD n).map g).sum:=by congr 1;apply ar;intro i a;exact h i (aW.mp a)
theorem GD(f g:Nat->Int)(n:Nat):((aD n).map λi=>f i+g i).sum=((aD n).map f).sum+((aD n).map g).sum:=by
 induction n with
 | zero=>simp
 | succ n ih=>rw[Z3,Z3,Z3,ih];omega
theorem GF(f g:Nat->Int)(n:Nat):((aD n).map λi=>f i-g i).sum=((aD n).map f).sum-((aD n).map g).sum:=by
 induction n with
 | zero=>simp
 | succ n ih=>rw[Z3,Z3,Z3,ih];omega
theorem En(c:Int)(n:Nat):((aD n).map λ_=>c).sum=n*c:=by
 induction n with
 | zero=>simp
 | succ n ih=>rw[Z3,ih];rw[show((n+1:Nat):Int)=(n:Int)+1 by omega,kf];omega
theorem MR(l:List Int):((aD l.length).map (Zr l)).sum=l.sum:=by rw[RH]
theorem Cr(e:Nat->Nat->Int)(n:Nat)(hs:∀i j,i<n->j<n->e i j=e j i)(hd:∀i,i<n->e i i=0) :
  ((aD n).map λi=>((aD n).map λj=>e i j).sum).sum=2*((aD n).map λa=>((aD (n-(a+1))).map λj=>e a (a+1+j)).sum).sum:=by
 induction n with
 | zero=>simp
 | succ n c=>
  have c:=c (λi j b h=>hs i j (by omega) (by omega)) λi b=>hd i (by omega);rw[Z3,Z3,Z3];have f:((aD n).map λi=>((aD (n+1)).map λj=>e i j).sum).sum=((aD n).map λi=>((aD n).map λj=>e i j).sum).sum+((aD n).map λi=>e i n).sum:=by rw[<-GD];apply Yr;intro i _;rw[Z3]
  have g:((aD n).map λa=>((aD (n+1-(a+1))).map λj=>e a (a+1+j)).sum).sum=((aD n).map λa=>((aD (n-(a+1))).map λj=>e a (a+1+j)).sum).sum+((aD n).map λi=>e i n).sum:=by rw[<-GD];apply Yr;intro i b;rw[show n+1-(i+1)=(n-(i+1))+1 by omega,Z3,show i+1+(n-(i+1))=n by omega]
  have d:((aD n).map λj=>e n j).sum=((aD n).map λi=>e i n).sum:=by apply Yr;intro i b;exact hs n i (by omega) (by omega)
  rw[f,g,d,hd n (by omega)];simp;omega
theorem Ky{a:Type}(n:Nat)(x:a):(aQ n [x]).flatten=aQ n x:=by simp
structure NamesOk(i:Nat)(l:List Int):Prop where
 len:l.length=i
 nd:l.Nodup
 lo:∀x∈l,0<=x
 hi:∀x∈l,x<i
theorem NamesOk.nil:NamesOk 0 []:=⟨rfl,cF,λ_ h=>by simp at h,λ_ h=>by simp at h⟩
theorem NamesOk.ins{i:Nat}{l:List Int}(h:NamesOk i l)(k:Nat):NamesOk (i+1) (l.take k++(i:Int)::l.drop k):=by
 have b:(l.take k++(i:Int)::l.drop k).Perm ((i:Int)::l):=by have:=List.perm_middle (a:=(i:Int)) (l₁:=l.take k) (l₂:=l.drop k);rw[k6] at this;exact this
 refine⟨by rw[b.length_eq,bK,h.len],?_,λx c=>?_,λx c=>?_⟩
 ·rw[b.nodup_iff,aw];exact⟨λd=>by have:=h.hi _ d;omega,h.nd⟩
 ·rcases aX.mp (b.mem_iff.mp c) with e | e
  ·omega
  ·exact h.lo x e
 ·rcases aX.mp (b.mem_iff.mp c) with e | e
  ·omega
  ·have:=h.hi x e;omega
theorem NamesOk.at{i:Nat}{l:List Int}(h:NamesOk i l){x:Nat}(a:x<i):0<=Zr l x/\Zr l x<i:=by
 have e:Zr l x=l[x]'(by rw[h.len];exact a):=by unfold Zr;rw[aF,aJ (by rw[h.len];exact a)];rfl
 rw[e];exact⟨h.lo _ (bT _),h.hi _ (bT _)⟩
theorem NamesOk.ne{i:Nat}{l:List Int}(h:NamesOk i l){x y:Nat}(b:x<i)(a:y<i)(n:x≠y):Zr l x≠Zr l y:=by
 have c:Zr l x=l[x]'(by rw[h.len];exact b):=by unfold Zr;rw[aF,aJ (by rw[h.len];exact b)];rfl
 have d:Zr l y=l[y]'(by rw[h.len];exact a):=by unfold Zr;rw[aF,aJ (by rw[h.len];exact a)];rfl
 rw[c,d];intro e;exact n ((me h.nd).mp e)
theorem lt_size{n:Nat}(h:n<=10000):n<sizeLine:=dE h (by decide)
end L2
namespace VL
open PySem PySem.Spec PyProof.Rows L2
variable {K:aE}
noncomputable def NsO(od:cg)(f:aj)(u:aG):Prop:=∀(hp:bR)(dx:aK),hp.get? dx=ag od->hp.Ns1 dx (λn=>if n=f then ag u else aA)
noncomputable def Wi(n:aj):aj:=if n = "NoWeb" then "place" else if n = "Apart" then "houses" else if n = "TooMany" then "most" else "total"
structure Nv where
 qual:aj
 params:kz
 body:bB
 scope:du
 free:aj
inductive PV where
 | non | bl (b:Bool) | int (i:Int) | str (x:aj) | ty (n:String) | exc (n:aj) | exf (n:aj) (l:PV) | clo (L:Nv) (l:PV)
 | tup (l:List PV) | lst (l:List PV) | cst (l:List PV)
 | dK (ks:List YR) (vs:List PV) | dT (ks:List (List YR)) (vs:List PV)
instance:Inhabited PV:=⟨.non⟩
mutual
/-- nothing in it can be changed -/
def ZT:PV->Bool
 | .tup l=>ZE l
 | .cst l=>ZE l
 | .lst _=>aB
 | .dK _ _=>aB
 | .dT _ _=>aB
 | .non=>aC
 | .bl _=>aC
 | .int _=>aC
 | .str _=>aC
 | .ty _=>aC
 | .exc _=>aC
 | .exf _ _=>aC
 | .clo _ l=>ZT l
def ZE:List PV->Bool
 | []=>aC
 | x::r=>ZT x&&ZE r
end
theorem Vq:∀l:List PV,ZE l=l.all ZT
 | []=>rfl
 | x::r=>by rw[ja,<-Vq r];rfl
noncomputable def KL(K:aE)(a:aK)(xs:List V):Prop:=
 ∃(o:cg) (oW:Array aG) (n:Nat),K.lookup a=ag o/\o.cls = .type "list"/\o.dict=aA/\o.data = .seq oW n/\oW.size<=sizeLine/\Vals xs oW.toList
noncomputable def CsK(K:aE)(H:Hp)(p:aK)(xs:List V):Prop:=(∃o,H p=ag (.frz o (.lst xs)))\/KL K p xs
theorem CsK.sq{K:aE}{H:Hp}{p:aK}{xs:List V}(h:CsK K H p xs):SqL K H p xs:=by
 rcases h with h | h
 ·exact .inl (.inr h)
 ·exact .inr h
noncomputable def CloAt(H:Hp)(L:Nv)(v:V)(u:aG):Prop:=∃f fo c oc e eo pm ct,v = .ref f/\H f=ag (.frz fo (.own 0))/\fo.data = .func (fu "<lambda>" L.qual L.params L.body L.scope [(L.free,e)] pm (.ref c) ct)/\H c=ag (.frz oc (.own 0))/\J5 oc L.qual/\H e=ag (.frz eo (.own 1))/\eo.data = .cell (ag u)
mutual
/-- v is the tree l in the heap H;fp: the addresses of oW lists and dicts -/
def Is(K:aE)(H:Hp):PV->V->List aK->Prop
 | .non,v,fp=>v = .non/\fp=[]
 | .bl b,v,fp=>v = .bl b/\fp=[]
 | .int i,v,fp=>v = .int i/\fp=[]
 | .str x,v,fp=>v = .str x/\fp=[]
 | .ty n,v,fp=>v = .ty n/\fp=[]
 | .exc n,v,fp=>(∃e o x C,v = .ref e/\H e=ag (.frz o (.own x))/\o.cls = .ref C/\dD K bX n=ag (ag (.ref C))/\o.dict=aA/\∃vs,o.data = .fields vs)/\fp=[]
 | .exf n l,v,fp=>(∃e o x C dx od u z,v = .ref e/\H e=ag (.frz o (.own x))/\o.cls = .ref C/\dD K bX n=ag (ag (.ref C))/\o.dict=ag dx/\(∃vs,o.data = .fields vs)/\H dx=ag (.frz od (.own dx))/\NsO od (Wi n) u/\RelV z u/\Is K H l z [])/\fp=[]
 | .clo L l,v,fp=>∃u x,CloAt H L v u/\RelV x u/\Is K H l x fp
 | .tup l,v,fp=>∃p xs,v = .ref p/\H p=ag (.tup xs)/\Iss K H l xs fp
 | .lst l,v,fp=>∃p xs fq,v = .ref p/\H p=ag (.lst xs)/\Iss K H l xs fq/\fp=p::fq
 | .cst l,v,fp=>∃p xs,v = .ref p/\CsK K H p xs/\Iss K H l xs fp
 | .dK ks l,v,fp=>∃p o5 fq,v = .ref p/\Rd H p (.dK o5)/\o5.map (·.1)=ks/\Iss K H l (o5.map (·.2)) fq/\fp=p::fq
 | .dT ks l,v,fp=>∃p o5 fq,v = .ref p/\Rd H p (.dT o5)/\o5.map (·.1)=ks/\Iss K H l (o5.map (·.2)) fq/\fp=p::fq
def Iss(K:aE)(H:Hp):List PV->List V->List aK->Prop
 | [],xs,fp=>xs=[]/\fp=[]
 | l::ls,xs,fp=>∃x r f1 f2,xs=x::r/\Is K H l x f1/\Iss K H ls r f2/\fp=f1++f2
end
noncomputable def RdK(H H':Hp)(p:aK):Prop:=(∀xs,H p=ag (.lst xs)->H' p=ag (.lst xs))/\(∀o5,Rd H p (.dK o5)->Rd H' p (.dK o5))/\∀o5,Rd H p (.dT o5)->Rd H' p (.dT o5)
theorem RdK.of{H a:Hp}{p:aK}(h:∀o,H p=ag o->a p=ag o):RdK H a p:=by
 have r:∀u,Rd H p u->Rd a p u:=λu q=>by
  rcases q with q | ⟨o,q⟩
  ·exact .inl (h _ q)
  ·exact .inr ⟨o,h _ q⟩
 exact⟨λ_=>h _,λ_=>r _,λ_=>r _⟩
structure TK2(H H':Hp):Prop where
 tup:TK H H'
 frz:∀b o xs,H b=ag (.frz o (.lst xs))->H' b=ag (.frz o (.lst xs))
 exc:∀b o x,H b=ag (.frz o (.own x))->H' b=ag (.frz o (.own x))
theorem Same.tk2{H a:Hp}(s:Same H a):TK2 H a:=⟨s.tk,λb o xs h=>s b _ h,λb o x h=>s b _ h⟩
theorem CsK.tr{K:aE}{H a:Hp}(t:TK2 H a){p:aK}{xs:List V}(h:CsK K H p xs):CsK K a p xs:=by
 rcases h with⟨o,h⟩ | h
 ·exact .inl ⟨o,t.frz p o xs h⟩
 ·exact .inr h
theorem CloAt.tr{H b:Hp}(t:TK2 H b){L:Nv}{v:V}{u:aG}(h:CloAt H L v u):CloAt b L v u:=by obtain⟨f,a,c,g,e,d,j,ct,k,l,m,p,o,i,n⟩:=h;exact⟨f,a,c,g,e,d,j,ct,k,t.exc f a 0 l,m,t.exc c g 0 p,o,t.exc e d 1 i,n⟩
mutual
theorem Is.tr{H t:Hp}(f:TK2 H t):∀(l:PV)(v:V)(fp:List aK),(∀p∈fp,RdK H t p)->Is K H l v fp->Is K t l v fp
 | .non,_,_,_,h=>by simpa only[Is] using h
 | .bl _,_,_,_,h=>by simpa only[Is] using h
 | .int _,_,_,_,h=>by simpa only[Is] using h
 | .str _,_,_,_,h=>by simpa only[Is] using h
 | .ty _,_,_,_,h=>by simpa only[Is] using h
 | .exc _,_,_,_,h=>by simp only[Is] at h ⊢;obtain⟨⟨e,o,x,C,a,b,c⟩,d⟩:=h;exact⟨⟨e,o,x,C,a,f.exc e o x b,c⟩,d⟩
 | .exf _ l,_,_,_,h=>by simp only[Is] at h ⊢;obtain⟨⟨e,o,x,C,w,y,u,z,a,b,c1,c2,c3,c4,c5,A,B,D⟩,d⟩:=h;exact⟨⟨e,o,x,C,w,y,u,z,a,f.exc e o x b,c1,c2,c3,c4,f.exc w y w c5,A,B,Is.tr f l z [] (λp s=>by simp at s) D⟩,d⟩
 | .clo L l,v,fp,hm,h=>by simp only[Is] at h ⊢;obtain⟨u,x,E,i,g⟩:=h;exact⟨u,x,E.tr f,i,Is.tr f l x fp hm g⟩
 | .tup l,v,fp,hm,h=>by simp only[Is] at h ⊢;obtain⟨p,xs,e,s,g⟩:=h;exact⟨p,xs,e,f.tup p xs s,Iss.tr f l xs fp hm g⟩
 | .lst l,v,fp,hm,h=>by simp only[Is] at h ⊢;obtain⟨p,xs,j,e,i,g,rfl⟩:=h;exact⟨p,xs,j,e,(hm p ao).1 _ i,Iss.tr f l xs j (λq k=>hm q (aR _ k)) g,rfl⟩
 | .cst l,v,fp,hm,h=>by simp only[Is] at h ⊢;obtain⟨p,xs,e,i,g⟩:=h;exact⟨p,xs,e,i.tr f,Iss.tr f l xs fp hm g⟩
 | .dK ks l,v,fp,hm,h=>by simp only[Is] at h ⊢;obtain⟨p,n,j,e,i,m,g,rfl⟩:=h;exact⟨p,n,j,e,(hm p ao).2.1 _ i,m,Iss.tr f l _ j (λq k=>hm q (aR _ k)) g,rfl⟩
 | .dT ks l,v,fp,hm,h=>by simp only[Is] at h ⊢;obtain⟨p,n,j,e,i,m,g,rfl⟩:=h;exact⟨p,n,j,e,(hm p ao).2.2 _ i,m,Iss.tr f l _ j (λq k=>hm q (aR _ k)) g,rfl⟩
theorem Iss.tr{H a:Hp}(c:TK2 H a):∀(l:List PV)(xs:List V)(fp:List aK),(∀p∈fp,RdK H a p)->Iss K H l xs fp->Iss K a l xs fp
 | [],_,_,_,h=>by simpa only[Iss] using h
 | l::ls,xs,fp,hm,h=>by simp only[Iss] at h ⊢;obtain⟨x,r,f1,d,e,g,f,rfl⟩:=h;exact⟨x,r,f1,d,e,Is.tr c l x f1 (λq b=>hm q (bA _ b)) g,Iss.tr c ls r d (λq b=>hm q (aq _ b)) f,rfl⟩
end
theorem Is.mono{H b:Hp}(s:Same H b){l:PV}{v:V}{a:List aK}(h:Is K H l v a):Is K b l v a:=Is.tr (Same.tk2 s) l v a (λp _=>RdK.of λo q=>s p o q) h
theorem Iss.mono{H b:Hp}(s:Same H b){l:List PV}{v:List V}{a:List aK}(h:Iss K H l v a):Iss K b l v a:=Iss.tr (Same.tk2 s) l v a (λp _=>RdK.of λo q=>s p o q) h
mutual
theorem Is.pure{H:Hp}:∀(l:PV)(v:V)(fp:List aK),ZT l=aC->Is K H l v fp->fp=[]
 | .non,_,_,_,h=>by simp only[Is] at h;exact h.2
 | .bl _,_,_,_,h=>by simp only[Is] at h;exact h.2
 | .int _,_,_,_,h=>by simp only[Is] at h;exact h.2
 | .str _,_,_,_,h=>by simp only[Is] at h;exact h.2
 | .ty _,_,_,_,h=>by simp only[Is] at h;exact h.2
 | .exc _,_,_,_,h=>by simp only[Is] at h;exact h.2
 | .exf _ _,_,_,_,h=>by simp only[Is] at h;exact h.2
 | .clo L l,v,fp,hp,h=>by simp only[Is] at h;obtain⟨u,x,c,b,a⟩:=h;exact Is.pure l x fp (by simpa only[ZT] using hp) a
 | .tup l,v,fp,hp,h=>by simp only[Is] at h;obtain⟨p,xs,e,_,a⟩:=h;exact Iss.pure l xs fp (by simpa only[ZT] using hp) a
 | .lst l,v,fp,hp,h=>by simp[ZT] at hp
 | .cst l,v,fp,hp,h=>by simp only[Is] at h;obtain⟨p,xs,e,_,a⟩:=h;exact Iss.pure l xs fp (by simpa only[ZT] using hp) a
 | .dK ks l,v,fp,hp,h=>by simp[ZT] at hp
 | .dT ks l,v,fp,hp,h=>by simp[ZT] at hp
theorem Iss.pure{H:Hp}:∀(l:List PV)(xs:List V)(fp:List aK),ZE l=aC->Iss K H l xs fp->fp=[]
 | [],_,_,_,h=>by simp only[Iss] at h;exact h.2
 | l::ls,xs,fp,hp,h=>by simp only[Iss] at h;simp only[ZE,bC] at hp;obtain⟨x,r,f1,b,e,c,a,rfl⟩:=h;rw[Is.pure l x f1 hp.1 c,Iss.pure ls r b hp.2 a];rfl
end
section
variable {H H':Hp}
theorem Iss.len:∀{l:List PV}{xs:List V}{fp:List aK},Iss K H l xs fp->xs.length=l.length
 | [],xs,fp,h=>by simp only[Iss] at h;rw[h.1];rfl
 | l::ls,xs,fp,h=>by simp only[Iss] at h;obtain⟨x,r,f1,b,rfl,_,a,_⟩:=h;rw[bK,bK,a.len]
theorem Iss.get:∀{l:List PV}{xs:List V}{fp:List aK}{i:Nat}{a:PV},Iss K H l xs fp->l[i]?=ag a->∃x f1,xs[i]?=ag x/\Is K H a x f1/\∀p∈f1,p∈fp
 | [],xs,fp,i,a,h,e=>by simp at e
 | l::ls,xs,fp,0,a,h,e=>by simp only[Iss] at h;obtain⟨x,r,f1,f,rfl,m,_,rfl⟩:=h;simp at e;subst e;exact⟨x,f1,rfl,m,λp b=>bA _ b⟩
 | l::ls,xs,fp,i+1,a,h,e=>by simp only[Iss] at h;obtain⟨x,r,f1,f,rfl,_,d,rfl⟩:=h;obtain⟨y,g,c,j,k⟩:=d.get (i:=i) (a:=a) (by simpa using e);exact⟨y,g,by simpa using c,j,λp b=>aq _ (k p b)⟩
theorem Iss.get'{l:List PV}{xs:List V}{b:List aK}{i:Nat}{x:V}(h:Iss K H l xs b)(e:xs[i]?=ag x):∃a f1,l[i]?=ag a/\Is K H a x f1/\∀p∈f1,p∈b:=by
 have c:i<l.length:=by rw[<-h.len];exact(aS.mp e).1
 obtain⟨y,f1,d,g,f⟩:=h.get (aJ c);rw[e] at d;cases d;exact⟨_,f1,aJ c,g,f⟩
theorem Iss.nil:Iss K H [] [] []:=by simp[Iss]
theorem Iss.cons{l:PV}{ls:List PV}{x:V}{xs:List V}{f1 a:List aK}(c:Is K H l x f1)(b:Iss K H ls xs a):Iss K H (l::ls) (x::xs) (f1++a):=by exact⟨x,xs,f1,a,rfl,c,b,rfl⟩
theorem Iss.inv{l:PV}{ls:List PV}{xs:List V}{a:List aK}(h:Iss K H (l::ls) xs a):∃x r f1 f2,xs=x::r/\Is K H l x f1/\Iss K H ls r f2/\a=f1++f2:=by simpa only[Iss] using h
theorem Iss.append:∀{l m:List PV}{xs ys:List V}{f1 f2:List aK},Iss K H l xs f1->Iss K H m ys f2->Iss K H (l++m) (xs++ys) (f1++f2)
 | [],m,xs,ys,f1,f2,h,h'=>by simp only[Iss] at h;rw[h.1,h.2];exact h'
 | l::ls,m,xs,ys,f1,f2,h,h'=>by obtain⟨x,r,c,d,rfl,a,b,rfl⟩:=h.inv;rw[fX];exact Iss.cons a (b.append h')
theorem Iss.one{l:PV}{x:V}{f:List aK}(h:Is K H l x f):Iss K H [l] [x] f:=by
 have:=Iss.cons h (Iss.nil)
 rwa [cL] at this
theorem Iss.take:∀{l:List PV}{xs:List V}{fp:List aK}(n:Nat),Iss K H l xs fp->∃f1,Iss K H (l.take n) (xs.take n) f1/\∀p∈f1,p∈fp
 | l,xs,fp,0,h=>⟨[],by rw[n6,n6];exact Iss.nil,λp c=>by simp at c⟩
 | [],xs,fp,n+1,h=>by simp only[Iss] at h;rw[h.1];exact⟨[],by rw[oA,oA];exact Iss.nil,λp c=>by simp at c⟩
 | l::ls,xs,fp,n+1,h=>by
  obtain⟨x,r,f1,g,rfl,f,d,rfl⟩:=h.inv;obtain⟨e,a,b⟩:=d.take n;refine⟨f1++e,Iss.cons f a,λp c=>?_⟩;rcases ah.mp c with h | h
  ·exact bA _ h
  ·exact aq _ (b p h)
theorem Iss.drop:∀{l:List PV}{xs:List V}{fp:List aK}(n:Nat),Iss K H l xs fp->∃f1,Iss K H (l.drop n) (xs.drop n) f1/\∀p∈f1,p∈fp
 | l,xs,fp,0,h=>⟨fp,h,λp c=>c⟩
 | [],xs,fp,n+1,h=>by simp only[Iss] at h;rw[h.1];exact⟨[],by rw[oB,oB];exact Iss.nil,λp c=>by simp at c⟩
 | l::ls,xs,fp,n+1,h=>by obtain⟨x,r,f1,f,rfl,g,d,rfl⟩:=h.inv;obtain⟨e,a,b⟩:=d.drop n;exact⟨e,a,λp c=>aq _ (b p c)⟩
theorem Iss.setP:∀{l:List PV}{xs:List V}{a:PV}{x:V}(i:Nat),ZE l=aC->ZT a=aC->Iss K H l xs []->Is K H a x []->Iss K H (l.set i a) (xs.set i x) []
 | [],xs,a,x,i,_,_,h,_=>by simp only[Iss] at h;rw[h.1];simp only[List.set_nil];exact Iss.nil
 | l::ls,xs,a,x,0,hp,_,h,ha=>by simp only[ZE,bC] at hp;obtain⟨y,r,f1,g,rfl,_,b,e⟩:=h.inv;have c:=Iss.pure _ _ _ hp.2 b;subst c;exact Iss.cons (f1:=[]) ha b
 | l::ls,xs,a,x,i+1,hp,hq,h,ha=>by simp only[ZE,bC] at hp;obtain⟨y,r,f1,g,rfl,d,b,e⟩:=h.inv;have f:=Is.pure _ _ _ hp.1 d;have c:=Iss.pure _ _ _ hp.2 b;subst f c;exact Iss.cons (f1:=[]) d (Iss.setP i hp.2 hq b ha)
theorem Is.int_inv{i:Int}{v:V}{a:List aK}(h:Is K H (.int i) v a):v = .int i/\a=[]:=by simpa only[Is] using h
theorem Is.int(i:Int):Is K H (.int i) (.int i) []:=by simp[Is]
theorem Is.bl(i:Bool):Is K H (.bl i) (.bl i) []:=by simp[Is]
theorem Is.non:Is K H .non .non []:=by simp[Is]
theorem Is.str(x:aj):Is K H (.str x) (.str x) []:=by simp[Is]
theorem Is.ty(n:String):Is K H (.ty n) (.ty n) []:=by simp[Is]
theorem Is.bl_inv{i:Bool}{v:V}{a:List aK}(h:Is K H (.bl i) v a):v = .bl i/\a=[]:=by simpa only[Is] using h
theorem Is.str_inv{i:aj}{v:V}{a:List aK}(h:Is K H (.str i) v a):v = .str i/\a=[]:=by simpa only[Is] using h
theorem Is.non_inv{v:V}{a:List aK}(h:Is K H .non v a):v = .non/\a=[]:=by simpa only[Is] using h
theorem Is.ty_inv{n:String}{v:V}{a:List aK}(h:Is K H (.ty n) v a):v = .ty n/\a=[]:=by simpa only[Is] using h
theorem Is.tup_inv{l:List PV}{v:V}{a:List aK}(h:Is K H (.tup l) v a):∃p xs,v = .ref p/\H p=ag (.tup xs)/\Iss K H l xs a:=by simpa only[Is] using h
theorem Is.tup{l:List PV}{p:aK}{xs:List V}{a:List aK}(h:H p=ag (.tup xs))(b:Iss K H l xs a):Is K H (.tup l) (.ref p) a:=by simp only[Is];exact⟨p,xs,rfl,h,b⟩
theorem Is.lst_inv{l:List PV}{v:V}{a:List aK}(h:Is K H (.lst l) v a):∃p xs fq,v = .ref p/\H p=ag (.lst xs)/\Iss K H l xs fq/\a=p::fq:=by simpa only[Is] using h
theorem Is.lst{l:List PV}{p:aK}{xs:List V}{a:List aK}(h:H p=ag (.lst xs))(b:Iss K H l xs a):Is K H (.lst l) (.ref p) (p::a):=by simp only[Is];exact⟨p,xs,a,rfl,h,b,rfl⟩
theorem Is.cst_inv{l:List PV}{v:V}{a:List aK}(h:Is K H (.cst l) v a):∃p xs,v = .ref p/\CsK K H p xs/\Iss K H l xs a:=by simpa only[Is] using h
theorem Is.cst{l:List PV}{p:aK}{xs:List V}{a:List aK}(h:CsK K H p xs)(b:Iss K H l xs a):Is K H (.cst l) (.ref p) a:=by simp only[Is];exact⟨p,xs,rfl,h,b⟩
theorem Is.dT_inv{b:List (List YR)}{l:List PV}{v:V}{a:List aK}(h:Is K H (.dT b l) v a):∃p o5 fq,v = .ref p/\Rd H p (.dT o5)/\o5.map (·.1)=b/\Iss K H l (o5.map (·.2)) fq/\a=p::fq:=by simpa only[Is] using h
theorem Is.dT{c:List (List YR)}{l:List PV}{p:aK}{a:List (List YR×V)}{b:List aK}(h:H p=ag (.dT a))(d:a.map (·.1)=c)(e:Iss K H l (a.map (·.2)) b):Is K H (.dT c l) (.ref p) (p::b):=by simp only[Is];exact⟨p,a,b,rfl,.inl h,d,e,rfl⟩
theorem Is.dK_inv{b:List YR}{l:List PV}{v:V}{a:List aK}(h:Is K H (.dK b l) v a):∃p o5 fq,v = .ref p/\Rd H p (.dK o5)/\o5.map (·.1)=b/\Iss K H l (o5.map (·.2)) fq/\a=p::fq:=by simpa only[Is] using h
theorem Is.dK{c:List YR}{l:List PV}{p:aK}{a:List (YR×V)}{b:List aK}(h:H p=ag (.dK a))(d:a.map (·.1)=c)(e:Iss K H l (a.map (·.2)) b):Is K H (.dK c l) (.ref p) (p::b):=by simp only[Is];exact⟨p,a,b,rfl,.inl h,d,e,rfl⟩
end
abbrev iL(l:List Int):List PV:=l.map PV.int
theorem Z5(l:List Int):ZE (iL l)=aC:=by rw[Vq,bN];intro x a;obtain⟨i,_,rfl⟩:=bJ.mp a;rfl
theorem Iss.iL{H:Hp}:∀{l:List Int}{xs:List V}{fp:List aK},Iss K H (VL.iL l) xs fp->xs=l.map V.int/\fp=[]
 | [],xs,fp,h=>by simpa only[VL.iL,fL,Iss] using h
 | i::l,xs,fp,h=>by obtain⟨x,r,f1,c,rfl,b,a,rfl⟩:=Iss.inv (show Iss K H (PV.int i::VL.iL l) xs fp from h);obtain⟨rfl,rfl⟩:=b.int_inv;obtain⟨rfl,rfl⟩:=a.iL;exact⟨rfl,rfl⟩
theorem Iss.ofInts{H:Hp}:∀(l:List Int),Iss K H (VL.iL l) (l.map V.int) []
 | []=>Iss.nil
 | i::l=>Iss.cons (f1:=[]) (Is.int i) (Iss.ofInts l)
end VL
namespace VL
open PySem PySem.Spec PyProof.Rows L2
variable {K:aE}
abbrev RJ:=L2.St
abbrev ZG:=List (Option PV)
abbrev XE:=ZG->Option PV
structure EnvIs(K:aE)(Rm:aK->Prop)(H:Hp)(s:ZG)(U:RJ):Prop where
 is:∀(i:Nat) l,s[i]?=ag (ag l)->∃v fp,U[i]?=ag (ag v)/\Is K H l v fp/\∀p∈fp,¬Rm p
theorem EnvIs.mono{f:aK->Prop}{H d:Hp}{s:ZG}{U:RJ}(h:EnvIs K f H s U)(e:Same H d):EnvIs K f d s U:=⟨λi l q=>by
 obtain⟨v,g,a,b,c⟩:=h.is i l q;exact⟨v,g,a,b.mono e,c⟩⟩
theorem EnvIs.free{e:aK->Prop}{H:Hp}{s:ZG}{U:RJ}(h:EnvIs K e H s U):EnvIs K (λ_=>False) H s U:=⟨λi l q=>by
 obtain⟨v,d,a,b,c⟩:=h.is i l q;exact⟨v,d,a,b,λ_ _ z=>z⟩⟩
theorem Same.mut{H a:Hp}(e:Same H a){p:aK}(h:Uq (H p)):Uq (a p):=by
 cases q:H p with
 | none=>rw[q] at h;exact h.elim
 | some o=>rw[e p o q,<-q];exact h
theorem Xj{H:Hp}{p:aK}(h:Uq (H p)):H p≠aA:=λz=>by rw[z] at h;exact h
noncomputable def tF(K:aE)(f:XE):TE:=λU H Q=>∃(Rm:aK->Prop) (s:ZG) (l:PV),(∀p,Rm p->Uq (H p))/\EnvIs K Rm H s U/\f s=ag l/\∀v H' fp,Same H H'->Is K H' l v fp->(∀p∈fp,¬Rm p)->Q v H'
noncomputable def tM(K:aE)(f:XE):TE:=λU H Q=>∃(s:ZG) (l:PV),EnvIs K (λ_=>False) H s U/\f s=ag l/\∀v H' fp,Same H H'->Is K H' l v fp->fp.Nodup->(∀p∈fp,H p=aA/\Uq (H' p))->Q v H'
noncomputable def VE(X:Cx)(e:bB)(f:XE):Prop:=PE X e (tF X.K f)
noncomputable def VM(X:Cx)(e:bB)(f:XE):Prop:=PE X e (tM X.K f)
section
variable {X:Cx} {e:bB} {f g:XE} {t t':TE}
theorem PE.imp(h:PE X e t)(i:∀U H Q,t' U H Q->t U H Q):PE X e t':=λa s U H Q I q=>h a s U H Q I (i U H Q q)
theorem VM.ve(h:VM X e f):VE X e f:=PE.imp h λU H Q ⟨g,s,l,hd,env,e,k⟩=>
 ⟨s,l,env.free,e,λv c d a i _ n=>k v c d a i λp b z=>Xj (hd p z) (n p b).1⟩
noncomputable def eP(f:XE):XE:=λs=>(f s).bind λl=>if ZT l=aC then ag l else aA
theorem Za8{s:ZG}{l:PV}(h:eP f s=ag l):f s=ag l/\ZT l=aC:=by
 unfold eP at h
 cases q:f s with
 | none=>rw[q] at h;cases h
 | some a=>
  rw[q] at h;simp only[aV] at h;split at h
  ·cases h;exact⟨rfl,by assumption⟩
  ·cases h
theorem VE.pure(h:VE X e f):VM X e (eP f):=PE.imp h λU H Q ⟨s,l,env,e,k⟩=>by
 obtain⟨c,a⟩:=Za8 e;refine⟨λ_=>False,s,l,λ_ z=>z.elim,env,c,λv g j b i n=>?_⟩;have:=Is.pure l v j a i;subst this;exact k v g [] b i cF λp d=>by simp at d
end
noncomputable def Za(i:Nat):XE:=λs=>(s[i]?).join
noncomputable def eC(l:PV):XE:=λ_=>ag l
theorem N0{i:Nat}{s:ZG}{l:PV}(h:Za i s=ag l):s[i]?=ag (ag l):=by
 unfold Za at h
 cases q:s[i]? with
 | none=>rw[q] at h;cases h
 | some o=>rw[q] at h;cases o with
  | none=>cases h
  | some a=>cases h;rfl
section
variable {X:Cx} {pos:da}
theorem GG{e:bB}{i:Nat}(h:PE X e (TV i)):VE X e (Za i):=PE.imp h λU H Q ⟨f,s,l,hd,env,e,k⟩=>by obtain⟨v,d,a,b,c⟩:=env.is i l (N0 e);exact⟨v,a,k v H d (Same.refl H) b c⟩
theorem Cs{e:bB}{v:V}{l:PV}(h:PE X e (tC v))(a:∀H,Is X.K H l v []):VE X e (eC l):=PE.imp h λU H Q ⟨d,s,c,hd,env,e,k⟩=>by
 cases e;exact k v H [] (Same.refl H) (a H) λp b=>by simp at b
theorem Zf{i j}:VE X (.Constant (.int i) j pos) (eC (.int i)):=Cs Ze9 λ_=>Is.int i
theorem TF{i j}:VE X (.Constant (.bool i) j pos) (eC (.bl i)):=Cs Zib λ_=>Is.bl i
theorem MS{j}:VE X (.Constant .none j pos) (eC .non):=Cs Zfa λ_=>Is.non
end
noncomputable def RB(K:aE)(r:R2)(g:PV->PV->Option PV):Prop:=∀(H:Hp)(x y:V)(a b l:PV)(fa fb:List aK),Is K H a x fa->Is K H b y fb->g a b=ag l->∀Q:VK,
 (∀v H' fp,Same H H'->Is K H' l v fp->(∀p∈fp,p∈fa\/p∈fb\/H p=aA)->Q v H')->r x y H Q
noncomputable def Zk(g:PV->PV->Option PV)(a b:XE):XE:=λs=>(a s).bind λx=>(b s).bind λy=>g x y
theorem Vr{g:PV->PV->Option PV}{a b:XE}{s:ZG}{l:PV}(h:Zk g a b s=ag l):∃x y,a s=ag x/\b s=ag y/\g x y=ag l:=by
 unfold Zk at h
 cases q:a s with
 | none=>rw[q] at h;cases h
 | some x=>cases q2:b s with
  | none=>rw[q,q2] at h;cases h
  | some y=>rw[q,q2] at h;exact⟨x,y,rfl,rfl,h⟩
section
variable {X:Cx} {a b:bB} {fa fb:XE} {pos:da}
theorem GH{r:R2}{g:PV->PV->Option PV}(m:RB K r g):∀U H Q,tF K (Zk g fa fb) U H Q->tOp r (tF K fa) (tF K fb) U H Q:=λU H Q ⟨c,s,l,hd,env,e,k⟩=>by
 obtain⟨b,d,j,A,e⟩:=Vr e;refine⟨c,s,b,hd,env,j,λx E f1 s1 B D=>⟨c,s,d,λp a=>Same.mut s1 (hd p a),env.mono s1,A,λy f w s2 i n=>?_⟩⟩;refine m f x y b d l f1 w (B.mono s2) i e Q λv C o q t u=>k v C o (s1.trans (s2.trans q)) t λp a z=>?_;rcases u p a with h | h | h
 ·exact D p h z
 ·exact n p h z
 ·exact Xj (Same.mut (s1.trans s2) (hd p z)) h
theorem W7{op:nQ}{r:R2}{g:PV->PV->Option PV}(c:Sm X (dj op) r)(f:RB X.K r g)(e:VE X a fa)(d:VE X b fb):VE X (.BinOp a op b pos) (Zk g fa fb):=
 PE.imp (Gq c e d) (GH f)
theorem PQ{op:nP}{r:R2}{g:PV->PV->Option PV}(d:Sm X (eJ op) r)(h:RB X.K r g)(f:VE X a fa)(e:VE X b fb)(c:cY op b=aB):VE X (.Compare a [op] [b] pos) (Zk g fa fb):=
 PE.imp (Zak d f e c) (GH h)
theorem Zja{r:R2}{g:PV->PV->Option PV}(c:IxR X r)(f:RB X.K r g)(e:VE X a fa)(d:VE X b fb)(hs:MI b):VE X (.Subscript a b pos) (Zk g fa fb):=
 PE.imp (Kp c e d hs) (GH f)
end
noncomputable def gI(g:Int->Int->Int):PV->PV->Option PV
 | .int i,.int j=>ag (.int (g i j))
 | _,_=>aA
noncomputable def gB(g:Int->Int->Bool):PV->PV->Option PV
 | .int i,.int j=>ag (.bl (g i j))
 | _,_=>aA
noncomputable def Ct(C:Int->Int->Prop)[∀i j,Decidable (C i j)](g:Int->Int->Int):PV->PV->Option PV
 | .int i,.int j=>if C i j then ag (.int (g i j)) else aA
 | _,_=>aA
theorem GI{g:Int->Int->Int}{a b l:PV}(h:gI g a b=ag l):∃i j,a = .int i/\b = .int j/\l = .int (g i j):=by
 unfold gI at h;split at h
 ·cases h;exact⟨_,_,rfl,rfl,rfl⟩
 ·cases h
theorem Za9{g:Int->Int->Bool}{a b l:PV}(h:gB g a b=ag l):∃i j,a = .int i/\b = .int j/\l = .bl (g i j):=by
 unfold gB at h;split at h
 ·cases h;exact⟨_,_,rfl,rfl,rfl⟩
 ·cases h
theorem Cu{C:Int->Int->Prop}[∀i j,Decidable (C i j)]{g:Int->Int->Int}{a b l:PV}(h:Ct C g a b=ag l):∃i j,a = .int i/\b = .int j/\C i j/\l = .int (g i j):=by
 unfold Ct at h;split at h
 ·split at h
  ·cases h;exact⟨_,_,rfl,rfl,by assumption,rfl⟩
  ·cases h
 ·cases h
theorem Zjb(g:Int->Int->Int):RB K (rI0 λi j=>.int (g i j)) (gI g):=λH x y a b l h fb d c e Q k=>by obtain⟨i,j,rfl,rfl,rfl⟩:=GI e;exact⟨i,j,d.int_inv.1,c.int_inv.1,k _ H [] (Same.refl H) (Is.int _) λp f=>by simp at f⟩
theorem Cv(g:Int->Int->Bool):RB K (rI0 λi j=>.bl (g i j)) (gB g):=λH x y a b l h fb d c e Q k=>by obtain⟨i,j,rfl,rfl,rfl⟩:=Za9 e;exact⟨i,j,d.int_inv.1,c.int_inv.1,k _ H [] (Same.refl H) (Is.bl _) λp f=>by simp at f⟩
theorem N1(C:Int->Int->Prop)[∀i j,Decidable (C i j)](g:Int->Int->Int):RB K (rI C λi j=>.int (g i j)) (Ct C g):=λH x y a b l m fb d h e Q k=>by obtain⟨i,j,rfl,rfl,c,rfl⟩:=Cu e;exact⟨i,j,d.int_inv.1,h.int_inv.1,c,k _ H [] (Same.refl H) (Is.int _) λp f=>by simp at f⟩
instance (i j:Int):Decidable (CMul i j):=by unfold CMul;infer_instance
instance (i j:Int):Decidable (Eb i j):=by unfold Eb;infer_instance
instance (i j:Int):Decidable (Zd4 i j):=by unfold Zd4;infer_instance
instance (i j:Int):Decidable (D4 i j):=by unfold D4;infer_instance
abbrev Z6:=gI (· + ·)
abbrev Xk:=gI (· - ·)
abbrev NC:=Ct CMul (· * ·)
abbrev SA:=Ct Eb (· / ·)
abbrev X1:=Ct (λ_ j=>0<j) (· % ·)
abbrev Kz:=Ct D4 (λi j=>i^j.toNat)
abbrev GJ:=gB (λi j=>decide (i<j))
abbrev DO:=gB (λi j=>decide (j<i))
abbrev oGe:=gB (λi j=>decide (j<=i))
section
variable {X:Cx} {a b:bB} {fa fb:XE} {pos:da}
theorem ZX(d:VE X a fa)(c:VE X b fb):VE X (.BinOp a .Add b pos) (Zk Z6 fa fb):=W7 Zfs (Zjb _) d c
theorem Yi(d:VE X a fa)(c:VE X b fb):VE X (.BinOp a .Sub b pos) (Zk Xk fa fb):=W7 Zft (Zjb _) d c
theorem PR(d:VE X a fa)(c:VE X b fb):VE X (.BinOp a .Mult b pos) (Zk NC fa fb):=W7 Zfu (N1 _ _) d c
theorem XU(d:VE X a fa)(c:VE X b fb):VE X (.BinOp a .FloorDiv b pos) (Zk SA fa fb):=W7 Zaj (N1 _ _) d c
theorem Y1(d:VE X a fa)(c:VE X b fb):VE X (.BinOp a .Mod b pos) (Zk X1 fa fb):=W7 Zfv (N1 _ _) d c
theorem MT(d:VE X a fa)(c:VE X b fb):VE X (.BinOp a .Pow b pos) (Zk Kz fa fb):=W7 Zfw (N1 _ _) d c
theorem Zjd(d:VE X a fa)(c:VE X b fb):VE X (.Compare a [.Lt] [b] pos) (Zk GJ fa fb):=PQ Zd5 (Cv _) d c (VH _)
theorem Cw(d:VE X a fa)(c:VE X b fb):VE X (.Compare a [.Gt] [b] pos) (Zk DO fa fb):=PQ Zd6 (Cv _) d c (VH _)
end
noncomputable def ZJ:PV->PV->Option PV
 | .lst l,.int i=>Rz l i
 | .cst l,.int i=>Rz l i
 | .tup l,.int i=>Rz l i
 | .str z,.int i=>if z.length<=sizeLine then(Rz z.cps.toList i).map λc=>.str ⟨#[c]⟩ else aA
 | _,_=>aA
theorem Ik{l:List PV}{xs:List V}{H:Hp}{b:List aK}{i:Int}{a:PV}(h:Iss K H l xs b)(e:Rz l i=ag a):∃x f1,Rz xs i=ag x/\Is K H a x f1/\∀p∈f1,p∈b:=by
 unfold Rz at e ⊢;rw[h.len]
 cases q:Kd l.length i with
 | none=>rw[q] at e;cases e
 | some j=>rw[q] at e;exact h.get e
theorem Zje:RB K (rIx K) ZJ:=λH x y a b l s fb m n e Q k=>by
 unfold ZJ at e;split at e
 ·obtain⟨p,xs,o,rfl,d,f,rfl⟩:=m.lst_inv;obtain⟨z,f1,g,h,i⟩:=Ik f e;exact .inl ⟨p,xs,_,z,rfl,n.int_inv.1,SqL.of d,g,k z H f1 (Same.refl H) h λq j=>.inl (aR _ (i q j))⟩
 ·obtain⟨p,xs,rfl,d,f⟩:=m.cst_inv;obtain⟨z,f1,g,h,i⟩:=Ik f e;exact .inl ⟨p,xs,_,z,rfl,n.int_inv.1,d.sq,g,k z H f1 (Same.refl H) h λq j=>.inl (i q j)⟩
 ·obtain⟨p,xs,rfl,d,f⟩:=m.tup_inv;obtain⟨z,f1,g,h,i⟩:=Ik f e;exact .inr (.inl ⟨p,xs,_,z,rfl,n.int_inv.1,SqT.of d,g,k z H f1 (Same.refl H) h λq j=>.inl (i q j)⟩)
 ·split at e
  ·cases q:Rz _ _ with
   | none=>rw[q] at e;cases e
   | some c=>
    rw[q] at e;cases e;exact .inr (.inr ⟨_,_,c,m.str_inv.1,n.int_inv.1,by assumption,q,k _ H [] (Same.refl H) (Is.str _) λp d=>by simp at d⟩)
  ·cases e
 ·cases e
section
variable {X:Cx} {a b:bB} {fa fb:XE} {pos:da}
theorem Zh(d:VE X a fa)(c:VE X b fb)(hs:MI b:=by exact λ_ _=>rfl):VE X (.Subscript a b pos) (Zk ZJ fa fb):=Zja Zf2 Zje d c hs
end
abbrev XT:=ZG->Option Bool
noncomputable def KA(K:aE)(f:XT):TT:=λU H Q=>∃(Rm:aK->Prop) (s:ZG) (c:Bool),(∀p,Rm p->Uq (H p))/\EnvIs K Rm H s U/\f s=ag c/\∀H',Same H H'->Q c H'
noncomputable def VT(X:Cx)(e:bB)(f:XT):Prop:=PT X e (KA X.K f)
noncomputable def VW(X:Cx)(e:bB)(f:XT):Prop:=PW X e (KA X.K f)
section
variable {X:Cx} {e:bB} {f:XT}
theorem PT.imp{t t':TT}(h:PT X e t)(i:∀U H Q,t' U H Q->t U H Q):PT X e t':=λa s U H Q I q=>h a s U H Q I (i U H Q q)
theorem PW.imp{t t':TT}(h:PW X e t)(i:∀U H Q,t' U H Q->t U H Q):PW X e t':=λa b s U H Q I q=>h a b s U H Q I (i U H Q q)
theorem VW.vt(h:VW X e f):VT X e f:=PW.pt h
end
noncomputable def xB(f:XE):XT:=λs=>match f s with | some (.bl c)=>ag c | _=>aA
theorem SD{f:XE}{s:ZG}{c:Bool}(h:xB f s=ag c):f s=ag (.bl c):=by
 unfold xB at h;split at h
 ·cases h;assumption
 ·cases h
noncomputable def Zjf:PV->Option Bool
 | .non=>ag aB
 | .bl b=>ag b
 | .int i=>ag (i != 0)
 | .str y=>if y.length<=sizeLine then ag ((y.length:Int) != 0) else aA
 | .lst l=>ag !l.isEmpty
 | .cst l=>ag !l.isEmpty
 | .tup l=>ag !l.isEmpty
 | _=>aA
noncomputable def xV(f:XE):XT:=λs=>(f s).bind Zjf
section
variable {X:Cx} {a b c:bB} {o6:List bB} {fa fb:XE} {ga gb:XT} {pos:da}
theorem X8(h:VE X a fa)(g:∀whole,l3 a X.env whole=(do let v <-whole;mJ a.pos;holding [v] (truthy v)):=by intro _;rfl):VT X a (xB fa):=
 PT.imp (Zfb h g) λU H Q ⟨d,s,c,hd,env,e,k⟩=>⟨d,s,.bl c,hd,env,SD e,λv f j b i n=>⟨c,i.bl_inv.1,k f b⟩⟩
theorem Cy:∀U H Q,KA K (xB fa) U H Q->Gr (tF K fa) U H Q:=λU H Q ⟨d,s,c,hd,env,e,k⟩=>⟨d,s,.bl c,hd,env,SD e,λv a f b i n=>⟨c,i.bl_inv.1,k a b⟩⟩
theorem Il{t t':TE}(i:∀U H Q,t' U H Q->t U H Q):∀U H Q,Gr t' U H Q->Gr t U H Q:=λU H Q h=>i U H _ h
theorem TZ{op:nP}{r:R2}{g:PV->PV->Option PV}(d:Sm X (eJ op) r)(i:RB X.K r g)(f:VE X a fa)(e:VE X b fb)(c:cY op b=aB):VT X (.Compare a [op] [b] pos) (xB (Zk g fa fb)):=
 PT.imp (Zal d f e c) λU H Q h=>Il (GH i) U H Q (Cy U H Q h)
theorem KC(d:VE X a fa)(c:VE X b fb):VT X (.Compare a [.Lt] [b] pos) (xB (Zk GJ fa fb)):=TZ Zd5 (Cv _) d c (VH _)
theorem Zed(d:VE X a fa)(c:VE X b fb):VT X (.Compare a [.Gt] [b] pos) (xB (Zk DO fa fb)):=TZ Zd6 (Cv _) d c (VH _)
theorem Zee(d:VE X a fa)(c:VE X b fb):VT X (.Compare a [.GtE] [b] pos) (xB (Zk oGe fa fb)):=TZ Zis (Cv _) d c (VH _)
noncomputable def Im(a b:XT):XT:=λs=>(a s).bind λc=>if c=aC then b s else ag aB
noncomputable def Ke(a b:XT):XT:=λs=>(a s).bind λc=>if c=aC then ag aC else b s
noncomputable def Wj(a:XT):XT:=λs=>(a s).map not
theorem Zba:∀U H Q,KA K (Im ga gb) U H Q->Zic (KA K ga) (KA K gb) U H Q:=λU H Q ⟨a,s,c,hd,env,e,k⟩=>by
 unfold Im at e
 cases q:ga s with
 | none=>rw[q] at e;cases e
 | some d=>
  rw[q] at e;refine⟨a,s,d,hd,env,q,λf s1=>?_⟩
  cases d with
  | true=>
   exact⟨a,s,c,λp g=>Same.mut s1 (hd p g),env.mono s1,e,λb s2=>k b (s1.trans s2)⟩
  | false=>
   cases e;exact k f s1
theorem Zgb:∀U H Q,KA K (Ke ga gb) U H Q->tOr (KA K ga) (KA K gb) U H Q:=λU H Q ⟨a,s,c,hd,env,e,k⟩=>by
 unfold Ke at e
 cases q:ga s with
 | none=>rw[q] at e;cases e
 | some d=>
  rw[q] at e;refine⟨a,s,d,hd,env,q,λf s1=>?_⟩
  cases d with
  | true=>
   cases e;exact k f s1
  | false=>
   exact⟨a,s,c,λp g=>Same.mut s1 (hd p g),env.mono s1,e,λb s2=>k b (s1.trans s2)⟩
theorem GK(b:VT X a ga):VW X (.BoolOp .And [a] pos) ga:=Zaf b
theorem T1(b:VT X a ga):VW X (.BoolOp .Or [a] pos) ga:=Zfc b
theorem Cz(d:VT X a ga)(c:VW X (.BoolOp .And (b::o6) pos) gb):VW X (.BoolOp .And (a::b::o6) pos) (Im ga gb):=PW.imp (Zfd d c) Zba
theorem Us(d:VT X a ga)(c:VW X (.BoolOp .Or (b::o6) pos) gb):VW X (.BoolOp .Or (a::b::o6) pos) (Ke ga gb):=PW.imp (Zid d c) Zgb
theorem WC(b:VT X a ga):VT X (.UnaryOp .Not a pos) (Wj ga):=PT.imp (Zfe b) λU H Q ⟨f,s,c,hd,env,e,k⟩=>by
 unfold Wj at e
 cases q:ga s with
 | none=>rw[q] at e;cases e
 | some d=>rw[q] at e;cases e;exact⟨f,s,d,hd,env,q,k⟩
theorem CA(g:VE X a fa)(t:∀whole,l3 a X.env whole=(do let v <-whole;mJ a.pos;holding [v] (truthy v)):=by intro _;rfl):VT X a (xV fa):=
 PT.imp (D5 g t) λU H Q ⟨m,s,c,hd,env,e,k⟩=>by
 unfold xV at e
 cases q:fa s with
 | none=>rw[q] at e;cases e
 | some l=>
  rw[q] at e;simp only[aV] at e;refine⟨m,s,l,hd,env,q,λv o u h i n=>⟨c,?_,k o h⟩⟩
  cases l with
  | non=>rw[i.non_inv.1];cases e;rfl
  | bl b=>rw[i.bl_inv.1];cases e;rfl
  | int j=>rw[i.int_inv.1];cases e;rfl
  | str y=>
   rw[i.str_inv.1];simp only[Zjf] at e;split at e
   ·cases e;exact⟨by assumption,rfl⟩
   ·cases e
  | lst l=>
   obtain⟨p,xs,w,rfl,f,d,_⟩:=i.lst_inv;cases e;refine .inl ⟨xs,SqL.of f,?_⟩;have:=d.len;cases xs<;>cases l<;>simp at this ⊢
  | cst l=>
   obtain⟨p,xs,rfl,f,d⟩:=i.cst_inv;cases e;refine .inl ⟨xs,f.sq,?_⟩;have:=d.len;cases xs<;>cases l<;>simp at this ⊢
  | tup l=>
   obtain⟨p,xs,rfl,f,d⟩:=i.tup_inv;cases e;refine .inr (.inl ⟨xs,SqT.of f,?_⟩);have:=d.len;cases xs<;>cases l<;>simp at this ⊢
  | ty n=>cases e
  | exc C=>cases e
  | exf C l=>cases e
  | clo C l=>cases e
  | dK ks l=>cases e
  | dT ks l=>cases e
end
section
variable {X:Cx} {a b c:bB} {o6:List bB} {fa fb:XE} {gc:XT} {pos:da}
noncomputable def MU(a b:XE):XE:=λs=>(xB a s).bind λc=>if c=aC then b s else ag (.bl aB)
noncomputable def eOr(a b:XE):XE:=λs=>(xB a s).bind λc=>if c=aC then ag (.bl aC) else b s
noncomputable def Zbb(a:XE):XE:=λs=>(xB a s).map λc=>.bl !c
noncomputable def J1(c:XT)(a b:XE):XE:=λs=>(c s).bind λk=>if k=aC then a s else b s
theorem CB{op}(h:VE X a fa):VE X (.BoolOp op [a] pos) fa:=Zff h
theorem Io(j:VE X a fa)(o:VE X (.BoolOp .And (b::o6) pos) fb):VE X (.BoolOp .And (a::b::o6) pos) (MU fa fb):=PE.imp (Zfg j o) λU H Q ⟨g,s,l,hd,env,e,k⟩=>by
 unfold MU at e
 cases q:xB fa s with
 | none=>rw[q] at e;cases e
 | some d=>
  rw[q] at e;refine⟨g,s,.bl d,hd,env,SD q,λv n w s1 t _=>⟨d,t.bl_inv.1,?_⟩⟩
  cases d with
  | true=>
   exact⟨g,s,l,λp c=>Same.mut s1 (hd p c),env.mono s1,e,λu h f s2 i m=>k u h f (s1.trans s2) i m⟩
  | false=>
   cases e;exact k _ n [] s1 (Is.bl aB) λp c=>by simp at c
theorem Zgc(b:VE X a fa):VE X (.UnaryOp .Not a pos) (Zbb fa):=PE.imp (Zfh b) λU H Q ⟨f,s,l,hd,env,e,k⟩=>by
 unfold Zbb at e
 cases q:xB fa s with
 | none=>rw[q] at e;cases e
 | some d=>
  rw[q] at e;cases e;exact⟨f,s,.bl d,hd,env,SD q,λv g i s1 h _=>⟨d,h.bl_inv.1,k _ g [] s1 (Is.bl _) λp c=>by simp at c⟩⟩
theorem SE(t:VT X c gc)(o:VE X a fa)(u:VE X b fb):VE X (.IfExp c a b pos) (J1 gc fa fb):=PE.imp (DY t o u) λU H Q ⟨m,s,l,hd,env,e,k⟩=>by
 unfold J1 at e
 cases q:gc s with
 | none=>rw[q] at e;cases e
 | some d=>
  rw[q] at e;refine⟨m,s,d,hd,env,q,λv s1=>?_⟩
  cases d with
  | true=>
   exact⟨m,s,l,λp i=>Same.mut s1 (hd p i),env.mono s1,e,λn g f s2 h j=>k n g f (s1.trans s2) h j⟩
  | false=>
   exact⟨m,s,l,λp i=>Same.mut s1 (hd p i),env.mono s1,e,λn g f s2 h j=>k n g f (s1.trans s2) h j⟩
end
section
variable {X:Cx} {a b c:bB} {fa fb fc:XE} {pos:da}
noncomputable def Zjg(neg:Bool):PV->Option PV
 | .non=>ag (.bl !neg)
 | _=>ag (.bl neg)
noncomputable def CC:PV->Bool
 | .non=>aC
 | _=>aB
theorem Ip{H:Hp}{l:PV}{v:V}{d:List aK}(i:Is K H l v d):decide (v=V.non)=CC l:=by
 cases l with
 | non=>rw[i.non_inv.1];rfl
 | bl b=>rw[i.bl_inv.1];rfl
 | int j=>rw[i.int_inv.1];rfl
 | str y=>rw[i.str_inv.1];rfl
 | ty n=>rw[i.ty_inv.1];rfl
 | exc C=>obtain⟨⟨e,o,x,C,rfl,_⟩,_⟩:=i;rfl
 | exf C l=>obtain⟨⟨e,o,x,C,q,s,u,z,rfl,_⟩,_⟩:=i;rfl
 | clo C l=>obtain⟨u,x,⟨f,h,c,m,e,k,g,ct,rfl,_⟩,_⟩:=i;rfl
 | lst l=>obtain⟨p,xs,a,rfl,_⟩:=i.lst_inv;rfl
 | cst l=>obtain⟨p,xs,rfl,_⟩:=i.cst_inv;rfl
 | tup l=>obtain⟨p,xs,rfl,_⟩:=i.tup_inv;rfl
 | dK ks l=>obtain⟨p,xs,a,rfl,_⟩:=i.dK_inv;rfl
 | dT ks l=>obtain⟨p,xs,a,rfl,_⟩:=i.dT_inv;rfl
noncomputable def KD(neg:Bool)(a:XE):XE:=λs=>(a s).bind (Zjg neg)
theorem CD:∀U H Q,tF K (KD aC fa) U H Q->Zdz (tF K fa) U H Q:=λU H Q ⟨d,s,l,hd,env,e,k⟩=>by
 unfold KD at e
 cases q:fa s with
 | none=>rw[q] at e;cases e
 | some m=>
  rw[q] at e;refine⟨d,s,m,hd,env,q,λv a f s1 b _=>?_⟩;show Q _ a;rw[Ip b];have:l = .bl (!CC m):=by cases m<;>cases e<;>rfl
  subst this;exact k _ a [] s1 (Is.bl _) λp c=>by simp at c
theorem Zef:∀U H Q,KA K (xB fa) U H Q->tB (tF K fa) U H Q:=λU H Q ⟨d,s,c,hd,env,e,k⟩=>⟨d,s,.bl c,hd,env,SD e,λv a f b i n=>⟨c,i.bl_inv.1,k a b⟩⟩
theorem GL{t t':TE}(i:∀U H Q,t' U H Q->t U H Q):∀U H Q,tB t' U H Q->tB t U H Q:=λU H Q h=>i U H _ h
theorem MV{j pos'}(b:VE X a fa):VT X (.Compare a [.IsNot] [.Constant .none j pos'] pos) (xB (KD aC fa)):=PT.imp (DW (Zae b)) λU H Q h=>GL CD U H Q (Zef U H Q h)
noncomputable def KG:PV->Option PV
 | .int i=>ag (.int (-i))
 | _=>aA
noncomputable def Eo(g:PV->Option PV)(a:XE):XE:=λs=>(a s).bind g
theorem RK(b:VE X a fa):VE X (.UnaryOp .USub a pos) (Eo KG fa):=PE.imp (Ziq Zfx b) λU H Q ⟨d,s,l,hd,env,e,k⟩=>by
 unfold Eo at e
 cases q:fa s with
 | none=>rw[q] at e;cases e
 | some m=>
  rw[q] at e;simp only[aV] at e;unfold KG at e;split at e
  ·cases e;exact⟨d,s,_,hd,env,q,λv f h s1 g _=>⟨_,g.int_inv.1,k _ f [] s1 (Is.int _) λp c=>by simp at c⟩⟩
  ·cases e
end
end VL
namespace VL
open PySem PySem.Spec PyProof.Rows L2
variable {K:aE}
noncomputable def SG:List XE->ZG->Option (List PV)
 | [],_=>ag []
 | f::fs,s=>(f s).bind λx=>(SG fs s).map (x::·)
theorem PU{f:XE}{fs:List XE}{s:ZG}{ls:List PV}(h:SG (f::fs) s=ag ls):∃x r,f s=ag x/\SG fs s=ag r/\ls=x::r:=by
 unfold SG at h
 cases q:f s with
 | none=>rw[q] at h;cases h
 | some x=>cases q2:SG fs s with
  | none=>rw[q,q2] at h;cases h
  | some r=>rw[q,q2] at h;cases h;exact⟨x,r,rfl,rfl,rfl⟩
theorem W8:∀{fs:List XE}{s:ZG}{ls:List PV},SG fs s=ag ls->ls.length=fs.length
 | [],_,_,h=>by cases h;rfl
 | f::fs,s,ls,h=>by obtain⟨x,r,_,a,rfl⟩:=PU h;rw[bK,bK,W8 a]
noncomputable def tFA(K:aE)(fs:List XE):TA:=λU H Q=>∃(Rm:aK->Prop) (s:ZG) (ls:List PV),(∀p,Rm p->Uq (H p))/\EnvIs K Rm H s U/\SG fs s=ag ls/\∀vs H' fp,Same H H'->Iss K H' ls vs fp->(∀p∈fp,¬Rm p)->Q vs H'
noncomputable def tMA(K:aE)(fs:List XE):TA:=λU H Q=>∃(s:ZG) (ls:List PV),EnvIs K (λ_=>False) H s U/\SG fs s=ag ls/\∀vs H' fp,Same H H'->Iss K H' ls vs fp->fp.Nodup->(∀p∈fp,H p=aA/\Uq (H' p))->Q vs H'
noncomputable def VA(X:Cx)(es:List bB)(fs:List XE):Prop:=PA X es (tFA X.K fs)
noncomputable def VMA(X:Cx)(es:List bB)(fs:List XE):Prop:=PA X es (tMA X.K fs)
section
variable {X:Cx} {e:bB} {es:List bB} {f:XE} {fs:List XE} {pos:da} {k:Nat}
theorem PA.imp{t t':TA}(h:PA X es t)(i:∀U H Q,t' U H Q->t U H Q):PA X es t':=λa b s U H Q I q=>h a b s U H Q I (i U H Q q)
theorem MW:VA X [] []:=PA.imp YF λU H Q ⟨b,s,ls,hd,env,e,k⟩=>by
 cases e;exact k [] H [] (Same.refl H) Iss.nil λp a=>by simp at a
theorem VN(j:VE X e f)(m:VA X es fs)(hs:aO (e::es) X.env=(aB,eval e X.env)::aO es X.env:=by rfl):VA X (e::es) (f::fs):=PA.imp (ZY j m hs) λU H Q ⟨b,s,ls,hd,env,e,k⟩=>by
 obtain⟨g,q,i,l,rfl⟩:=PU e;refine⟨b,s,g,hd,env,i,λx v f1 s1 t u=>⟨b,s,q,λp a=>Same.mut s1 (hd p a),env.mono s1,l,λxs c o s2 d n=>?_⟩⟩;refine k _ c (f1++o) (s1.trans s2) (Iss.cons (t.mono s2) d) λp a=>?_;rcases ah.mp a with h | h
 ·exact u p h
 ·exact n p h
theorem YT:VMA X [] []:=PA.imp YF λU H Q ⟨s,ls,env,e,k⟩=>by
 cases e;exact k [] H [] (Same.refl H) Iss.nil cF λp a=>by simp at a
theorem SH(c:VM X e f)(t:VMA X es fs)(hs:aO (e::es) X.env=(aB,eval e X.env)::aO es X.env:=by rfl):VMA X (e::es) (f::fs):=PA.imp (ZY c t hs) λU H Q ⟨s,ls,env,e,k⟩=>by
 obtain⟨l,w,n,o,rfl⟩:=PU e;refine⟨s,l,env,n,λx B f1 s1 A m g=>⟨s,w,env.mono s1,o,λxs i u s2 j v d=>?_⟩⟩;refine k _ i (f1++u) (s1.trans s2) (Iss.cons (A.mono s2) j) ?_ λp q=>?_
 ·refine dJ.mpr ⟨m,v,λa c b y z=>?_⟩;subst z;exact Xj (g a c).2 (d a y).1
 ·rcases ah.mp q with h | h
  ·exact⟨(g p h).1,Same.mut s2 (g p h).2⟩
  ·exact⟨Same.off s1 (d p h).1,(d p h).2⟩
noncomputable def Wk(fs:List XE):XE:=λs=>(SG fs s).map .tup
noncomputable def X9(fs:List XE):XE:=λs=>(SG fs s).map .lst
theorem map_some{c d:Type}{o:Option c}{g:c->d}{b:d}(h:o.map g=ag b):∃a,o=ag a/\b=g a:=by
 cases o with
 | none=>cases h
 | some a=>cases h;exact⟨a,rfl,rfl⟩
theorem Xl(h:VA X es fs)(j:fs.length<=1000:=by decide):VE X (.Tuple es k pos) (Wk fs):=PE.imp (D7 h) λU H Q ⟨d,s,l,hd,env,e,q⟩=>by
 obtain⟨ls,a,rfl⟩:=map_some e;refine⟨d,s,ls,hd,env,a,λvs i f s1 c g=>⟨?_,λp b=>?_⟩⟩
 ·rw[c.len,W8 a];exact cO (lt_size (by omega))
 ·exact q _ _ f (s1.trans (Same.new b _)) (Is.tup Zl (c.mono (Same.new b _))) g
theorem RL(h:VA X es fs)(m:fs.length<=1000:=by decide):VE X (.List es pos) (X9 fs):=PE.imp (D8 h) λU H Q ⟨g,s,l,hd,env,e,q⟩=>by
 obtain⟨ls,d,rfl⟩:=map_some e;refine⟨g,s,ls,hd,env,d,λvs k i s1 f j=>⟨?_,λp c=>?_⟩⟩
 ·rw[f.len,W8 d];exact cO (lt_size (by omega))
 ·refine q _ _ (p::i) (s1.trans (Same.new c _)) (Is.lst Zl (f.mono (Same.new c _))) λa b z=>?_;rcases aX.mp b with rfl | b
  ·exact Xj (Same.mut s1 (hd a z)) c
  ·exact j a b z
theorem XA(h:VMA X es fs)(m:fs.length<=1000:=by decide):VM X (.List es pos) (X9 fs):=PE.imp (D8 h) λU H Q ⟨s,l,env,e,q⟩=>by
 obtain⟨ls,f,rfl⟩:=map_some e;refine⟨s,ls,env,f,λvs k j s1 g i d=>⟨?_,λp b=>?_⟩⟩
 ·rw[g.len,W8 f];exact cO (lt_size (by omega))
 ·refine q _ _ (p::j) (s1.trans (Same.new b _)) (Is.lst Zl (g.mono (Same.new b _))) (aw.mpr ⟨λz=>Xj (d p z).2 b,i⟩) λa c=>?_;rcases aX.mp c with rfl | c
  ·exact⟨Same.off s1 b,by rw[Zl];exact bY⟩
  ·exact⟨(d a c).1,Same.mut (Same.new b _) (d a c).2⟩
end
noncomputable def Y0(K:aE)(D:List PV->Option PV)(n:Nat):Sp:=λvs H Q _=>vs.length=n/\∃ls fp l,Iss K H ls vs fp/\D ls=ag l/\∀v H' fq,Same H H'->Is K H' l v fq->fq.Nodup->(∀p∈fq,H p=aA/\Uq (H' p))->Q v H'
noncomputable def Zc(D:List PV->Option PV)(fs:List XE):XE:=λs=>(SG fs s).bind D
theorem Zd{c d:Type}{o:Option c}{g:c->Option d}{b:d}(h:o.bind g=ag b):∃a,o=ag a/\g a=ag b:=by
 cases o with
 | none=>cases h
 | some a=>exact⟨a,rfl,h⟩
section
variable {X:Cx} {x:aj} {ps:List aj} {k:Nat} {e:bB} {es:List bB} {fs:List XE} {p pos:da}
theorem GN{D:List PV->Option PV}{n:Nat}(C:Xd X.prog X.w X.K X.mg X.base x ps (Y0 X.K D n) k)(t:Room k X.A)(o:Gl X x)(b:VA X (e::es) fs)(y:fs.length=n:=by rfl)
  (d:(x==("__debug__" : aj))=aB:=by decide) (E:aO (e::es) X.env=(aB,eval e X.env)::aO es X.env:=by rfl) (c:(ck pos (aO es X.env)).any (·.1)=aB:=by rfl) :
  VM X (.Call (.Name x p) (e::es) [] pos) (Zc D fs):=PE.imp (Zf9 C t o b d E c) λU H Q ⟨s,l,env,e,q⟩=>by
 obtain⟨ls,f,m⟩:=Zd e;refine⟨λ_=>False,s,ls,λ_ z=>z.elim,env,f,λvs w u s1 h F=>?_⟩;show Y0 X.K D n (vs++[]) w Q E0;rw[cL];exact⟨by rw[h.len,W8 f,y],ls,u,l,h,m,λv i A s2 j B g=>q v i A (s1.trans s2) j B λa b=>⟨Same.off s1 (g a b).1,(g a b).2⟩⟩
end
noncomputable def RC(K:aE)(r:List V->Hp->VK->Prop)(g:List PV->Option PV):Prop:=∀(H:Hp)(vs:List V)(ls:List PV)(l:PV)(fp:List aK),Iss K H ls vs fp->g ls=ag l->∀Q:VK,
 (∀v H' fq,Same H H'->Is K H' l v fq->(∀p∈fq,p∈fp\/H p=aA)->Q v H')->r vs H Q
noncomputable def RCM(K:aE)(r:List V->Hp->VK->Prop)(g:List PV->Option PV):Prop:=∀(H:Hp)(vs:List V)(ls:List PV)(l:PV)(fp:List aK),Iss K H ls vs fp->g ls=ag l->∀Q:VK,
 (∀v H' fq,Same H H'->Is K H' l v fq->fq.Nodup->(∀p∈fq,H p=aA/\Uq (H' p))->Q v H')->r vs H Q
theorem Zeg{r:List V->Hp->VK->Prop}{g:List PV->Option PV}{fs:List XE}(i:RC K r g):∀U H Q,tF K (Zc g fs) U H Q->tCB r (tFA K fs) U H Q:=λU H Q ⟨m,s,l,hd,env,e,k⟩=>by
 obtain⟨ls,d,c⟩:=Zd e;refine⟨m,s,ls,hd,env,d,λvs o n s1 t u=>i o vs ls l n t c Q λv a q s2 b j=>k v a q (s1.trans s2) b λp f z=>?_⟩;rcases j p f with h | h
 ·exact u p h z
 ·exact Xj (Same.mut s1 (hd p z)) h
theorem Zeh{r:List V->Hp->VK->Prop}{g:List PV->Option PV}{fs:List XE}(i:RCM K r g):∀U H Q,tM K (Zc g fs) U H Q->tCB r (tFA K fs) U H Q:=λU H Q ⟨s,l,env,e,k⟩=>by obtain⟨ls,h,f⟩:=Zd e;exact⟨λ_=>False,s,ls,λ_ z=>z.elim,env,h,λvs m j s1 q t=>i m vs ls l j q f Q λv c n s2 d o b=>k v c n (s1.trans s2) d o λp a=>⟨Same.off s1 (b p a).1,(b p a).2⟩⟩
section
variable {X:Cx} {x:aj} {k:Nat} {e:bB} {es:List bB} {fs:List XE} {p pos:da} {id T:String} {r:List V->Hp->VK->Prop} {g:List PV->Option PV}
theorem KH(k:Xh X (.builtin id) r)(l:RC X.K r g)(h:Gl X x)(c:X.mg x=aA)(d:dC x=ag (.builtin id))(i:VA X (e::es) fs)(f:x≠"__name__":=by decide)(b:(x==("__debug__" : aj))=aB:=by decide)
  (j:aO (e::es) X.env=(aB,eval e X.env)::aO es X.env:=by rfl) (a:(ck pos (aO es X.env)).any (·.1)=aB:=by rfl):VE X (.Call (.Name x p) (e::es) [] pos) (Zc g fs):=
 PE.imp (Kn k h c d i f b j a) (Zeg l)
theorem CG(k:Xh X (.builtin id) r)(l:RCM X.K r g)(h:Gl X x)(c:X.mg x=aA)(d:dC x=ag (.builtin id))(i:VA X (e::es) fs)(f:x≠"__name__":=by decide)(b:(x==("__debug__" : aj))=aB:=by decide)
  (j:aO (e::es) X.env=(aB,eval e X.env)::aO es X.env:=by rfl) (a:(ck pos (aO es X.env)).any (·.1)=aB:=by rfl):VM X (.Call (.Name x p) (e::es) [] pos) (Zc g fs):=
 PE.imp (Kn k h c d i f b j a) (Zeh l)
theorem ZF(k:Xh X (.type T) r)(l:RC X.K r g)(h:Gl X x)(c:X.mg x=aA)(d:dC x=ag (.type T))(i:VA X (e::es) fs)(f:x≠"__name__":=by decide)(b:(x==("__debug__" : aj))=aB:=by decide)
  (j:aO (e::es) X.env=(aB,eval e X.env)::aO es X.env:=by rfl) (a:(ck pos (aO es X.env)).any (·.1)=aB:=by rfl):VE X (.Call (.Name x p) (e::es) [] pos) (Zc g fs):=
 PE.imp (NR k h c d i f b j a) (Zeg l)
theorem N2(k:Xh X (.type T) r)(l:RCM X.K r g)(h:Gl X x)(c:X.mg x=aA)(d:dC x=ag (.type T))(i:VA X (e::es) fs)(f:x≠"__name__":=by decide)(b:(x==("__debug__" : aj))=aB:=by decide)
  (j:aO (e::es) X.env=(aB,eval e X.env)::aO es X.env:=by rfl) (a:(ck pos (aO es X.env)).any (·.1)=aB:=by rfl):VM X (.Call (.Name x p) (e::es) [] pos) (Zc g fs):=
 PE.imp (NR k h c d i f b j a) (Zeh l)
end
theorem Iss.one_inv{H:Hp}{l:PV}{vs:List V}{c:List aK}(h:Iss K H [l] vs c):∃v,vs=[v]/\Is K H l v c:=by obtain⟨x,r,f1,d,rfl,a,b,rfl⟩:=h.inv;rw[b.1,b.2,cL];exact⟨x,rfl,a⟩
theorem Iss.two_inv{H:Hp}{l m:PV}{vs:List V}{e:List aK}(h:Iss K H [l,m] vs e):∃v w f1 d,vs=[v,w]/\Is K H l v f1/\Is K H m w d/\e=f1++d:=by obtain⟨x,r,f1,d,rfl,a,b,rfl⟩:=h.inv;obtain⟨y,rfl,c⟩:=b.one_inv;exact⟨x,y,f1,d,rfl,a,c,rfl⟩
noncomputable def QQ:PV->Option (List PV)
 | .lst l=>ag l
 | .cst l=>ag l
 | .tup l=>ag l
 | _=>aA
theorem VP{H:Hp}{l:PV}{v:V}{d:List aK}{m:List PV}(h:Is K H l v d)(e:QQ l=ag m):∃p xs f,v = .ref p/\(SqL K H p xs\/SqT K H p xs)/\Iss K H m xs f/\∀q∈f,q∈d:=by
 cases l with
 | lst l=>
  cases e;obtain⟨p,xs,f,rfl,c,b,rfl⟩:=h.lst_inv;exact⟨p,xs,f,rfl,.inl (SqL.of c),b,λq a=>aR _ a⟩
 | cst l=>
  cases e;obtain⟨p,xs,rfl,c,b⟩:=h.cst_inv;exact⟨p,xs,d,rfl,.inl c.sq,b,λq a=>a⟩
 | tup l=>
  cases e;obtain⟨p,xs,rfl,c,b⟩:=h.tup_inv;exact⟨p,xs,d,rfl,.inr (SqT.of c),b,λq a=>a⟩
 | _=>cases e
noncomputable def ZZ:List PV->Option PV
 | [.str z]=>if z.length<=sizeLine then ag (.int z.length) else aA
 | [l]=>(QQ l).map λm=>.int m.length
 | _=>aA
theorem Zge:RC K (λxs H Q=>∃x n,xs=[x]/\Ziu K x H n/\Q (.int n) H) ZZ:=λH vs ls l d h e Q k=>by
 unfold ZZ at e;split at e
 ·split at e
  ·cases e;obtain⟨v,rfl,i⟩:=h.one_inv;exact⟨v,_,rfl,by rw[i.str_inv.1];exact⟨by assumption,rfl⟩,k _ H [] (Same.refl H) (Is.int _) λp a=>by simp at a⟩
  ·cases e
 ·obtain⟨m,c,rfl⟩:=map_some e;obtain⟨v,rfl,i⟩:=h.one_inv;obtain⟨p,xs,f,rfl,a,b,_⟩:=VP i c;refine⟨_,xs.length,rfl,?_,?_⟩
  ·rcases a with a | a
   ·exact .inl ⟨xs,a,rfl⟩
   ·exact .inr ⟨xs,a,rfl⟩
  ·rw[b.len];exact k _ H [] (Same.refl H) (Is.int _) λp a=>by simp at a
 ·cases e
noncomputable def ZV:List PV->Option PV
 | [l]=>(QQ l).map .tup
 | _=>aA
theorem ZQ:RC K (Zga K) ZV:=λH vs ls l j h e Q k=>by
 unfold ZV at e;split at e
 ·obtain⟨m,g,rfl⟩:=map_some e;obtain⟨v,rfl,i⟩:=h.one_inv;rename_i o
  cases o with
  | tup l=>
   cases g;obtain⟨p,xs,rfl,c,f⟩:=id i.tup_inv;exact⟨p,xs,rfl,.inr ⟨SqT.of c,k _ H j (Same.refl H) i λa b=>.inl b⟩⟩
  | lst l=>
   cases g;obtain⟨p,xs,n,rfl,c,f,rfl⟩:=i.lst_inv;exact⟨p,xs,rfl,.inl ⟨SqL.of c,λq d=>k _ _ n (Same.new d _) (Is.tup Zl (f.mono (Same.new d _))) λa b=>.inl (aR _ b)⟩⟩
  | cst l=>
   cases g;obtain⟨p,xs,rfl,c,f⟩:=i.cst_inv;exact⟨p,xs,rfl,.inl ⟨c.sq,λq d=>k _ _ j (Same.new d _) (Is.tup Zl (f.mono (Same.new d _))) λa b=>.inl b⟩⟩
  | _=>cases g
 ·cases e
noncomputable def T2:List PV->Option PV
 | [l]=>(QQ l).bind λm=>if ZE m=aC then ag (.lst m) else aA
 | _=>aA
theorem KI:RCM K (Za7 K) T2:=λH vs ls l n h e Q k=>by
 unfold T2 at e;split at e
 ·obtain⟨m,g,b⟩:=Zd e;split at b
  ·cases b;obtain⟨v,rfl,i⟩:=h.one_inv;obtain⟨p,xs,o,rfl,j,d,hs⟩:=VP i g;have:=Iss.pure _ _ _ (by assumption) d;subst this;refine⟨p,xs,rfl,j,λq c=>k _ _ [q] (Same.new c _) (Is.lst Zl (d.mono (Same.new c _))) (by simp) λa f=>?_⟩;rw[aN.mp f];exact⟨c,by rw[Zl];exact bY⟩
  ·cases b
 ·cases e
noncomputable def Yj:List PV->Option (List Int)
 | []=>ag []
 | .int i::r=>(Yj r).map (i::·)
 | _=>aA
theorem Yd:∀l:List Int,Yj (iL l)=ag l
 | []=>rfl
 | i::r=>by show(Yj (iL r)).map (i::·)=_;rw[Yd r];rfl
theorem Z7:∀{m:List PV}{l:List Int},Yj m=ag l->m=iL l
 | [],l,h=>by cases h;rfl
 | .int i::r,l,h=>by obtain⟨a,e,rfl⟩:=map_some (show(Yj r).map (i::·)=ag l from h);rw[Z7 e];rfl
 | .non::_,_,h=>by cases h
 | .bl _::_,_,h=>by cases h
 | .str _::_,_,h=>by cases h
 | .ty _::_,_,h=>by cases h
 | .exc _::_,_,h=>by cases h
 | .exf _ _::_,_,h=>by cases h
 | .clo _ _::_,_,h=>by cases h
 | .tup _::_,_,h=>by cases h
 | .lst _::_,_,h=>by cases h
 | .cst _::_,_,h=>by cases h
 | .dK _ _::_,_,h=>by cases h
 | .dT _ _::_,_,h=>by cases h
abbrev bL(l:List Bool):List PV:=l.map PV.bl
noncomputable def U1:List PV->Option (List Bool)
 | []=>ag []
 | .bl i::r=>(U1 r).map (i::·)
 | _=>aA
theorem TH:∀l:List Bool,U1 (bL l)=ag l
 | []=>rfl
 | i::r=>by show(U1 (bL r)).map (i::·)=_;rw[TH r];rfl
theorem SI:∀{m:List PV}{l:List Bool},U1 m=ag l->m=bL l
 | [],l,h=>by cases h;rfl
 | .bl i::r,l,h=>by obtain⟨a,e,rfl⟩:=map_some (show(U1 r).map (i::·)=ag l from h);rw[SI e];rfl
 | .non::_,_,h=>by cases h
 | .int _::_,_,h=>by cases h
 | .str _::_,_,h=>by cases h
 | .ty _::_,_,h=>by cases h
 | .exc _::_,_,h=>by cases h
 | .exf _ _::_,_,h=>by cases h
 | .clo _ _::_,_,h=>by cases h
 | .tup _::_,_,h=>by cases h
 | .lst _::_,_,h=>by cases h
 | .cst _::_,_,h=>by cases h
 | .dK _ _::_,_,h=>by cases h
 | .dT _ _::_,_,h=>by cases h
theorem Iss.bL{H:Hp}:∀{l:List Bool}{xs:List V}{fp:List aK},Iss K H (VL.bL l) xs fp->xs=l.map V.bl/\fp=[]
 | [],xs,fp,h=>by simpa only[VL.bL,fL,Iss] using h
 | i::l,xs,fp,h=>by obtain⟨x,r,f1,c,rfl,b,a,rfl⟩:=Iss.inv (show Iss K H (PV.bl i::VL.bL l) xs fp from h);obtain⟨rfl,rfl⟩:=b.bl_inv;obtain⟨rfl,rfl⟩:=a.bL;exact⟨rfl,rfl⟩
theorem Iq{H:Hp}{p:aK}{xs:List V}(h:SqL K H p xs\/SqT K H p xs):∃b,Nu b K H p xs:=by
 rcases h with h | h
 ·exact⟨aC,h⟩
 ·exact⟨aB,h⟩
noncomputable def VQ:List PV->Option PV
 | [l]=>(QQ l).bind λm=>(Yj m).map λns=>.int ns.sum
 | _=>aA
noncomputable def MX:List PV->Option PV
 | [l]=>(QQ l).bind λm=>(U1 m).map λbs=>.bl (bs.all id)
 | _=>aA
theorem VR:RC K (λxs H Q=>∃(b:Bool) (p:aK) (a:List Int),xs=[.ref p]/\Nu b K H p (a.map V.int)/\Q (.int a.sum) H) VQ:=λH vs ls l q h e Q k=>by
 unfold VQ at e;split at e
 ·obtain⟨m,j,g⟩:=Zd e;obtain⟨a,n,rfl⟩:=map_some g;obtain⟨v,rfl,i⟩:=h.one_inv;obtain⟨p,xs,s,rfl,c,f,hs⟩:=VP i j;have d:=Z7 n;subst d;obtain⟨rfl,rfl⟩:=f.iL;obtain⟨b,o⟩:=Iq c;exact⟨b,p,a,rfl,o,k _ H [] (Same.refl H) (Is.int _) λp c=>by simp at c⟩
 ·cases e
theorem Ir:RC K (λxs H Q=>∃(b:Bool) (p:aK) (bs:List Bool),xs=[.ref p]/\Nu b K H p (bs.map V.bl)/\Q (.bl (bs.all id)) H) MX:=λH vs ls l q h e Q k=>by
 unfold MX at e;split at e
 ·obtain⟨m,j,g⟩:=Zd e;obtain⟨f,n,rfl⟩:=map_some g;obtain⟨v,rfl,i⟩:=h.one_inv;obtain⟨p,xs,s,rfl,a,d,hs⟩:=VP i j;have c:=SI n;subst c;obtain⟨rfl,rfl⟩:=d.bL;obtain⟨b,o⟩:=Iq a;exact⟨b,p,f,rfl,o,k _ H [] (Same.refl H) (Is.bl _) λp a=>by simp at a⟩
 ·cases e
noncomputable def Zjh:List PV->Option PV
 | [.int i,.int j]=>ag (.int (if j<i then j else i))
 | _=>aA
noncomputable def KJ:List PV->Option PV
 | [.int i,.int j]=>ag (.int (if j>i then j else i))
 | _=>aA
noncomputable def Qx:List PV->Option PV
 | [.int i]=>ag (.int i)
 | [.bl c]=>ag (.int (if c then 1 else 0))
 | _=>aA
theorem Zbc:RC K (λxs H Q=>∃i j,xs=[.int i,.int j]/\Q (.int (if j>i then j else i)) H) KJ:=λH vs ls l d h e Q k=>by
 unfold KJ at e;split at e
 ·cases e;obtain⟨v,w,f1,f,rfl,a,b,rfl⟩:=h.two_inv;exact⟨_,_,by rw[a.int_inv.1,b.int_inv.1],k _ H [] (Same.refl H) (Is.int _) λp c=>by simp at c⟩
 ·cases e
theorem GO:RC K (λxs H Q=>(∃i,xs=[.int i]/\Q (.int i) H)\/∃k,xs=[.bl k]/\Q (.int (if k then 1 else 0)) H) Qx:=λH vs ls l c h e Q k=>by
 unfold Qx at e;split at e
 ·cases e;obtain⟨v,rfl,a⟩:=h.one_inv;exact .inl ⟨_,by rw[a.int_inv.1],k _ H [] (Same.refl H) (Is.int _) λp b=>by simp at b⟩
 ·cases e;obtain⟨v,rfl,a⟩:=h.one_inv;exact .inr ⟨_,by rw[a.bl_inv.1],k _ H [] (Same.refl H) (Is.int _) λp b=>by simp at b⟩
 ·cases e
section
variable {X:Cx} {e:bB} {es:List bB} {fs:List XE} {p pos:da}
noncomputable def W9:List PV->Option PV
 | [.int _,.ty "int"]=>ag (.bl aC)
 | [.int _,.ty "bool"]=>ag (.bl aB)
 | [.bl _,.ty "bool"]=>ag (.bl aC)
 | [.tup _,.ty "tuple"]=>ag (.bl aC)
 | [.lst _,.ty "list"]=>ag (.bl aC)
 | [.str _,.ty "str"]=>ag (.bl aC)
 | _=>aA
theorem ND:cz K (.type "bool") (.type "bool")=ag aC:=rfl
theorem SJ:RC K (λxs H Q=>∃x T t b,xs=[x,.ty T]/\TyOf K H x t/\cz K t (.type T)=ag b/\Q (.bl b) H) W9:=λH vs ls l f h e Q k=>by
  have c:∀b:Bool,l = .bl b->Q (.bl b) H:=λb z=>by subst z;exact k _ H [] (Same.refl H) (Is.bl _) λp d=>by simp at d
  unfold W9 at e
  split at e<;>first
    | (cases e
       obtain⟨v,w,f1,g,rfl,a,b,rfl⟩:=h.two_inv
       first
         | (obtain⟨rfl,_⟩:=a.int_inv;first
             | exact⟨_,_,_,_,by rw[b.ty_inv.1],TyOf.int _,Ku,c _ rfl⟩
             | exact⟨_,_,_,_,by rw[b.ty_inv.1],TyOf.int _,MQ,c _ rfl⟩)
         | (obtain⟨rfl,_⟩:=a.bl_inv;exact⟨_,_,_,_,by rw[b.ty_inv.1],TyOf.bl _,ND,c _ rfl⟩)
         | (obtain⟨rfl,_⟩:=a.str_inv;exact⟨_,_,_,_,by rw[b.ty_inv.1],TyOf.str _,Kw,c _ rfl⟩)
         | (obtain⟨q,xs,rfl,d,_⟩:=a.tup_inv;exact⟨_,_,_,_,by rw[b.ty_inv.1],TyOf.tup d,Kv,c _ rfl⟩)
         | (obtain⟨q,xs,i,rfl,d,_⟩:=a.lst_inv
            exact⟨_,_,_,_,by rw[b.ty_inv.1],TyOf.lst d,NB,c _ rfl⟩))
    | cases e
theorem KN{x:aj}{n:String}(d:Gl X x)(a:X.mg x=aA)(b:dC x=ag (.type n))(c:x≠"__name__":=by decide)(hd:(x==("__debug__" : aj))=aB:=by decide):VE X (.Name x pos) (eC (.ty n)):=
 Cs (Zad d a b (v:=.ty n) rfl c hd) λ_=>Is.ty n
end
end VL
namespace VL
open PySem PySem.Spec PyProof.Rows L2
variable {K:aE}
open Classical in
instance:DecidableEq PV:=λa b=>propDecidable (a=b)
noncomputable def X2:Nat->PV->PV->Bool
 | _+1,.non,.non=>aC
 | _+1,.bl _,.bl _=>aC
 | _+1,.int _,.int _=>aC
 | _+1,.str _,.str _=>aC
 | n+1,.tup l,.tup m=>(l.zip m).all λz=>X2 n z.1 z.2
 | n+1,.lst l,.lst m=>(l.zip m).all λz=>X2 n z.1 z.2
 | _,_,_=>aB
theorem SK{c d:Type}{p:c×d->Bool}{a:c}{b:d}{l:List c}{m:List d}(h:((a::l).zip (b::m)).all p=aC):p (a,b)=aC/\(l.zip m).all p=aC:=by rw[dU,ja,bC] at h;exact h
theorem Iss.inj'{n:Nat}{H:Hp}(c:∀a b v fa fb,X2 n a b=aC->Is K H a v fa->Is K H b v fb->a=b):∀{l m:List PV}{xs:List V}{fa fb:List aK},(l.zip m).all (λz=>X2 n z.1 z.2)=aC->Iss K H l xs fa->Iss K H m xs fb->l=m
 | [],m,xs,fa,fb,_,h,h'=>by
  simp only[Iss] at h;rw[h.1] at h';have:=h'.len
  cases m with
  | nil=>rfl
  | cons _ _=>simp at this
 | a::l,m,xs,fa,fb,hc,h,h'=>by
  obtain⟨x,r,f1,p,rfl,d,f,rfl⟩:=h.inv
  cases m with
  | nil=>have:=h'.len;simp at this
  | cons b m=>
   obtain⟨k,q,i,o,e,g,j,rfl⟩:=h'.inv;cases e;obtain⟨c1,c2⟩:=SK hc;rw[c a b x f1 i c1 d g,Iss.inj' c c2 f j]
theorem Is.inj'{H:Hp}:∀(n:Nat)(a b:PV)(v:V)(fa fb:List aK),X2 n a b=aC->Is K H a v fa->Is K H b v fb->a=b
 | 0,a,b,v,fa,fb,hc,_,_=>by unfold X2 at hc;simp at hc
 | n+1,a,b,v,fa,fb,hc,ha,hb=>by
  cases a<;>cases b<;>first
   | (exfalso;revert hc;unfold X2;simp;done)
   | skip
  ·rfl
  ·rw[ha.bl_inv.1] at hb;have:=hb.bl_inv.1;cases this;rfl
  ·rw[ha.int_inv.1] at hb;have:=hb.int_inv.1;cases this;rfl
  ·rw[ha.str_inv.1] at hb;have:=hb.str_inv.1;cases this;rfl
  ·obtain⟨p,xs,rfl,g,f⟩:=ha.tup_inv;obtain⟨h,j,e,c,d⟩:=hb.tup_inv;cases e;rw[g] at c;cases c;unfold X2 at hc;rw[Iss.inj' (Is.inj' n) hc f d]
  ·obtain⟨p,xs,k,rfl,g,f,_⟩:=ha.lst_inv;obtain⟨h,j,i,e,c,d,_⟩:=hb.lst_inv;cases e;rw[g] at c;cases c;unfold X2 at hc;rw[Iss.inj' (Is.inj' n) hc f d]
section
variable {X:Cx} {o4:List (aK×cg)} {U:RJ} {H:Hp} {s:aM} {A:bU}
theorem Iu{n:Nat}(i:∀a b x y fa fb u w,X2 n a b=aC->Is K H a x fa->Is K H b y fb->RelV x u->RelV y w->∃r,kE A s u w r/\(r=aC↔a=b)) :
  ∀{l m:List PV}{xs ys:List V}{fa fb:List aK}{us ws:List aG},(l.zip m).all (λz=>X2 n z.1 z.2)=aC->Iss K H l xs fa->Iss K H m ys fb->Vals xs us->Vals ys ws->
  ∃e:Nat->Bool,(∀j (c:j<us.length) (d:j<ws.length),kE A s us[j] ws[j] (e j))/\((aD (min us.length ws.length)).all e=aC↔l.take (min us.length ws.length)=m.take (min us.length ws.length))
 | [],m,xs,ys,fa,fb,us,ws,_,h,_,r,_=>by simp only[Iss] at h;obtain⟨rfl,_⟩:=h;cases r;exact⟨λ_=>aC,λj c=>by simp at c,by simp⟩
 | a::l,[],xs,ys,fa,fb,us,ws,_,_,h,_,r=>by simp only[Iss] at h;obtain⟨rfl,_⟩:=h;cases r;exact⟨λ_=>aC,λj c d=>by simp at d,by simp⟩
 | a::l,b::m,xs,ys,fa,fb,us,ws,hc,h,h',r,r'=>by
  obtain⟨x,F,f1,G,rfl,c,d,rfl⟩:=h.inv;obtain⟨y,I,B,E,rfl,p,D,rfl⟩:=h'.inv;obtain⟨c1,c2⟩:=SK hc
  cases r with
  | cons q v=>cases r' with
   | cons q' v'=>
    obtain⟨t,o,g⟩:=i a b x y f1 B _ _ c1 c p q q';obtain⟨e,C,f⟩:=Iu i c2 d D v v';refine⟨λj=>match j with | 0=>t | k+1=>e k,λj c d=>?_,?_⟩
    ·cases j with
     | zero=>exact o
     | succ k=>exact C k (by simpa using c) (by simpa using d)
    ·simp only[bK,Nat.succ_min_succ,iD,ja,kF,bC,List.take_succ_cons,List.cons.injEq];exact and_congr g f
theorem Iss.same'{l m:List PV}{xs e:List V}{g fb:List aK}{d c:List aG}(h:Iss K H l xs g)(h':Iss K H m e fb)(r:Vals xs d)(f:Vals e c) :
  (l.take (min d.length c.length)=m.take (min d.length c.length)/\d.length=c.length)↔l=m:=by
 have j:=h.len;have i:=h'.len;have k:=r.length;have n:=f.length;constructor
 ·rintro⟨a,b⟩;rw[cB (by omega),cB (by omega)] at a;exact a
 ·intro a;subst a;exact⟨rfl,by omega⟩
noncomputable def Zei(A:bU)(s:aM)(u w:aG)(r:Bool):Prop:=SeqAt.RcAt A s u w r/\SeqAt.RcNeAt A s u w !r
theorem PX(I:Inv X o4 U H s):∀(n:Nat)(A:bU)(a b:PV)(x y:V)(B fb:List aK)(u w:aG),A.units+2*n+2<eT->X2 n a b=aC->Is K H a x B->Is K H b y fb->RelV x u->RelV y w->
  (∃r,kE A s u w r/\(r=aC↔a=b))/\∃r,Zei A s u w r/\(r=aC↔a=b)
 | 0,A,a,b,x,y,B,fb,u,w,hu,hc,_,_,_,_=>by unfold X2 at hc;simp at hc
 | n+1,A,a,b,x,y,B,fb,u,w,hu,hc,ha,hb,ru,Xg=>by
  cases a<;>cases b<;>first
   | (exfalso;revert hc;unfold X2;simp;done)
   | skip
  ·rw[ha.non_inv.1] at ru;rw[hb.non_inv.1] at Xg;cases ru;cases Xg;exact⟨⟨aC,kS _,by simp⟩,aC,⟨SeqAt.RcAt.none_none,SeqAt.RcNeAt.none_none⟩,by simp⟩
  ·rw[ha.bl_inv.1] at ru;rw[hb.bl_inv.1] at Xg;cases ru;cases Xg;exact⟨⟨_,kE.bool_bool _ _,by simp⟩,_,⟨SeqAt.RcAt.bool_bool _ _,SeqAt.RcNeAt.bool_bool _ _⟩,by simp⟩
  ·rw[ha.int_inv.1] at ru;rw[hb.int_inv.1] at Xg;obtain⟨t,rfl⟩:=ru;obtain⟨t',rfl⟩:=Xg;exact⟨⟨_,lu _ _ _ _,by simp⟩,_,⟨SeqAt.RcAt.int_int _ _ _ _,SeqAt.RcNeAt.int_int _ _ _ _⟩,by simp⟩
  ·rw[ha.str_inv.1] at ru;rw[hb.str_inv.1] at Xg;obtain⟨t,rfl⟩:=ru;obtain⟨t',rfl⟩:=Xg;exact⟨⟨_,kE.str_str _ _ _ _,by simp⟩,_,⟨SeqAt.RcAt.str_str _ _ _ _,SeqAt.RcNeAt.str_str _ _ _ _⟩,by simp⟩
  ·rename_i S N;obtain⟨p,xs,rfl,M,F⟩:=id ha.tup_inv;obtain⟨D,ys,rfl,m,i⟩:=id hb.tup_inv;cases ru;cases Xg;have h:=hc;unfold X2 at h;obtain⟨C,J,q,_⟩:=I.tuple (SqT.of M);obtain⟨E,k,z,_⟩:=I.tuple (SqT.of m);obtain⟨f,G,l⟩:=Iu (A:=A.in1) (λa b x y B fb u w c P L O Q=>(PX I n A.in1 a b x y B fb u w (by show A.units+1+2*n+2<eT;omega) c P L O Q).1) h F i J k;have T:=SeqAt.RcAt.tuples (A:=A) (e:=f) (show s.heap.IsTuple p C.toArray from q) (show s.heap.IsTuple D E.toArray from z) (by omega) (λj o v=>G j (by simpa using o) (by simpa using v));have Z:=SeqAt.RcNeAt.tuples (A:=A) (e:=f) (show s.heap.IsTuple p C.toArray from q) (show s.heap.IsTuple D E.toArray from z) (by omega) (λj o v=>G j (by simpa using o) (by simpa using v));have g:(((aD (min C.toArray.size E.toArray.size)).all f&&C.toArray.size==E.toArray.size)=aC)↔PV.tup S=PV.tup N:=by simp only[aT,bC,beq_iff_eq,PV.tup.injEq];rw[l];exact Iss.same' F i J k
   refine⟨?_,_,⟨T,Z⟩,g⟩;by_cases e:p=D
   ·subst e;exact⟨aC,kS _,by simp[Is.inj' (n+1) _ _ _ _ _ hc ha hb]⟩
   ·exact⟨_,lx e T,g⟩
  ·rename_i S N;obtain⟨p,xs,fq,rfl,M,F,_⟩:=id ha.lst_inv;obtain⟨D,ys,fq',rfl,m,i,_⟩:=id hb.lst_inv;cases ru;cases Xg;have h:=hc;unfold X2 at h;obtain⟨C,J,q,_⟩:=I.list (SqL.of M);obtain⟨E,k,z,_⟩:=I.list (SqL.of m);obtain⟨f,G,l⟩:=Iu (A:=A.in1) (λa b x y B fb u w c P L O Q=>(PX I n A.in1 a b x y B fb u w (by show A.units+1+2*n+2<eT;omega) c P L O Q).1) h F i J k
   have R:∃r,Zei A s (.ref p) (.ref D) r/\(r=aC↔PV.lst S=PV.lst N):=by
    have g:=Iss.same' F i J k;by_cases d:C.length=E.length
    ·refine⟨_,⟨SeqAt.RcAt.lists (e:=f) q.isList z.isList (by simpa using d) (by omega) (λj o v=>G j (by simpa using o) (by simpa using v)),SeqAt.RcNeAt.lists (e:=f) q.isList z.isList (by simpa using d) (by omega) (λj o v=>G j (by simpa using o) (by simpa using v))⟩,?_⟩;rw[d,Nat.min_self] at l g;simp only[aT,PV.lst.injEq];rw[d,l,<-g];simp
    ·refine⟨aB,⟨SeqAt.RcAt.lists_lengths q.isList z.isList (by simpa using d) (by omega),SeqAt.RcNeAt.lists_lengths q.isList z.isList (by simpa using d) (by omega)⟩,?_⟩;rw[PV.lst.injEq,<-g];simp[d]
   obtain⟨r,Y,W⟩:=R;refine⟨?_,r,Y,W⟩;by_cases e:p=D
   ·subst e;exact⟨aC,kS _,by simp[Is.inj' (n+1) _ _ _ _ _ hc ha hb]⟩
   ·exact⟨r,lx e Y.1,W⟩
end
noncomputable def Zgf(K:aE)(neg:Bool):R2:=λx y H Q=>∃a b fa fb,Is K H a x fa/\Is K H b y fb/\X2 8 a b=aC/\∀r:Bool,(r=aC↔a=b)->Q (.bl (if neg then !r else r)) H
section
variable {X:Cx}
theorem CH(l:X.A.units+64<eT):Sm X (eJ .Eq) (Zgf X.K aB):=by intro m s U H x y v u Q I g d h;obtain⟨a,b,j,fb,e,k,i,q⟩:=h;obtain⟨_,r,f,c⟩:=PX I 8 X.A a b x y j fb v u (by omega) i e k g d;exact f.1 X.prog X.w X.xe _ ⟨.bl r,H,I,rfl,q r c⟩
theorem CI(l:X.A.units+64<eT):Sm X (eJ .NotEq) (Zgf X.K aC):=by intro m s U H x y v u Q I g d h;obtain⟨a,b,j,fb,e,k,i,q⟩:=h;obtain⟨_,r,f,c⟩:=PX I 8 X.A a b x y j fb v u (by omega) i e k g d;exact f.2 X.prog X.w X.xe _ ⟨.bl !r,H,I,rfl,q r c⟩
end
noncomputable def Xx(neg:Bool):PV->PV->Option PV:=λa b=>if X2 8 a b=aC then ag (.bl (if neg then !decide (a=b) else decide (a=b))) else aA
theorem MY(c:Bool):RB K (Zgf K c) (Xx c):=λH x y a b l h fb f i e Q k=>by
 unfold Xx at e;split at e
 ·cases e;refine⟨a,b,h,fb,f,i,by assumption,λr d=>?_⟩
  have:r=decide (a=b):=by
   cases r with
   | true=>exact(decide_eq_true (d.mp rfl)).symm
   | false=>exact(decide_eq_false λz=>bx (d.mpr z)).symm
  subst this;exact k _ H [] (Same.refl H) (Is.bl _) λp g=>by simp at g
 ·cases e
noncomputable def Zgg(K:aE)(neg:Bool):R2:=λx y H Q=>∃a b m fa fb,Is K H a x fa/\Is K H b y fb/\QQ b=ag m/\(m.all λz=>X2 8 z a)=aC/\∀r:Bool,(r=aC↔a∈m)->Q (.bl (if neg then !r else r)) H
section
variable {X:Cx} {o4:List (aK×cg)} {U:RJ} {H:Hp} {s:aM}
theorem Q2{a:PV}{x:V}{C:List aK}{u:aG}{A:bU}(I:Inv X o4 U H s)(Y:A.units+18<eT)(L:Is K H a x C)(O:RelV x u):∀{m:List PV}{xs:List V}{fb:List aK}{i:List aG},(m.all λz=>X2 8 z a)=aC->Iss K H m xs fb->Vals xs i->
  ∃e:aG->Bool,(∀y∈i,kE A s y u (e y))/\(i.any e=aC↔a∈m):=λ{m xs fb i} Q h r=>by
 -- c one's answer
 have c:∀y∈i,∃t:Bool,kE A s y u t/\(t=aC↔∃b,b∈m/\b=a/\∃z f,Is K H b z f/\RelV z y):=λy d=>by obtain⟨j,n,e⟩:=iV.mp d;have Z:=r.length;have l:xs[j]?=ag xs[j]:=aJ (by omega);obtain⟨b,f,p,o,_⟩:=h.get' l;obtain⟨w,v,Xg⟩:=r.get l;rw[aJ n] at v;cases v;rw[e] at Xg;have k:=cE p;have B:=bN.mp Q b k;obtain⟨⟨t,M,F⟩,_⟩:=PX I 8 A b a xs[j] x f C y u (by omega) B o L Xg O;refine⟨t,M,F.trans ⟨λz=>⟨b,k,z,xs[j],f,o,Xg⟩,λ⟨E,G,S,z,W,P,R⟩=>?_⟩⟩;have N:=R.inj Xg;subst N;subst S;exact Is.inj' 8 b E _ _ _ B o P
 classical
 refine⟨λy=>if d:y∈i then(c y d).choose else aB,λy d=>?_,?_⟩
 ·simp only[dif_pos d];exact(c y d).choose_spec.1
 ·rw[js];constructor
  ·rintro⟨y,d,e⟩;rw[dif_pos d] at e;obtain⟨b,p,rfl,_⟩:=(c y d).choose_spec.2.mp e;exact p
  ·intro q;obtain⟨j,n,e⟩:=iV.mp q;obtain⟨z,f,T,D,_⟩:=h.get (aJ n);obtain⟨y,d,J⟩:=r.get T;have g:=cE d;refine⟨y,g,?_⟩;rw[dif_pos g];exact(c y g).choose_spec.2.mpr ⟨a,q,rfl,z,f,e▸D,J⟩
end
section
variable {X:Cx}
theorem CJ(F:X.A.units+64<eT):Sm X (eJ .In) (Zgg X.K aB):=by
 intro G s U H x y v u Q I n B h;obtain⟨a,b,m,E,fb,l,C,z,o,q⟩:=h;obtain⟨p,xs,D,rfl,d,k,_⟩:=VP C z;cases B;rcases d with d | d
 ·obtain⟨c,j,t,_⟩:=I.list d;obtain⟨e,i,f⟩:=Q2 (A:=X.A.in1) I (by show X.A.units+1+18<eT;omega) l n o k j;refine SeqAt.in_listAt e t.isList (λw g=>i w (by simpa using g)) ⟨.bl _,H,I,rfl,?_⟩;rw[show c.toArray.any e=c.any e by simp];exact q _ f
 ·obtain⟨c,j,t,_⟩:=I.tuple d;obtain⟨e,i,f⟩:=Q2 (A:=X.A.in1) I (by show X.A.units+1+18<eT;omega) l n o k j;refine SeqAt.in_tupleAt e t (λw g=>i w (by simpa using g)) ⟨.bl _,H,I,rfl,?_⟩;rw[show c.toArray.any e=c.any e by simp];exact q _ f
theorem Ep(F:X.A.units+64<eT):Sm X (eJ .NotIn) (Zgg X.K aC):=by
 intro G s U H x y v u Q I n B h;obtain⟨a,b,m,E,fb,l,C,z,o,q⟩:=h;obtain⟨p,xs,D,rfl,d,k,_⟩:=VP C z;cases B;rcases d with d | d
 ·obtain⟨c,j,t,_⟩:=I.list d;obtain⟨e,i,f⟩:=Q2 (A:=X.A.in1) I (by show X.A.units+1+18<eT;omega) l n o k j;refine SeqAt.notIn_listAt e t.isList (λw g=>i w (by simpa using g)) ⟨.bl _,H,I,rfl,?_⟩;rw[show c.toArray.any e=c.any e by simp];exact q _ f
 ·obtain⟨c,j,t,_⟩:=I.tuple d;obtain⟨e,i,f⟩:=Q2 (A:=X.A.in1) I (by show X.A.units+1+18<eT;omega) l n o k j;refine SeqAt.notIn_tupleAt e t (λw g=>i w (by simpa using g)) ⟨.bl _,H,I,rfl,?_⟩;rw[show c.toArray.any e=c.any e by simp];exact q _ f
end
noncomputable def Nw(neg:Bool):PV->PV->Option PV:=λa b=>(QQ b).bind λm=>if(m.all λz=>X2 8 z a)=aC then ag (.bl (if neg then !decide (a∈m) else decide (a∈m))) else aA
theorem Iv(c:Bool):RB K (Zgg K c) (Nw c):=λH x y a b l i fb g j e Q k=>by
 obtain⟨m,f,e⟩:=Zd e;split at e
 ·cases e;refine⟨a,b,m,i,fb,g,j,f,by assumption,λr d=>?_⟩
  have:r=decide (a∈m):=by
   cases r with
   | true=>exact(decide_eq_true (d.mp rfl)).symm
   | false=>exact(decide_eq_false λz=>bx (d.mpr z)).symm
  subst this;exact k _ H [] (Same.refl H) (Is.bl _) λp h=>by simp at h
 ·cases e
end VL
namespace VL
open PySem PySem.Spec PyProof.Rows L2
variable {K:aE}
mutual
theorem Is.dom{H:Hp}:∀(l:PV)(v:V)(fp:List aK),Is K H l v fp->∀p∈fp,H p≠aA
 | .non,_,_,h=>by simp only[Is] at h;rw[h.2];simp
 | .bl _,_,_,h=>by simp only[Is] at h;rw[h.2];simp
 | .int _,_,_,h=>by simp only[Is] at h;rw[h.2];simp
 | .str _,_,_,h=>by simp only[Is] at h;rw[h.2];simp
 | .ty _,_,_,h=>by simp only[Is] at h;rw[h.2];simp
 | .exc _,_,_,h=>by simp only[Is] at h;rw[h.2];simp
 | .exf _ _,_,_,h=>by simp only[Is] at h;rw[h.2];simp
 | .clo L l,v,fp,h=>by simp only[Is] at h;obtain⟨u,x,_,_,b⟩:=h;exact Is.dom l x fp b
 | .tup l,v,fp,h=>by obtain⟨p,xs,_,_,b⟩:=h.tup_inv;exact Iss.dom l xs fp b
 | .lst l,v,fp,h=>by
  obtain⟨p,xs,c,_,d,b,rfl⟩:=h.lst_inv;intro q a;rcases aX.mp a with rfl | a
  ·rw[d];simp
  ·exact Iss.dom l xs c b q a
 | .cst l,v,fp,h=>by obtain⟨p,xs,_,_,b⟩:=h.cst_inv;exact Iss.dom l xs fp b
 | .dK ks l,v,fp,h=>by
  obtain⟨p,f,c,_,d,_,b,rfl⟩:=h.dK_inv;intro q a;rcases aX.mp a with rfl | a
  ·rcases d with e | ⟨o,e⟩<;>rw[e]<;>simp
  ·exact Iss.dom l _ c b q a
 | .dT ks l,v,fp,h=>by
  obtain⟨p,f,c,_,d,_,b,rfl⟩:=h.dT_inv;intro q a;rcases aX.mp a with rfl | a
  ·rcases d with e | ⟨o,e⟩<;>rw[e]<;>simp
  ·exact Iss.dom l _ c b q a
theorem Iss.dom{H:Hp}:∀(l:List PV)(xs:List V)(fp:List aK),Iss K H l xs fp->∀p∈fp,H p≠aA
 | [],_,_,h=>by simp only[Iss] at h;rw[h.2];simp
 | l::ls,xs,fp,h=>by
  obtain⟨x,r,f1,c,_,d,b,rfl⟩:=h.inv;intro q a;rcases ah.mp a with a | a
  ·exact Is.dom l x f1 d q a
  ·exact Iss.dom ls r c b q a
end
noncomputable def Ab(Rm:aK->Prop)(H H':Hp):Prop:=∀b o,H b=ag o->¬Rm b->H' b=ag o
theorem Same.ab{c:aK->Prop}{H a:Hp}(s:Same H a):Ab c H a:=λb o h _=>s b o h
theorem Ab.tk{d:aK->Prop}{H c:Hp}(a:Ab d H c)(hd:∀p,d p->Uq (H p)):TK2 H c:=⟨λb xs h=>a b _ h λz=>by
 have:=hd b z
 rw[h] at this;exact this,λb o xs h=>a b _ h λz=>by
 have:=hd b z
 rw[h] at this;exact this,λb o x h=>a b _ h λz=>by
 have:=hd b z;rw[h] at this;exact this⟩
theorem Is.ab{c:aK->Prop}{H d:Hp}(a:Ab c H d)(hd:∀p,c p->Uq (H p)){l:PV}{v:V}{b:List aK}(n:∀p∈b,¬c p)(h:Is K H l v b):Is K d l v b:=
 Is.tr (a.tk hd) l v b (λp e=>RdK.of λo q=>a p o q (n p e)) h
structure JIs(K:aE)(Rm:aK->Prop)(H1:Hp)(J:It)(ls:List PV):Prop where
 stop:∀H',Ab Rm H1 H'->J.stop ls.length H'
 go:∀H' (i:Nat) l,Ab Rm H1 H'->ls[i]?=ag l->J.go i H'
 yld:∀H' (i:Nat) l x H'',Ab Rm H1 H'->ls[i]?=ag l->J.yld i H' x H''->Same H' H''/\∃fp,Is K H'' l x fp/\∀p∈fp,H1 p≠aA/\¬Rm p
abbrev XL:=ZG->Option (List PV)
noncomputable def iF(K:aE)(f:XL):TI:=λU H R=>∃(Rm:aK->Prop) (s:ZG) (ls:List PV),(∀p,Rm p->Uq (H p))/\EnvIs K Rm H s U/\f s=ag ls/\∀J H1,Same H H1->JIs K Rm H1 J ls->R J H1
noncomputable def VI(X:Cx)(tg e:bB)(f:XL):Prop:=PI X tg e (iF X.K f)
section
variable {X:Cx} {tg e:bB} {es:List bB}
theorem PI.imp{t t':TI}(h:PI X tg e t)(i:∀U H R,t' U H R->t U H R):PI X tg e t':=λa s U H R I q=>h a s U H R I (i U H R q)
noncomputable def asS:PV->Option (List PV)
 | .lst m=>ag m
 | .cst m=>ag m
 | _=>aA
noncomputable def XB(f:XE):XL:=λs=>(f s).bind asS
noncomputable def Ts(f:XE):XL:=λs=>match f s with | some (.tup m)=>ag m | _=>aA
theorem CK{a:PV}{m:List PV}(h:asS a=ag m):a = .lst m\/a = .cst m:=by
 unfold asS at h;split at h
 ·cases h;exact .inl rfl
 ·cases h;exact .inr rfl
 ·cases h
theorem Er{f:XE}{s:ZG}{m:List PV}(h:Ts f s=ag m):f s=ag (.tup m):=by
 unfold Ts at h;split at h
 ·cases h;assumption
 ·cases h
theorem YI{f:XE}(h:VE X e f):VI X tg e (XB f):=PI.imp (Zah h) λU H R ⟨A,s,ls,hd,env,e,k⟩=>by
 obtain⟨l,G,E⟩:=Zd e;refine⟨A,s,l,hd,env,G,λv n B s1 C D=>?_⟩;have o:=λp c=>Same.mut s1 (hd p c)
 have g:∀a xs t,v = .ref a->SqL X.K n a xs->(∀d,Ab A n d->SqL X.K d a xs)->Iss X.K n ls xs t->(∀p∈t,p∈B)->∃a,v = .ref a/\(∃xs,SqL X.K n a xs)/\R (Itl X.K a) n:=by
  rintro a xs t rfl m b j sub;refine⟨a,rfl,⟨xs,m⟩,k _ n s1 ⟨λd ab=>⟨xs,b d ab,by rw[j.len];exact aa _⟩,λd i l ab z=>?_,λd i l x F ab z y=>?_⟩⟩
  ·obtain⟨x,f1,w,_,_⟩:=j.get z;exact⟨xs,x,b d ab,w⟩
  ·obtain⟨rfl,y⟩:=y;obtain⟨I,f1,w,ix,u⟩:=j.get z;have:=y xs (b _ ab);rw[w] at this;cases this;have q:=λp c=>D p (sub p (u p c));exact⟨Same.refl _,f1,ix.ab ab o q,λp c=>⟨Is.dom _ _ _ ix p c,q p c⟩⟩
 rcases CK E with rfl | rfl
 ·obtain⟨a,xs,t,rfl,m,j,rfl⟩:=C.lst_inv;exact g a xs t rfl (SqL.of m) (λd ab=>SqL.of (ab a _ m (D a ao))) j λp c=>aR _ c
 ·obtain⟨a,xs,rfl,m,j⟩:=C.cst_inv;exact g a xs B rfl m.sq (λd ab=>(m.tr (ab.tk o)).sq) j λp c=>c
theorem T3{f:XE}(h:VE X e f):VI X tg e (Ts f):=PI.imp (Zfo h) λU H R ⟨t,s,ls,hd,env,e,k⟩=>by
 refine⟨t,s,.tup ls,hd,env,Er e,λv u C s1 z A=>?_⟩;obtain⟨a,xs,rfl,q,m⟩:=z.tup_inv;have g:=λp d=>Same.mut s1 (hd p d);have b:∀c,Ab t u c->SqT X.K c a xs:=λc ab=>SqT.of ((ab.tk g).tup a xs q);refine⟨a,rfl,⟨xs,SqT.of q⟩,k _ u s1 ⟨λc ab=>⟨xs,b c ab,by rw[m.len];exact aa _⟩,λc i l ab o=>?_,λc i l x w ab o y=>?_⟩⟩
 ·obtain⟨x,f1,n,_,_⟩:=m.get o;exact⟨xs,x,b c ab,n⟩
 ·obtain⟨rfl,y⟩:=y;obtain⟨B,f1,n,ix,sub⟩:=m.get o;have:=y xs (b _ ab);rw[n] at this;cases this;have j:=λp d=>A p (sub p d);exact⟨Same.refl _,f1,ix.ab ab g j,λp d=>⟨Is.dom _ _ _ ix p d,j p d⟩⟩
noncomputable def MZ(n:Nat):List PV:=(aD n).map λ(i:Nat)=>PV.int (i:Int)
noncomputable def T4(lo:Int)(n:Nat):List PV:=(aD n).map λ(i:Nat)=>PV.int (lo+(i:Int))
noncomputable def Z8(fs:List XE):XL:=λs=>match SG fs s with | some [.int j]=>if -1000000<=j/\j<=1000000 then ag (MZ j.toNat) else aA | _=>aA
noncomputable def Va(fs:List XE):XL:=λs=>match SG fs s with | some [.int i,.int j]=>if -1000000<=i/\i<=1000000/\-1000000<=j/\j<=1000000 then ag (T4 i (j-i).toNat) else aA | _=>aA
theorem GP{g:aK->Prop}{d:Hp}(lo:Int)(n:Nat):JIs K g d (Itr lo n) (T4 lo n):=by
 refine⟨λc _=>by unfold T4;rw[aL,bt];exact aa n,λc i l _ a=>?_,λc i l x e _ a y=>?_⟩
 ·have:=(aS.mp a).1;unfold T4 at this;rw[aL,bt] at this;exact this
 ·obtain⟨rfl,rfl⟩:=y;have b:=(aS.mp a).1;unfold T4 at b a;rw[aL,bt] at b;rw[aU,bz b] at a;cases a;exact⟨Same.refl _,[],Is.int _,λp f=>by simp at f⟩
theorem Zbd(n:Nat):MZ n=T4 0 n:=by apply ar;intro i _;rw[Int.zero_add]
theorem Es{a:bB}{fs:List XE}{p b:da}(d:Gl X "range")(c:X.mg "range" = aA)(f:VA X [a] fs)(hs:aO [a] X.env=[(aB,eval a X.env)]:=by rfl):VI X tg (.Call (.Name "range" p) [a] [] b) (Z8 fs):=
 PI.imp (F8 d c f hs) λU H R ⟨g,s,ls,hd,env,e,k⟩=>by
 unfold Z8 at e;split at e
 ·split at e
  ·cases e;rename_i j l o;refine⟨g,s,_,hd,env,l,λvs h n s1 m _=>?_⟩;obtain⟨v,rfl,i⟩:=m.one_inv;refine⟨j,by rw[i.int_inv.1],by omega,by omega,k _ h s1 ?_⟩;rw[Zbd];exact GP _ _
  ·cases e
 ·cases e
theorem Et{a b:bB}{fs:List XE}{p c:da}(g:Gl X "range")(f:X.mg "range" = aA)(h:VA X [a,b] fs)(hs:aO [a,b] X.env=[(aB,eval a X.env),(aB,eval b X.env)]:=by rfl)(d:aO [b] X.env=[(aB,eval b X.env)]:=by rfl):VI X tg (.Call (.Name "range" p) [a,b] [] c) (Va fs):=
 PI.imp (F9 g f h hs d) λU H R ⟨m,s,ls,hd,env,e,k⟩=>by
 unfold Va at e;split at e
 ·split at e
  ·cases e;rename_i i j o y;refine⟨m,s,_,hd,env,o,λvs n u s1 q _=>?_⟩;obtain⟨v,w,f1,x,rfl,t,l,_⟩:=q.two_inv;exact⟨i,j,by rw[t.int_inv.1,l.int_inv.1],⟨by omega,by omega,by omega,by omega⟩,k _ n s1 (GP _ _)⟩
  ·cases e
 ·cases e
noncomputable def Y7(m:List PV):List PV:=m.zipIdx.map λz=>.tup [.int (z.2:Nat),z.1]
noncomputable def Tt(m n:List PV):List PV:=(m.zip n).map λz=>.tup [z.1,z.2]
theorem N3{m:List PV}{i:Nat}{l:PV}(h:(Y7 m)[i]?=ag l):∃a,m[i]?=ag a/\l = .tup [.int (i:Nat),a]:=by
 unfold Y7 at h;rw[aU,List.getElem?_zipIdx] at h
 cases q:m[i]? with
 | none=>rw[q] at h;cases h
 | some a=>rw[q] at h;cases h;exact⟨a,rfl,by simp⟩
theorem Ws(m:List PV):(Y7 m).length=m.length:=by unfold Y7;rw[aL,List.length_zipIdx]
theorem KO{m n:List PV}{i:Nat}{l:PV}(h:(Tt m n)[i]?=ag l):∃a b,m[i]?=ag a/\n[i]?=ag b/\l = .tup [a,b]:=by
 unfold Tt at h;rw[aU] at h
 cases q:(m.zip n)[i]? with
 | none=>rw[q] at h;cases h
 | some z=>
  rw[q] at h;cases h;obtain⟨d,c⟩:=jV.mp q;exact⟨z.1,z.2,d,c,rfl⟩
theorem KP(m n:List PV):(Tt m n).length=min m.length n.length:=by unfold Tt;rw[aL,List.length_zip]
noncomputable def seqB:Bool->PV->Option (List PV)
 | true,.lst l=>ag l
 | true,.cst l=>ag l
 | false,.tup l=>ag l
 | _,_=>aA
theorem M0{H:Hp}{b:Bool}{l:PV}{v:V}{g:List aK}{m:List PV}(h:Is K H l v g)(e:seqB b l=ag m):∃p xs j,v = .ref p/\Iss K H m xs j/\(∀q∈j,q∈g)/\∀(a:aK->Prop) f,Ab a H f->(∀p,a p->Uq (H p))->(∀p∈g,¬a p)->Nu b K f p xs:=by
 cases b with
 | true=>cases l with
  | lst l=>
   cases e;obtain⟨p,xs,j,rfl,d,c,rfl⟩:=h.lst_inv;exact⟨p,xs,j,rfl,c,λq i=>aR _ i,λa f ab _ n=>SqL.of (ab p _ d (n p ao))⟩
  | cst l=>
   cases e;obtain⟨p,xs,rfl,d,c⟩:=h.cst_inv;exact⟨p,xs,g,rfl,c,λq i=>i,λa f ab hd _=>(d.tr (ab.tk hd)).sq⟩
  | _=>cases e
 | false=>cases l with
  | tup l=>
   cases e;obtain⟨p,xs,rfl,d,c⟩:=h.tup_inv;exact⟨p,xs,g,rfl,c,λq i=>i,λa f ab hd _=>SqT.of ((ab.tk hd).tup p xs d)⟩
  | _=>cases e
noncomputable def WD(b:Bool)(fs:List XE):XL:=λs=>match SG fs s with | some [l]=>(seqB b l).map Y7 | _=>aA
noncomputable def SM(b1 b2:Bool)(fs:List XE):XL:=λs=>match SG fs s with | some [l,r]=>(seqB b1 l).bind λm=>(seqB b2 r).map λn=>Tt m n | _=>aA
theorem Wl{n:List bB}{k:Nat}{j:da}(b:Bool){a:bB}{fs:List XE}{p B:da}(J:Gl X "enumerate")(I:X.mg "enumerate" = aA)(L:VA X [a] fs)(hs:aO [a] X.env=[(aB,eval a X.env)]:=by rfl) :
  VI X (.Tuple n k j) (.Call (.Name "enumerate" p) [a] [] B) (WD b fs):=PI.imp (Za5 b J I L hs) λU H R ⟨F,s,ls,hd,env,e,k⟩=>by
 unfold WD at e;split at e
 ·rename_i l P;obtain⟨m,N,rfl⟩:=map_some e;refine⟨F,s,_,hd,env,P,λvs w T s1 Q G=>?_⟩;obtain⟨v,rfl,i⟩:=Q.one_inv;have g:=λp d=>Same.mut s1 (hd p d);obtain⟨a,xs,W,rfl,u,sub,o⟩:=M0 i N;have t:=λf ab=>o F f ab g G;refine⟨a,rfl,⟨xs,t w (Same.ab (Same.refl w))⟩,k _ w s1 ⟨λf ab=>⟨xs,t f ab,by rw[Ws,u.len]⟩,λf i l ab D=>?_,λf i l x M ab D y=>?_⟩⟩
  ·obtain⟨c,C,rfl⟩:=N3 D;obtain⟨x,f1,A,_,_⟩:=u.get C;exact⟨xs,x,t f ab,A⟩
  ·obtain⟨c,C,rfl⟩:=N3 D;obtain⟨S,f1,A,ix,O⟩:=u.get C;obtain⟨q,z,E,rfl,rfl,y⟩:=y;have:=y xs (t _ ab);rw[A] at this;cases this;have h:=λp d=>G p (sub p (O p d));refine⟨Same.new E _,f1,Is.tup Zl ?_,λp d=>⟨Is.dom _ _ _ ix p d,h p d⟩⟩;exact Iss.cons (Is.int _) (Iss.one ((ix.ab ab g h).mono (Same.new E _)))
 ·cases e
theorem PY{I:List bB}{k:Nat}{G:da}(b1 b2:Bool){a b:bB}{fs:List XE}{p W:da}(hg:Gl X "zip")(hm:X.mg "zip" = aA)(ha:VA X [a,b] fs)
  (hs:aO [a,b] X.env=[(aB,eval a X.env),(aB,eval b X.env)]:=by rfl) (S:aO [b] X.env=[(aB,eval b X.env)]:=by rfl) :
  VI X (.Tuple I k G) (.Call (.Name "zip" p) [a,b] [] W) (SM b1 b2 fs):=PI.imp (Zf8 b1 b2 hg hm ha hs S) λU H R ⟨P,s,ls,hd,env,e,k⟩=>by
 unfold SM at e;split at e
 ·rename_i l r he;obtain⟨m,e1,e⟩:=Zd e;obtain⟨n,e2,rfl⟩:=map_some e;refine⟨P,s,_,hd,env,he,λvs C fp s1 i1 n1=>?_⟩;obtain⟨v,w,g1,g2,rfl,iv,iw,rfl⟩:=i1.two_inv;have h:=λp f=>Same.mut s1 (hd p f);have u:=λp f=>n1 p (bA _ f);have B:=λp f=>n1 p (aq _ f);obtain⟨a1,xs,fq,rfl,M,sub,E⟩:=M0 iv e1;obtain⟨a2,J,fr,rfl,O,D,o⟩:=M0 iw e2;have L:=λg ab=>E P g ab h u;have j:=λg ab=>o P g ab h B;refine⟨a1,a2,rfl,⟨xs,L C (Same.ab (Same.refl C))⟩,⟨J,j C (Same.ab (Same.refl C))⟩,k _ C s1 ⟨λg ab=>⟨xs,J,L g ab,j g ab,?_⟩,λg i l ab Z=>?_,λg i l x H'' ab Z y=>?_⟩⟩
  ·rw[KP,M.len,O.len];omega
  ·obtain⟨c,d,Y,t,rfl⟩:=KO Z;obtain⟨x,f1,Q,_,_⟩:=M.get Y;obtain⟨y,f2,T,_,_⟩:=O.get t;exact⟨xs,J,x,y,L g ab,j g ab,Q,T⟩
  ·obtain⟨c,d,Y,t,rfl⟩:=KO Z;obtain⟨x',f1,Q,ix,sb⟩:=M.get Y;obtain⟨y',f2,T,iy,N⟩:=O.get t;obtain⟨q,z,z',hq,rfl,rfl,y1,y2⟩:=y;have:=y1 xs (L _ ab);rw[Q] at this;cases this;have:=y2 J (j _ ab);rw[T] at this;cases this;have F:=λp f=>u p (sub p (sb p f));have A:=λp f=>B p (D p (N p f));refine⟨Same.new hq _,f1++f2,Is.tup Zl ?_,λp f=>?_⟩
   ·exact Iss.cons ((ix.ab ab h F).mono (Same.new hq _)) (Iss.one ((iy.ab ab h A).mono (Same.new hq _)))
   ·rcases ah.mp f with f | f
    ·exact⟨Is.dom _ _ _ ix p f,F p f⟩
    ·exact⟨Is.dom _ _ _ iy p f,A p f⟩
 ·cases e
end
inductive Tgt where
 | one (i:Nat) | many (is:List Nat)
noncomputable def Tgt.slots:Tgt->List Nat
 | .one i=>[i]
 | .many is=>is
noncomputable def setAll:List Nat->List PV->ZG->ZG
 | i::is,l::ls,s=>setAll is ls (s.set i (ag l))
 | _,_,s=>s
noncomputable def YU:List Nat->List V->RJ->RJ
 | i::is,l::ls,s=>YU is ls (s.set i (ag l))
 | _,_,s=>s
noncomputable def Xy:Tgt->PV->ZG->Option ZG
 | .one i,l,s=>ag (s.set i (ag l))
 | .many is,.tup ls,s=>if ls.length=is.length then ag (setAll is ls s) else aA
 | _,_,_=>aA
noncomputable def Iw:List Nat->TGs
 | []=>Zii
 | i::is=>Zd3 (Sr i) (Iw is)
noncomputable def gT(K:aE):Tgt->TG
 | .one i=>Sr i
 | .many is=>Zij K is.length (Iw is)
theorem PZ:∀{is:List Nat}{vs:List V}{U:RJ}{H:Hp}{Q:RJ->Hp->Prop},vs.length=is.length->Q (YU is vs U) H->Iw is vs U H Q
 | [],[],_,_,_,_,q=>⟨rfl,q⟩
 | [],_::_,_,_,_,h,_=>by simp at h
 | _::_,[],_,_,_,h,_=>by simp at h
 | i::is,v::vs,U,H,Q,h,q=>⟨v,vs,rfl,PZ (is:=is) (vs:=vs) (by simpa using h) q⟩
theorem Iy{T:Tgt}{l:PV}{v:V}{b:List aK}{s d:ZG}{H:Hp}(h:Is K H l v b)(e:Xy T l s=ag d) :
  ∃ls vs fs,d=setAll T.slots ls s/\Iss K H ls vs fs/\ls.length=T.slots.length/\(∀p∈fs,p∈b)/\∀U (Q:RJ->Hp->Prop),Q (YU T.slots vs U) H->gT K T v U H Q:=by
 cases T with
 | one i=>
  cases e;exact⟨[l],[v],b,rfl,Iss.one h,rfl,λp a=>a,λU Q q=>q⟩
 | many is=>
  cases l with
  | tup ls=>
   have e:(if ls.length=is.length then ag (VL.setAll is ls s) else aA)=ag d:=e;split at e
   ·cases e;obtain⟨p,xs,rfl,a,c⟩:=h.tup_inv;exact⟨ls,xs,b,rfl,c,by assumption,λp a=>a,λU Q q=>⟨p,xs,rfl,SqT.of a,by rw[c.len];assumption,PZ (by rw[c.len];assumption) q⟩⟩
   ·cases e
  | _=>cases e
theorem VU:∀{is:List Nat}{vs:List V}{U:RJ}{n:Nat},(∀i∈is,i<n)->(YU is vs U).drop n=U.drop n
 | [],_,_,_,_=>rfl
 | _::_,[],_,_,_=>rfl
 | i::is,v::vs,U,n,h=>by show(YU is vs (U.set i (ag v))).drop n=_;rw[VU (λj a=>h j (aR _ a))];have:=h i ao;rw[List.drop_set,oX this]
theorem EnvIs.set{c:aK->Prop}{H:Hp}{s:ZG}{U:RJ}{i:Nat}{l:PV}{v:V}{d:List aK}(h:EnvIs K c H s U)(q:s.length=U.length)(g:Is K H l v d)(n:∀p∈d,¬c p):EnvIs K c H (s.set i (ag l)) (U.set i (ag v)):=⟨λj a e=>by
 rw[bS] at e;by_cases b:i=j
 ·subst b;rw[oX rfl] at e;split at e
  ·cases e;exact⟨v,d,by rw[bS,oX rfl,oX (by omega)],g,n⟩
  ·cases e
 ·rw[oY b] at e;obtain⟨w,f,k,m,o⟩:=h.is j a e;exact⟨w,f,by rw[bS,oY b];exact k,m,o⟩⟩
theorem EnvIs.setAll{a:aK->Prop}{H:Hp}:∀{is:List Nat}{ls:List PV}{vs:List V}{fs:List aK}{s:ZG}{U:RJ},EnvIs K a H s U->s.length=U.length->Iss K H ls vs fs->(∀p∈fs,¬a p)->EnvIs K a H (VL.setAll is ls s) (YU is vs U)
 | [],_,_,_,_,_,h,_,_,_=>by unfold VL.setAll YU;exact h
 | i::is,[],vs,fs,s,U,h,_,hi,_=>by simp only[Iss] at hi;rw[hi.1];exact h
 | i::is,l::ls,vs,fs,s,U,h,hl,hi,n=>by obtain⟨x,r,f1,e,rfl,d,c,rfl⟩:=hi.inv;show EnvIs K a H (VL.setAll is ls (s.set i (ag l))) (YU is r (U.set i (ag x)));exact EnvIs.setAll (h.set hl d λp b=>n p (bA _ b)) (by rw[cR,cR];exact hl) c λp b=>n p (aq _ b)
noncomputable def ZP(n:Nat)(ix:List Nat)(s:ZG):ZG:=aQ n aA++ix.map (λi=>(s[i]?).join)
noncomputable def Vb(T:Tgt)(ft:XT)(fe:XE)(s0:ZG):List PV->Option (List PV)
 | []=>ag []
 | l::r=>(Xy T l s0).bind λs1=>(ft s1).bind λc=>if c=aC then(fe s1).bind λy=>(Vb T ft fe s0 r).map (y::·) else Vb T ft fe s0 r
noncomputable def Zt(n:Nat)(ix:List Nat)(fi:XL)(T:Tgt)(ft:XT)(fe:XE):XE:=λs=>(fi s).bind λls=>if ls.length<=10000 then(Vb T ft fe (ZP n ix s) ls).map .lst else aA
noncomputable def ZD:XT:=λ_=>ag aC
theorem N4{d:Type}{o:Option (Option d)}{a:d}(h:o.join=ag a):o=ag (ag a):=by
 cases o with
 | none=>cases h
 | some b=>cases b with
  | none=>cases h
  | some c=>cases h;rfl
theorem EnvIs.comp{f:aK->Prop}{H:Hp}{s:ZG}{U:RJ}{n:Nat}{ix:List Nat}(h:EnvIs K f H s U):EnvIs K f H (ZP n ix s) (Z4 n ix U):=⟨λi l e=>by
 unfold ZP at e;unfold Z4;by_cases d:i<n
 ·rw[au (by simpa using d),bc,oX d] at e;cases e
 ·rw[bH (by simpa using d),dR,aU] at e;rw[bH (by simpa using d),dR,aU]
  cases q:ix[i-n]? with
  | none=>rw[q] at e;cases e
  | some j=>
   rw[q] at e;have e:=N4 (bG e);obtain⟨v,g,a,b,c⟩:=h.is j l e;exact⟨v,g,by show ag ((U[j]?).join)=_;rw[a];rfl,b,c⟩⟩
theorem KQ(n:Nat)(ix:List Nat)(s:ZG)(U:RJ):(ZP n ix s).length=(Z4 n ix U).length:=by unfold ZP Z4;simp
theorem P0{T:Tgt}{d:XT}{b:XE}{e:ZG}{l:PV}{r f:List PV}(h:Vb T d b e (l::r)=ag f):∃s1 c,Xy T l e=ag s1/\d s1=ag c/\((c=aC/\∃y a,b s1=ag y/\Vb T d b e r=ag a/\f=y::a)\/(c=aB/\Vb T d b e r=ag f)):=by
 obtain⟨s1,i,h⟩:=Zd h;obtain⟨c,g,h⟩:=Zd h;refine⟨s1,c,i,g,?_⟩
 cases c with
 | true=>
  obtain⟨y,k,h⟩:=Zd h;obtain⟨a,j,rfl⟩:=map_some h;exact .inl ⟨rfl,y,a,k,j,rfl⟩
 | false=>
  exact .inr ⟨rfl,h⟩
theorem P4{b:Type}{l:List b}{i:Nat}{a:b}{r:List b}(h:l.drop i=a::r):l[i]?=ag a/\l.drop (i+1)=r:=by
 constructor
 ·have:=congrArg (λz=>z[0]?) h;simpa [gk] using this
 ·rw[<-List.drop_drop,h];rfl
section
variable {n:Nat} {ix:List Nat} {fi:XL} {T:Tgt} {ft:XT} {fe:XE}
theorem GQ(hT:∀i∈T.slots,i<n):∀U H Q,tF K (Zt n ix fi T ft fe) U H Q->PF n ix (iF K fi) (gT K T) (KA K ft) (tF K fe) U H Q:=λU H Q ⟨t,s,L,hd,env,e,k⟩=>by
 obtain⟨ls,e1,e⟩:=Zd e;split at e
 case isFalse=>cases e
 rename_i hlen;obtain⟨ys,e2,rfl⟩:=map_some e;refine⟨t,s,ls,hd,env,e1,λJ S s1 g=>?_⟩;have P:=λp b=>Same.mut s1 (hd p b)
 refine⟨λi m vs o=>m=ls.length-i/\i<=ls.length/\Same S o/\∃j o6 u,ys=j++o6/\j.length<=i/\Vb T ft fe (ZP n ix s) (ls.drop i)=ag o6/\Iss K o j vs u/\∀p∈u,¬t p,
  ⟨ls.length,by simp,eY _,Same.refl S,[],ys,[],rfl,aa _,e2,Iss.nil,λp b=>by simp at b⟩,?_⟩
 rintro i m vs o ⟨rfl,hi,d,j,o6,u,rfl,D,I,M,X⟩;refine⟨by rw[M.len];exact cO (lt_size (by omega)),?_⟩
 cases q:ls.drop i with
 | nil=>
  have R:i=ls.length:=by have:=congrArg iR q;simp at this;omega
  subst R;rw[q] at I;cases I;refine .inl ⟨g.stop o (Same.ab d),λp b=>k _ _ (p::u) (s1.trans (d.trans (Same.new b _))) ?_ λa N z=>?_⟩
  ·rw[cL];exact Is.lst Zl (M.mono (Same.new b _))
  ·rcases aX.mp N with rfl | N
   ·exact Xj (Same.mut (s1.trans d) (hd a z)) b
   ·exact X a N z
 | cons l r=>
  obtain⟨Y,hr⟩:=P4 q;have G:=(aS.mp Y).1;rw[q] at I;obtain⟨sb,c,eb,et,alt⟩:=P0 I
  refine .inr ⟨g.go o i l (Same.ab d) Y,λB W=>Same S W/\∃dn' rest' fp',j++o6=dn'++rest'/\dn'.length<=i+1/\Vb T ft fe (ZP n ix s) (ls.drop (i+1))=ag rest'/\Iss K W dn' B fp'/\∀p∈fp',¬t p,
   λB W h'=>⟨ls.length-(i+1),by omega,rfl,G,h'.1,h'.2⟩,λx H2 y=>?_⟩
  obtain⟨s2,fx,Z,nx⟩:=g.yld o i l x H2 (Same.ab d) Y y;have E:=λp b=>Same.mut (d.trans s2) (P p b);obtain⟨bl,bv,bf,rfl,bi,_,C,F⟩:=Iy Z eb;have A:EnvIs K t H2 (ZP n ix s) (Z4 n ix U):=(env.mono (s1.trans (d.trans s2))).comp;have f:=A.setAll (is:=T.slots) (KQ n ix s U) bi λp b=>(nx p (C p b)).2;refine F _ _ ⟨VU hT,t,_,c,E,f,et,λH3 w=>?_⟩;have hd3:=λp b=>Same.mut w (E p b);rcases alt with⟨rfl,y',zs,ey,O,rfl⟩ | ⟨rfl,O⟩
  ·refine Zi5 ?_;refine⟨t,_,y',hd3,f.mono w,ey,λv H4 f4 s4 i4 n4=>?_⟩;refine⟨d.trans (s2.trans (w.trans s4)),j++[y'],zs,u++f4,by rw[fX];rfl,by rw[aY];simp;exact D,by rw[hr];exact O,(M.mono (s2.trans (w.trans s4))).append (Iss.one i4),λp b=>?_⟩;rcases ah.mp b with h | h
   ·exact X p h
   ·exact n4 p h
  ·refine Zi4 ?_;exact⟨d.trans (s2.trans w),j,o6,u,rfl,iG D,by rw[hr];exact O,M.mono (s2.trans w),X⟩
theorem GR(hT:∀i∈T.slots,i<n):∀U H Q,tM K (Zt n ix fi T ft fe) U H Q->PF n ix (iF K fi) (gT K T) (KA K ft) (tM K fe) U H Q:=λU H Q ⟨s,L,env,e,k⟩=>by
 obtain⟨ls,e1,e⟩:=Zd e;split at e
 case isFalse=>cases e
 rename_i hlen;obtain⟨ys,e2,rfl⟩:=map_some e;have hd:∀(H:Hp) p,(λ_=>False:aK->Prop) p->Uq (H p):=λ_ _ z=>z.elim;refine⟨λ_=>False,s,ls,hd H,env,e1,λJ F s1 t=>?_⟩
 refine⟨λi m vs u=>m=ls.length-i/\i<=ls.length/\Same F u/\∃w o6 A,ys=w++o6/\w.length<=i/\Vb T ft fe (ZP n ix s) (ls.drop i)=ag o6/\Iss K u w vs A/\A.Nodup/\∀p∈A,F p=aA/\Uq (u p),
  ⟨ls.length,by simp,eY _,Same.refl F,[],ys,[],rfl,aa _,e2,Iss.nil,cF,λp d=>by simp at d⟩,?_⟩
 rintro i m vs u ⟨rfl,hi,f,w,o6,A,rfl,G,N,P,W,o⟩;refine⟨by rw[P.len];exact cO (lt_size (by omega)),?_⟩
 cases q:ls.drop i with
 | nil=>
  have S:i=ls.length:=by have:=congrArg iR q;simp at this;omega
  subst S;rw[q] at N;cases N;refine .inl ⟨t.stop u (Same.ab f),λp d=>k _ _ (p::A) (s1.trans (f.trans (Same.new d _))) ?_ (aw.mpr ⟨λz=>Xj (o p z).2 d,W⟩) λa B=>?_⟩
  ·rw[cL];exact Is.lst Zl (P.mono (Same.new d _))
  ·rcases aX.mp B with rfl | B
   ·exact⟨Same.off (s1.trans f) d,by rw[Zl];exact bY⟩
   ·exact⟨Same.off s1 (o a B).1,Same.mut (Same.new d _) (o a B).2⟩
 | cons l r=>
  obtain⟨Z,hr⟩:=P4 q;have M:=(aS.mp Z).1;rw[q] at N;obtain⟨sb,c,eb,et,alt⟩:=P0 N
  refine .inr ⟨t.go u i l (Same.ab f) Z,λD O=>Same F O/\∃dn' rest' fp',w++o6=dn'++rest'/\dn'.length<=i+1/\Vb T ft fe (ZP n ix s) (ls.drop (i+1))=ag rest'/\Iss K O dn' D fp'/\fp'.Nodup/\∀p∈fp',F p=aA/\Uq (O p),
   λD O h'=>⟨ls.length-(i+1),by omega,rfl,M,h'.1,h'.2⟩,λx Y y=>?_⟩
  obtain⟨s2,fx,ix',nx⟩:=t.yld u i l x Y (Same.ab f) Z y;obtain⟨bl,bv,bf,rfl,bi,_,E,I⟩:=Iy ix' eb;have C:EnvIs K (λ_=>False) Y (ZP n ix s) (Z4 n ix U):=(env.mono (s1.trans (f.trans s2))).comp;have j:=C.setAll (is:=T.slots) (KQ n ix s U) bi λp d=>(nx p (E p d)).2;refine I _ _ ⟨VU hT,λ_=>False,_,c,hd Y,j,et,λH3 g=>?_⟩;rcases alt with⟨rfl,y',zs,ey,R,rfl⟩ | ⟨rfl,R⟩
  ·refine Zi5 ?_;refine⟨_,y',j.mono g,ey,λv H4 f4 s4 i4 d4 X=>?_⟩;refine⟨f.trans (s2.trans (g.trans s4)),w++[y'],zs,A++f4,by rw[fX];rfl,by rw[aY];simp;exact G,by rw[hr];exact R,(P.mono (s2.trans (g.trans s4))).append (Iss.one i4),dJ.mpr ⟨W,d4,λa B b hb z=>?_⟩,λp d=>?_⟩
   ·subst z;exact Xj (Same.mut (s2.trans g) (o a B).2) (X a hb).1
   ·rcases ah.mp d with h | h
    ·exact⟨(o p h).1,Same.mut (s2.trans (g.trans s4)) (o p h).2⟩
    ·exact⟨Same.off (f.trans (s2.trans g)) (X p h).1,(X p h).2⟩
  ·refine Zi4 ?_;exact⟨f.trans (s2.trans g),w,o6,A,rfl,iG G,by rw[hr];exact R,P.mono (s2.trans g),W,λp d=>⟨(o p d).1,Same.mut (s2.trans g) (o p d).2⟩⟩
end
noncomputable def VTs(X:Cx)(o9:List bB)(f:XT):Prop:=Ij X o9 (KA X.K f)
section
variable {X:Cx} {tg oV iter c:bB} {o9:List bB} {scope:du} {pos:da} {fi:XL} {T:Tgt} {ft:XT} {fe:XE}
theorem Z9:VTs X [] ZD:=λa s U H Q I ⟨d,b,c,hd,env,e,k⟩=>by cases e;exact Za1 a s U H Q I (k H (Same.refl H))
theorem SN(h:VT X c ft):VTs X [c] ft:=Za2 h
theorem Xm(own fr:List aj)(ix:List Nat)(b:X.calm=aC)(g:VI X tg iter fi)(S:VJ X.N X.env.scope scope own fr ix=aC)
  (c:∀cl C s H a,PG (ZH X (own++fr) scope cl C s H a) tg (gT X.K T)) (e:∀cl C s H a,VTs (ZH X (own++fr) scope cl C s H a) o9 ft) (d:∀cl C s H a,VE (ZH X (own++fr) scope cl C s H a) oV fe)
  (f:∀i∈T.slots,i<own.length:=by decide) (hs:∀x,bq iter X.env x=pure x:=by intro _;rfl):VE X (.ListComp oV [⟨tg,iter,o9,0⟩] scope pos) (Zt own.length ix fi T ft fe):=
 PE.imp (Kx own fr ix b g S c (λcl C s H a=>(show Ij (ZH X (own++fr) scope cl C s H a) o9 (KA X.K ft) from e cl C s H a)) (λcl C s H a=>(show PE (ZH X (own++fr) scope cl C s H a) oV (tF X.K fe) from d cl C s H a)) hs) (GQ f)
theorem U2(own fr:List aj)(ix:List Nat)(b:X.calm=aC)(g:VI X tg iter fi)(S:VJ X.N X.env.scope scope own fr ix=aC)
  (c:∀cl C s H a,PG (ZH X (own++fr) scope cl C s H a) tg (gT X.K T)) (e:∀cl C s H a,VTs (ZH X (own++fr) scope cl C s H a) o9 ft) (d:∀cl C s H a,VM (ZH X (own++fr) scope cl C s H a) oV fe)
  (f:∀i∈T.slots,i<own.length:=by decide) (hs:∀x,bq iter X.env x=pure x:=by intro _;rfl):VM X (.ListComp oV [⟨tg,iter,o9,0⟩] scope pos) (Zt own.length ix fi T ft fe):=
 PE.imp (Kx own fr ix b g S c (λcl C s H a=>(show Ij (ZH X (own++fr) scope cl C s H a) o9 (KA X.K ft) from e cl C s H a)) (λcl C s H a=>(show PE (ZH X (own++fr) scope cl C s H a) oV (tM X.K fe) from d cl C s H a)) hs) (GR f)
end
noncomputable def W3(xs:List PV)(lo hi:Option Int):List PV:=(xs.drop (HT.sIx xs.length 0 lo)).take (HT.sIx xs.length xs.length hi-HT.sIx xs.length 0 lo)
theorem Iss.cut{H:Hp}{l:List PV}{xs:List V}{f:List aK}(lo e:Option Int)(h:Iss K H l xs f):∃f1,Iss K H (W3 l lo e) (Eg xs lo e) f1/\∀p∈f1,p∈f:=by unfold W3 Eg;rw[h.len];obtain⟨f1,a,b⟩:=h.drop (HT.sIx l.length 0 lo);obtain⟨g,c,d⟩:=a.take (HT.sIx l.length l.length e-HT.sIx l.length 0 lo);exact⟨g,c,λp i=>b p (d p i)⟩
abbrev XO:=ZG->Option (Option Int)
noncomputable def tFO(K:aE)(f:XO):TO:=λU H Q=>∃(Rm:aK->Prop) (s:ZG) (i:Option Int),(∀p,Rm p->Uq (H p))/\EnvIs K Rm H s U/\f s=ag i/\∀H',Same H H'->Q i H'
noncomputable def VO(X:Cx)(e:Option bB)(f:XO):Prop:=PO X e (tFO X.K f)
noncomputable def Rw:XO:=λ_=>ag aA
noncomputable def TJ(f:XE):XO:=λs=>match f s with | some (.int i)=>ag (ag i) | _=>aA
noncomputable def VZ(x:PV)(lo hi:Option Int):Option PV:=match x with | .lst l=>ag (.lst (W3 l lo hi)) | .cst l=>ag (.lst (W3 l lo hi)) | _=>aA
noncomputable def Tu(x:PV)(lo hi:Option Int):Option PV:=match x with | .tup l=>if HT.sIx l.length 0 lo=0/\HT.sIx l.length l.length hi=l.length then aA else ag (.tup (W3 l lo hi)) | _=>aA
noncomputable def SO(g:PV->Option Int->Option Int->Option PV)(a:XE)(lo hi:XO):XE:=λs=>(a s).bind λx=>(lo s).bind λl=>(hi s).bind λu=>g x l u
section
variable {X:Cx} {e:bB} {lo hi:Option bB} {p2 pos:da} {fa:XE} {fl fh:XO}
theorem XW:VO X aA Rw:=λa s U H Q I ⟨c,b,i,hd,env,e,k⟩=>by cases e;exact Zar a s U H Q I (k H (Same.refl H))
theorem XX{e:bB}(h:VE X e fa):VO X (ag e) (TJ fa):=λf s U H Q I ⟨c,g,i,hd,env,e,k⟩=>by
 unfold TJ at e;split at e
 ·cases e;rename_i j a;exact Zas h f s U H Q I ⟨c,g,.int j,hd,env,a,λv d l b i n=>⟨j,i.int_inv.1,k d b⟩⟩
 ·cases e
theorem Wu(u:VE X e fa)(B:VO X lo fl)(y:VO X j fh):VE X (.Subscript e (.Slice lo j aA p2) pos) (SO VZ fa fl fh):=PE.imp (Ko Zau u B y) λU H Q ⟨m,s,l,hd,env,e,k⟩=>by
 obtain⟨x,w,e⟩:=Zd e;obtain⟨a,t,e⟩:=Zd e;obtain⟨b,A,e⟩:=Zd e;refine⟨m,s,x,hd,env,w,λv E D s1 n o=>⟨m,s,a,λp g=>Same.mut s1 (hd p g),env.mono s1,t,λC s2=>⟨m,s,b,λp g=>Same.mut (s1.trans s2) (hd p g),env.mono (s1.trans s2),A,λG i=>?_⟩⟩⟩
 cases x with
 | lst l=>
  cases e;obtain⟨p,xs,F,rfl,g,j,rfl⟩:=(n.mono (s2.trans i)).lst_inv;obtain⟨f1,c,d⟩:=j.cut a b;refine⟨p,xs,rfl,SqL.of g,λq f=>k _ _ (q::f1) (s1.trans (s2.trans (i.trans (Same.new f _)))) (Is.lst Zl (c.mono (Same.new f _))) λr h z=>?_⟩;rcases aX.mp h with rfl | h
  ·exact Xj (Same.mut (s1.trans (s2.trans i)) (hd r z)) f
  ·exact o r (aR _ (d r h)) z
 | cst l=>
  cases e;obtain⟨p,xs,rfl,g,j⟩:=(n.mono (s2.trans i)).cst_inv;obtain⟨f1,c,d⟩:=j.cut a b;refine⟨p,xs,rfl,g.sq,λq f=>k _ _ (q::f1) (s1.trans (s2.trans (i.trans (Same.new f _)))) (Is.lst Zl (c.mono (Same.new f _))) λr h z=>?_⟩;rcases aX.mp h with rfl | h
  ·exact Xj (Same.mut (s1.trans (s2.trans i)) (hd r z)) f
  ·exact o r (d r h) z
 | _=>cases e
theorem U3(o:VE X e fa)(B:VO X lo fl)(w:VO X g fh):VE X (.Subscript e (.Slice lo g aA p2) pos) (SO Tu fa fl fh):=PE.imp (Ko Zfz o B w) λU H Q ⟨h,s,l,hd,env,e,k⟩=>by
 obtain⟨x,t,e⟩:=Zd e;obtain⟨a,n,e⟩:=Zd e;obtain⟨b,y,e⟩:=Zd e;refine⟨h,s,x,hd,env,t,λv E D s1 z A=>⟨h,s,a,λp f=>Same.mut s1 (hd p f),env.mono s1,n,λC s2=>⟨h,s,b,λp f=>Same.mut (s1.trans s2) (hd p f),env.mono (s1.trans s2),y,λF m=>?_⟩⟩⟩
 cases x with
 | tup l=>
  unfold Tu at e;simp only at e;split at e
  ·cases e
  ·rename_i i;cases e;obtain⟨p,xs,rfl,f,g⟩:=(z.mono (s2.trans m)).tup_inv;obtain⟨f1,c,d⟩:=g.cut a b;refine⟨p,xs,rfl,SqT.of f,by rw[g.len];exact i,λq j=>k _ _ f1 (s1.trans (s2.trans (m.trans (Same.new j _)))) (Is.tup Zl (c.mono (Same.new j _))) λr u=>A r (d r u)⟩
 | _=>cases e
end
end VL
namespace VL
open PySem PySem.Spec PyProof.Rows L2
variable {K:aE}
structure Rel(K:aE)(O:List Nat)(H0:Hp)(fps:Nat->List aK)(s:ZG)(U:RJ)(H:Hp):Prop where
 same:Same H0 H
 len:s.length=U.length
 is:∀(i:Nat) l,s[i]?=ag (ag l)->∃v,U[i]?=ag (ag v)/\Is K H l v (fps i)
 emp:∀(i:Nat),(∀l,s[i]?≠ag (ag l))->fps i=[]
 nd:∀i∈O,(fps i).Nodup
 own:∀i∈O,∀p∈fps i,H0 p=aA/\Uq (H p)
 dis:∀i∈O,∀j,j≠i->∀p∈fps i,p∉fps j
noncomputable def Ow(O:List Nat)(fps:Nat->List aK)(p:aK):Prop:=∃i∈O,p∈fps i
noncomputable def Xn(O:List Nat)(s:ZG):ZG:=O.foldl (λs i=>s.set i aA) s
theorem P5:∀{O:List Nat}{s:ZG}{i:Nat}{l:PV},(Xn O s)[i]?=ag (ag l)->i∉O/\s[i]?=ag (ag l)
 | [],s,i,l,h=>⟨by simp,h⟩
 | o::O,s,i,l,h=>by
  obtain⟨b,a⟩:=P5 (O:=O) (s:=s.set o aA) h;rw[bS] at a;by_cases e:o=i
  ·rw[oX e] at a;split at a<;>cases a
  ·rw[oY e] at a;exact⟨by simp only[aX,not_or];exact⟨λz=>e z.symm,b⟩,a⟩
section
variable {O:List Nat} {H0 H H':Hp} {fps:Nat->List aK} {s:ZG} {U:RJ}
theorem Rel.at(r:Rel K O H0 fps s U H)(i:Nat){p:aK}(c:p∈fps i):∃l v,s[i]?=ag (ag l)/\U[i]?=ag (ag v)/\Is K H l v (fps i):=by
 cases q:s[i]? with
 | none=>rw[r.emp i (λl z=>by rw[q] at z;cases z)] at c;simp at c
 | some o=>cases o with
  | none=>rw[r.emp i (λl z=>by rw[q] at z;cases z)] at c;simp at c
  | some l=>
   obtain⟨v,a,b⟩:=r.is i l q;exact⟨l,v,rfl,a,b⟩
theorem Rel.dom(r:Rel K O H0 fps s U H)(i:Nat):∀p∈fps i,H p≠aA:=λp a=>by obtain⟨l,v,_,_,b⟩:=r.at i a;exact Is.dom _ _ _ b p a
theorem Rel.env(r:Rel K O H0 fps s U H):EnvIs K (λ_=>False) H s U:=⟨λi l e=>by
 obtain⟨v,a,b⟩:=r.is i l e;exact⟨v,_,a,b,λ_ _ z=>z⟩⟩
theorem Rel.envO(r:Rel K O H0 fps s U H):EnvIs K (Ow O fps) H (Xn O s) U:=⟨λi l e=>by
 obtain⟨n,e⟩:=P5 e;obtain⟨v,a,b⟩:=r.is i l e;exact⟨v,_,a,b,λp f ⟨j,d,c⟩=>r.dis j d i (λz=>n (z▸d)) p c f⟩⟩
theorem Rel.owMut(r:Rel K O H0 fps s U H):∀p,Ow O fps p->Uq (H p):=λp ⟨i,a,b⟩=>(r.own i a p b).2
theorem Rel.grow(r:Rel K O H0 fps s U H)(e:Same H H'):Rel K O H0 fps s U H':=
 ⟨r.same.trans e,r.len,λi l q=>by obtain⟨v,a,b⟩:=r.is i l q;exact⟨v,a,b.mono e⟩,r.emp,r.nd,λi c p d=>⟨(r.own i c p d).1,Same.mut e (r.own i c p d).2⟩,r.dis⟩
theorem Rel.less{F:Hp}(r:Rel K O F fps s U H)(e:Same H0 F):Rel K O H0 fps s U H:=
 ⟨e.trans r.same,r.len,r.is,r.emp,r.nd,λi a p b=>⟨Same.off e (r.own i a p b).1,(r.own i a p b).2⟩,r.dis⟩
theorem Rel.weak{O':List Nat}(r:Rel K O H0 fps s U H)(h:∀i∈O',i∈O):Rel K O' H0 fps s U H:=
 ⟨r.same,r.len,r.is,r.emp,λi a=>r.nd i (h i a),λi a=>r.own i (h i a),λi a=>r.dis i (h i a)⟩
open Classical in
noncomputable def QR(H:Hp)(Rm:aK->Prop):Hp:=λb=>if Rm b then aA else H b
theorem Eu{a:aK->Prop}:Same (QR H a) H:=λb o h=>by
 unfold QR at h;split at h
 ·cases h
 ·exact h
theorem Rel.frame(r:Rel K O H0 fps s U H):Rel K O (QR H (Ow O fps)) fps s U H:=
 ⟨Eu,r.len,r.is,r.emp,r.nd,λi a p b=>⟨by unfold QR;rw[oX ⟨i,a,b⟩],(r.own i a p b).2⟩,r.dis⟩
theorem Rel.under(r:Rel K O H0 fps s U H):Same H0 (QR H (Ow O fps)):=λb o h=>by unfold QR;rw[oY (λ⟨i,a,c⟩=>by rw[(r.own i a b c).1] at h;cases h)];exact r.same b o h
open Classical in
noncomputable def RM(fps:Nat->List aK)(n:Nat)(i:Nat)(fp:List aK):Nat->List aK:=λj=>if j=i/\i<n then fp else fps j
theorem Ya{n i j:Nat}{a:List aK}(h:j≠i):RM fps n i a j=fps j:=by unfold RM;rw[oY (λz=>h z.1)]
theorem GS{n i:Nat}{a:List aK}(h:i<n):RM fps n i a i=a:=by unfold RM;rw[oX ⟨rfl,h⟩]
theorem Rel.set(r:Rel K O H0 fps s U H){i:Nat}{l:PV}{v:V}{f:List aK}(q:Is K H l v f)(o:i∈O->f.Nodup/\∀p∈f,H0 p=aA/\Uq (H p))
  (hd:∀j,j≠i->(j∈O\/i∈O)->∀p∈f,p∉fps j):Rel K O H0 (RM fps s.length i f) (s.set i (ag l)) (U.set i (ag v)) H:=by
 by_cases c:i<s.length
 ·have g:RM fps s.length i f i=f:=GS c;refine⟨r.same,by rw[cR,cR];exact r.len,λj a e=>?_,λj h=>?_,λj b=>?_,λj b p d=>?_,λj b k n p d=>?_⟩
  ·rw[bS] at e;by_cases b:i=j
   ·subst b;rw[oX rfl,oX c] at e;cases e;rw[g];exact⟨v,by rw[bS,oX rfl,oX (by rw[<-r.len];exact c)],q⟩
   ·rw[oY b] at e;obtain⟨w,t,u⟩:=r.is j a e;rw[Ya (bP b)];exact⟨w,by rw[bS,oY b];exact t,u⟩
  ·by_cases b:i=j
   ·subst b;exact absurd (by rw[bS,oX rfl,oX c]) (h l)
   ·rw[Ya (bP b)];exact r.emp j λa z=>h a (by rw[bS,oY b];exact z)
  ·by_cases e:j=i
   ·subst e;rw[g];exact(o b).1
   ·rw[Ya e];exact r.nd j b
  ·by_cases e:j=i
   ·subst e;rw[g] at d;exact(o b).2 p d
   ·rw[Ya e] at d;exact r.own j b p d
  ·by_cases e:j=i
   ·subst e;rw[g] at d;rw[Ya n];exact hd k n (.inr b) p d
   ·rw[Ya e] at d;by_cases m:k=i
    ·subst m;rw[g];exact λz=>hd j e (.inl b) p z d
    ·rw[Ya m];exact r.dis j b k n p d
 ·have g:s.set i (ag l)=s:=gV (by omega);have m:U.set i (ag v)=U:=gV (by rw[<-r.len];omega);have x:RM fps s.length i f=fps:=by funext j;unfold RM;rw[oY (λz=>c z.2)]
  rw[g,m,x];exact r
theorem Rel.mutate(r:Rel K O H0 fps s U H){i:Nat}(t:i∈O){p:aK}(n:p∈fps i){o:HO}{A:PV}{v:V}{d:List aK}(J:U[i]?=ag (ag v))(g:i<s.length)
  (h':Is K (upd H p o) A v d) (C:d.Nodup) (F:∀q∈d,H0 q=aA/\Uq (upd H p o q)) (hd:∀j,j≠i->∀q∈d,q∉fps j) (I:Uq (ag o)):Rel K O H0 (RM fps s.length i d) (s.set i (ag A)) U (upd H p o):=by
 have l:=(r.own i t p n).2;have D:=(r.own i t p n).1;have m:RM fps s.length i d i=d:=GS g
 have tk:TK2 H (upd H p o):=⟨λb xs h=>by
  rw[upd_ne (λz=>by rw[z] at h;rw[h] at l;exact l)];exact h,λb o xs h=>by
  rw[upd_ne (λz=>by rw[z] at h;rw[h] at l;exact l)];exact h,λb o x h=>by
  rw[upd_ne (λz=>by rw[z] at h;rw[h] at l;exact l)];exact h⟩
 refine⟨λb u h=>by rw[upd_ne (Zn h D)];exact r.same b u h,by rw[cR];exact r.len,λj a e=>?_,λj h=>?_,λj c=>?_,λj c q f=>?_,λj c k y q f=>?_⟩
 ·rw[bS] at e;by_cases c:i=j
  ·subst c;rw[oX rfl,oX g] at e;cases e;rw[m];exact⟨v,J,h'⟩
  ·rw[oY c] at e;obtain⟨w,E,G⟩:=r.is j a e;rw[Ya (bP c)];refine⟨w,E,Is.tr tk _ _ _ (λq f=>RdK.of λu L=>?_) G⟩;have ne:q≠p:=λz=>r.dis i t j (bP c) p n (z▸f);rw[upd_ne ne];exact L
 ·by_cases c:i=j
  ·subst c;exact absurd (by rw[bS,oX rfl,oX g]) (h A)
  ·rw[Ya (bP c)];exact r.emp j λa z=>h a (by rw[bS,oY c];exact z)
 ·by_cases e:j=i
  ·subst e;rw[m];exact C
  ·rw[Ya e];exact r.nd j c
 ·by_cases e:j=i
  ·subst e;rw[m] at f;exact F q f
  ·rw[Ya e] at f;refine⟨(r.own j c q f).1,?_⟩;have ne:q≠p:=λz=>r.dis j c i (bP e) q f (z▸n);rw[upd_ne ne];exact(r.own j c q f).2
 ·by_cases e:j=i
  ·subst e;rw[m] at f;rw[Ya y];exact hd k y q f
  ·rw[Ya e] at f;by_cases B:k=i
   ·subst B;rw[m];exact λz=>hd j e q z f
   ·rw[Ya B];exact r.dis j c k y q f
end
noncomputable def Kep(a b:List aK):Prop:=a=b\/a=[]
theorem Kep.refl(a:List aK):Kep a a:=.inl rfl
theorem Kep.trans{a b c:List aK}(h:Kep a b)(k:Kep b c):Kep a c:=by
 rcases h with rfl | h
 ·exact k
 ·exact .inr h
inductive Out where
 | nx (s:ZG) | rt (l:PV) | bk (s:ZG) | ct (s:ZG)
abbrev XS:=ZG->Option Out
noncomputable def OutOk(K:aE)(O W:List Nat)(H0:Hp)(fps:Nat->List aK)(U:RJ)(D:Yz):Out->Prop
 | .nx s'=>∀o8 U' H',Rel K O H0 o8 s' U' H'->(∀j,j∉W->U'[j]?=U[j]?/\Kep (o8 j) (fps j))->D.nx U' H'
 | .bk s'=>∀o8 U' H',Rel K O H0 o8 s' U' H'->(∀j,j∉W->U'[j]?=U[j]?/\Kep (o8 j) (fps j))->D.bk U' H'
 | .ct s'=>∀o8 U' H',Rel K O H0 o8 s' U' H'->(∀j,j∉W->U'[j]?=U[j]?/\Kep (o8 j) (fps j))->D.ct U' H'
 | .rt l=>∀v fp H',Same H0 H'->Is K H' l v fp->fp.Nodup->(∀p∈fp,H0 p=aA/\Uq (H' p))->D.rt v H'
noncomputable def tFS(K:aE)(O W:List Nat)(f:XS):TS:=λD U H=>∃H0 fps s out,Rel K O H0 fps s U H/\f s=ag out/\OutOk K O W H0 fps U D out
noncomputable def VS(X:Cx)(O W:List Nat)(st:ba)(f:XS):Prop:=PS X st (tFS X.K O W f)
noncomputable def VSs(X:Cx)(O W:List Nat)(st:List ba)(f:XS):Prop:=PSs X st (tFS X.K O W f)
theorem OutOk.same{O W g:List Nat}{i:Hp}{fps b:Nat->List aK}{U U1:RJ}{D:Yz}{c:Out}(h:OutOk K O g i fps U D c)(k:∀j,j∉g->U1[j]?=U[j]?/\Kep (b j) (fps j))(hs:∀j,j∉g->j∉W):OutOk K O W i b U1 D c:=by
 cases c with
 | nx s'=>exact λf d e r q=>h f d e r λj a=>⟨(q j (hs j a)).1.trans (k j a).1,(q j (hs j a)).2.trans (k j a).2⟩
 | bk s'=>exact λf d e r q=>h f d e r λj a=>⟨(q j (hs j a)).1.trans (k j a).1,(q j (hs j a)).2.trans (k j a).2⟩
 | ct s'=>exact λf d e r q=>h f d e r λj a=>⟨(q j (hs j a)).1.trans (k j a).1,(q j (hs j a)).2.trans (k j a).2⟩
 | rt l=>exact h
theorem OutOk.less{O W:List Nat}{j F:Hp}{fps:Nat->List aK}{U:RJ}{D:Yz}{a:Out}(h:OutOk K O W j fps U D a)(e:Same j F):OutOk K O W F fps U D a:=by
 cases a with
 | nx s'=>exact λf c b r q=>h f c b (r.less e) q
 | bk s'=>exact λf c b r q=>h f c b (r.less e) q
 | ct s'=>exact λf c b r q=>h f c b (r.less e) q
 | rt l=>exact λv m b k i d n=>h v m b (e.trans k) i d λp g=>⟨Same.off e (n p g).1,(n p g).2⟩
noncomputable def Yh:XS:=λs=>ag (.nx s)
noncomputable def Zm(f g:XS):XS:=λs=>(f s).bind λo=>match o with | .nx s'=>g s' | r=>ag r
noncomputable def T5(c:XT)(f g:XS):XS:=λs=>(c s).bind λk=>if k=aC then f s else g s
noncomputable def ZO(f:XE):XS:=λs=>(f s).map .rt
noncomputable def Zu(i:Nat)(f:XE):XS:=λs=>(f s).map λl=>.nx (s.set i (ag l))
section
variable {X:Cx} {O W W1 W2:List Nat} {st:ba} {o6:List ba} {f g:XS} {pos:da}
theorem PS.imp{t t':TS}(h:PS X st t)(i:∀D U H,t' D U H->t D U H):PS X st t':=λa s U H D I q=>h a s U H D I (i D U H q)
theorem PSs.imp{t t':TS}(h:PSs X o6 t)(i:∀D U H,t' D U H->t D U H):PSs X o6 t':=λa s U H D I q=>h a s U H D I (i D U H q)
theorem CM:∀D U H,tFS K O W Yh D U H->Zd0 D U H:=λD U H ⟨b,fps,s,a,r,e,k⟩=>by cases e;exact k fps U H r λj _=>⟨rfl,Kep.refl _⟩
theorem Yb:VSs X O [] [] Yh:=PSs.imp Zag CM
theorem Zi(h:VS X O W st f):VSs X O W [st] f:=ME h
theorem Ze(u:VS X O W1 st f)(v:VSs X O W2 o6 g):VSs X O (W1++W2) (st::o6) (Zm f g):=PSs.imp (Sq u v) λD U H ⟨t,fps,s,h,r,e,k⟩=>by
 obtain⟨q,w,e⟩:=Zd e;have a:∀j,j∉W1++W2->j∉W1:=λj b z=>b (bA _ z);have d:∀j,j∉W1++W2->j∉W2:=λj b z=>b (aq _ z);refine⟨t,fps,s,q,r,w,?_⟩
 cases q with
 | nx s1=>
  intro c U1 A y x;exact⟨t,c,s1,h,y,e,k.same (λj b=>x j (a j b)) d⟩
 | bk s1=>cases e;exact λn i m p o=>k n i m p λj b=>o j (a j b)
 | ct s1=>cases e;exact λn i m p o=>k n i m p λj b=>o j (a j b)
 | rt l=>cases e;exact k
theorem Y8{c:bB}{a b:List ba}{n:XT}(q:VT X c n)(o:VSs X O W1 a f)(t:VSs X O W2 b g):VS X O (W1++W2) (.If c a b pos) (T5 n f g):=PS.imp (Zd1 q o t) λD U H ⟨m,fps,s,d,r,e,k⟩=>by
 obtain⟨c,p,e⟩:=Zd e;have h:∀j,j∉W1++W2->j∉W1:=λj l z=>l (bA _ z);have i:∀j,j∉W1++W2->j∉W2:=λj l z=>l (aq _ z);refine⟨λ_=>False,s,c,λ_ z=>z.elim,r.env,p,λu s1=>?_⟩
 cases c with
 | true=>
  exact⟨m,fps,s,d,r.grow s1,e,k.same (λj _=>⟨rfl,Kep.refl _⟩) h⟩
 | false=>
  exact⟨m,fps,s,d,r.grow s1,e,k.same (λj _=>⟨rfl,Kep.refl _⟩) i⟩
theorem Zv{e:bB}{b:XE}(m:VM X e b):VS X O [] (.Return (ag e) pos) (ZO b):=PS.imp (J6 m) λD U H ⟨o,fps,s,c,r,e,k⟩=>by obtain⟨l,g,rfl⟩:=map_some e;exact⟨s,l,r.env,g,λv h j f i d n=>k v j h (r.same.trans f) i d λp a=>⟨Same.off r.same (n p a).1,(n p a).2⟩⟩
theorem Q3{e:bB}{i:Nat}(f:PE X e (TV i))(c:i∈O:=by decide):VS X O [] (.Return (ag e) pos) (ZO (Za i)):=PS.imp (J6 f) λD U H ⟨h,fps,s,d,r,e,k⟩=>by obtain⟨l,g,rfl⟩:=map_some e;obtain⟨v,a,b⟩:=r.is i l (N0 g);exact⟨v,a,k v _ H r.same b (r.nd i c) (r.own i c)⟩
theorem GU{t:TE}{i:Nat}{b:XE}(h:∀U H Q,tM K b U H Q->t U H Q):∀D U H,tFS K O [i] (Zu i b) D U H->J7 t (Sr i) D U H:=λD U H ⟨u,fps,s,c,r,e,k⟩=>by
 obtain⟨l,m,rfl⟩:=map_some e;refine h U H _ ⟨s,l,r.env,m,λv o q g is d n=>?_⟩;refine k _ _ o ((r.grow g).set is (λ_=>⟨d,λp a=>⟨Same.off r.same (n p a).1,(n p a).2⟩⟩) λj _ _ p a z=>r.dom j p z (n p a).1) λj f=>?_;have:j≠i:=by simpa using f
 exact⟨by rw[bS,oY (bP this)],.inl (Ya this)⟩
theorem Zgi{i:Nat}{x:aj}{e:bB}{a:XE}{pos':da}(d:X.N.Nodup)(f:X.N[i]?=ag x)(b:DS X.env.scope x)(c:VM X e a)(hs:eK e (ag (.Name x pos')) pos.line X.env=pure aB:=by rfl)(g:X.fn x=aC\/X.env.scope.names.lookup x=ag .local:=by first | exact .inl rfl | exact .inr rfl | assumption) :
  VS X O [i] (.Assign [.Name x pos'] e pos) (Zu i a):=PS.imp (Zfk d f b c hs g) (GU λ_ _ _ h=>h)
end
noncomputable def Vs(T:Tgt)(fb:XS):List PV->ZG->Option Out
 | [],s=>ag (.nx s)
 | l::r,s=>(Xy T l s).bind λs1=>(fb s1).bind λo=>match o with | .nx s2=>Vs T fb r s2 | .ct s2=>Vs T fb r s2 | .bk s2=>ag (.nx s2) | .rt v=>ag (.rt v)
noncomputable def YN(O:List Nat)(fi:XL)(T:Tgt)(fb:XS):XS:=λs=>(fi (Xn O s)).bind λls=>Vs T fb ls s
theorem Rel.setAll{O:List Nat}{m H:Hp}:∀{is:List Nat}{ls:List PV}{vs:List V}{fs:List aK}{fps:Nat->List aK}{s:ZG}{U:RJ},Rel K O m fps s U H->Iss K H ls vs fs->ls.length=is.length->(∀i∈is,i∉O)->(∀i∈O,∀p∈fps i,p∉fs)->
  ∃k,Rel K O m k (VL.setAll is ls s) (YU is vs U) H/\∀j,j∉is->(YU is vs U)[j]?=U[j]?/\Kep (k j) (fps j)
 | [],ls,vs,fs,fps,s,U,r,_,_,_,_=>⟨fps,by unfold VL.setAll YU;exact r,λj _=>⟨by unfold YU;rfl,Kep.refl _⟩⟩
 | i::is,[],vs,fs,fps,s,U,r,_,hl,_,_=>by simp at hl
 | i::is,l::ls,vs,fs,fps,s,U,r,hi,hl,hO,hd=>by
  obtain⟨x,v,f1,w,rfl,n,o,rfl⟩:=hi.inv;have g:=hO i ao
  have q:=r.set (i:=i) n (λz=>absurd z g) λj f c p h z=>by
   rcases c with c | c
   ·exact hd j c p z (bA _ h)
   ·exact absurd c g
  obtain⟨k,u,t⟩:=Rel.setAll (is:=is) q o (by simpa using hl) (λj f=>hO j (aR _ f)) λj f p h z=>by have d:j≠i:=λe=>g (by rw[<-e];exact f);rw[Ya d] at h;exact hd j f p h (aq _ z)
  refine⟨k,u,λj f=>?_⟩;have d:j≠i:=λe=>f (e▸ao);obtain⟨a,b⟩:=t j (λz=>f (aR _ z));exact⟨a.trans (by rw[bS,oY (bP d)]),b.trans (.inl (Ya d))⟩
section
variable {O W:List Nat} {T:Tgt} {fb:XS}
theorem CN{B:Hp}{fps:Nat->List aK}{s:ZG}{U:RJ}{D:Yz}{J:It}{ls:List PV}{t:Out}(r:Rel K O (QR B (Ow O fps)) fps s U B)(C:JIs K (Ow O fps) B J ls)(e:Vs T fb ls s=ag t)(hT:∀i∈T.slots,i∉O)
  (k:OutOk K O (T.slots++W) (QR B (Ow O fps)) fps U D t):Zlp (gT K T) (tFS K O W fb) D U J B:=by
 have u:∀j,j∉T.slots++W->j∉T.slots:=λj a z=>a (bA _ z);have c:∀j,j∉T.slots++W->j∉W:=λj a z=>a (aq _ z)
 refine⟨λi m L E=>m=ls.length-i/\i<=ls.length/\∃P Z,Rel K O (QR B (Ow O fps)) P Z L E/\Vs T fb (ls.drop i) Z=ag t/\∀j,j∉T.slots++W->L[j]?=U[j]?/\Kep (P j) (fps j),
  ⟨ls.length,by simp,eY _,fps,s,r,e,λj _=>⟨rfl,Kep.refl _⟩⟩,?_⟩
 rintro i m L E ⟨rfl,hi,P,Z,Q,g,Y⟩;have ab:=λb o h n=>Q.same b o (by unfold QR;rw[oY n];exact h)
 cases q:ls.drop i with
 | nil=>
  have S:i=ls.length:=by have:=congrArg iR q;simp at this;omega
  subst S;rw[q] at g;cases g;exact .inl ⟨C.stop E ab,k P L E Q Y⟩
 | cons l rr=>
  obtain⟨X,hr⟩:=P4 q;have H:=(aS.mp X).1;rw[q] at g;obtain⟨sb,eb,g⟩:=Zd g;obtain⟨o,eo,g⟩:=Zd g
  refine .inr ⟨C.go E i l ab X,λU2 N=>∃fps2 s2,Rel K O (QR B (Ow O fps)) fps2 s2 U2 N/\Vs T fb (ls.drop (i+1)) s2=ag t/\∀j,j∉T.slots++W->U2[j]?=U[j]?/\Kep (fps2 j) (fps j),
   λU2 N h2=>⟨ls.length-(i+1),by omega,rfl,H,h2⟩,λx N y=>?_⟩
  obtain⟨s2,fx,ix,nx⟩:=C.yld E i l x N ab X y;obtain⟨bl,bv,bf,rfl,bi,F,G,I⟩:=Iy ix eb;obtain⟨A,r3,q3⟩:=Rel.setAll (Q.grow s2) bi F hT λj a p hp z=>by obtain⟨n1,n2⟩:=nx p (G p z);have:=(Q.own j a p hp).1;unfold QR at this;rw[oY n2] at this;exact n1 this
  refine I _ _ ⟨_,A,_,o,r3,eo,?_⟩;have d:∀j,j∉T.slots++W->(YU T.slots bv L)[j]?=U[j]?/\Kep (A j) (fps j):=λj a=>⟨(q3 j (u j a)).1.trans (Y j a).1,(q3 j (u j a)).2.trans (Y j a).2⟩
  cases o with
  | nx s4=>exact λf U4 R M w=>⟨f,s4,M,by rw[hr];exact g,λj a=>⟨(w j (c j a)).1.trans (d j a).1,(w j (c j a)).2.trans (d j a).2⟩⟩
  | ct s4=>exact λf U4 R M w=>⟨f,s4,M,by rw[hr];exact g,λj a=>⟨(w j (c j a)).1.trans (d j a).1,(w j (c j a)).2.trans (d j a).2⟩⟩
  | bk s4=>
   cases g;exact λf U4 R M w=>k f U4 R M λj a=>⟨(w j (c j a)).1.trans (d j a).1,(w j (c j a)).2.trans (d j a).2⟩
  | rt v=>
   cases g;exact k
end
section
variable {X:Cx} {O W:List Nat} {tg iter:bB} {body:List ba} {fi:XL} {T:Tgt} {fb:XS} {pos:da}
theorem Zgj(h:ky (model X.prog X.w) X.A X.env X.xe)(j:X.calm=aC)(b:VI X tg iter fi)(d:PG X tg (gT X.K T))(l:VSs X O W body fb)(f:∀i∈T.slots,i∉O:=by decide)
  (hs:∀x,bq iter X.env x=pure x:=by intro _;rfl):VS X O (T.slots++W) (.For tg iter body [] pos) (YN O fi T fb):=PS.imp (Zfp h j b d l hs) λD U H ⟨n,fps,s,c,r,e,k⟩=>by
 obtain⟨ls,g,e⟩:=Zd e;refine⟨Ow O fps,Xn O s,ls,r.owMut,r.envO,g,λJ m s1 a=>?_⟩;exact CN (r.grow s1).frame a e f (k.less (r.grow s1).under)
end
noncomputable def Y2(c:XT)(fb:XS):Nat->ZG->Option Out
 | 0,_=>aA
 | n+1,s=>(c s).bind λk=>if k=aC then(fb s).bind λo=>match o with | .nx s2=>Y2 c fb n s2 | .ct s2=>Y2 c fb n s2 | .bk s2=>ag (.nx s2) | .rt v=>ag (.rt v) else ag (.nx s)
theorem Ut{c:XT}{fb:XS}:∀{n:Nat}{s:ZG}{o:Out},Y2 c fb n s=ag o->Y2 c fb (n+1) s=ag o
 | 0,_,_,h=>by cases h
 | n+1,s,o,h=>by
  unfold Y2 at h ⊢;obtain⟨k,d,h⟩:=Zd h;rw[d]
  cases k with
  | false=>exact h
  | true=>
   rw[oX rfl] at h;obtain⟨a,b,h⟩:=Zd h;simp only[aV,if_true,b]
   cases a with
   | nx s2=>exact Ut h
   | ct s2=>exact Ut h
   | bk s2=>exact h
   | rt v=>exact h
theorem N5{c:XT}{fb:XS}{n m:Nat}{s:ZG}{o:Out}(h:Y2 c fb n s=ag o)(a:n<=m):Y2 c fb m s=ag o:=by
 induction m with
 | zero=>
  have:n=0:=by omega
  subst this;exact h
 | succ m ih=>
  by_cases e:n=m+1
  ·subst e;exact h
  ·exact Ut (ih (by omega))
open Classical in
noncomputable def WE(c:XT)(fb:XS):XS:=λs=>if h:∃n,(Y2 c fb n s).isSome=aC then Y2 c fb h.choose s else aA
theorem Ew{c:XT}{fb:XS}{n:Nat}{s:ZG}{o:Out}(h:Y2 c fb n s=ag o):WE c fb s=ag o:=by
 have a:∃n,(Y2 c fb n s).isSome=aC:=⟨n,by rw[h];rfl⟩;unfold WE;rw[dif_pos a];obtain⟨d,e⟩:=cT.mp a.choose_spec;rw[e];rcases Nat.le_total n a.choose with b | b
 ·rw[N5 h b] at e;exact e.symm
 ·rw[N5 e b] at h;exact h
section
variable {X:Cx} {O W:List Nat} {c:bB} {body:List ba} {fc:XT} {fb:XS} {pos:da}
theorem SQ(F:ky (model X.prog X.w) X.A X.env X.xe)(I:VT X c fc)(J:VSs X O W body fb):VS X O W (.While c body [] pos) (WE fc fb):=PS.imp (DZ F I J) λD U H ⟨x,fps,s,i,r,e,k⟩=>by
 unfold WE at e;split at e
 case isFalse=>cases e
 rename_i B;generalize B.choose=n at e;refine⟨λm u A=>∃l q,Rel X.K O x l q u A/\Y2 fc fb m q=ag i/\∀j,j∉W->u[j]?=U[j]?/\Kep (l j) (fps j),⟨n,fps,s,r,e,λj _=>⟨rfl,Kep.refl _⟩⟩,?_⟩;rintro m u A ⟨l,q,y,f,h⟩
 cases m with
 | zero=>cases f
 | succ m=>
  obtain⟨b,E,f⟩:=Zd f;refine⟨λ_=>False,q,b,λ_ z=>z.elim,y.env,E,λt s2=>?_⟩
  cases b with
  | false=>
   cases f;exact k l u t (y.grow s2) h
  | true=>
   obtain⟨o,G,f⟩:=Zd f;refine⟨λU2 t=>∃fps2 s2,Rel X.K O x fps2 s2 U2 t/\Y2 fc fb m s2=ag i/\∀j,j∉W->U2[j]?=U[j]?/\Kep (fps2 j) (fps j),λU2 t C=>⟨m,fF m,C⟩,x,l,q,o,y.grow s2,G,?_⟩
   cases o with
   | nx s4=>exact λa U4 w p g=>⟨a,s4,p,f,λj d=>⟨(g j d).1.trans (h j d).1,(g j d).2.trans (h j d).2⟩⟩
   | ct s4=>exact λa U4 w p g=>⟨a,s4,p,f,λj d=>⟨(g j d).1.trans (h j d).1,(g j d).2.trans (h j d).2⟩⟩
   | bk s4=>
    cases f;exact λa U4 w p g=>k a U4 w p λj d=>⟨(g j d).1.trans (h j d).1,(g j d).2.trans (h j d).2⟩
   | rt v=>cases f;exact k
end
end VL
namespace VL
open PySem PySem.Spec PyProof.Rows L2
variable {K:aE}
section
variable {O:List Nat} {H0 H H':Hp} {fps:Nat->List aK} {s:ZG} {U:RJ}
theorem Rel.lst_at(r:Rel K O H0 fps s U H){i:Nat}(h:i∈O){m:List PV}(e:s[i]?=ag (ag (.lst m))):∃p xs c,U[i]?=ag (ag (.ref p))/\H p=ag (.lst xs)/\Iss K H m xs c/\fps i=p::c:=by obtain⟨v,a,b⟩:=r.is i _ e;obtain⟨p,xs,c,rfl,g,d,f⟩:=b.lst_inv;exact⟨p,xs,c,a,g,d,f⟩
theorem Rel.dT_at(r:Rel K O H0 fps s U H){i:Nat}(l:i∈O){g:List (List YR)}{m:List PV}(e:s[i]?=ag (ag (.dT g m))):∃p o5 d,U[i]?=ag (ag (.ref p))/\H p=ag (.dT o5)/\o5.map (·.1)=g/\Iss K H m (o5.map (·.2)) d/\fps i=p::d:=by
 obtain⟨v,a,b⟩:=r.is i _ e;obtain⟨p,xs,d,rfl,c,j,k,f⟩:=b.dT_inv;refine⟨p,xs,d,a,?_,j,k,f⟩;have h:=(r.own i l p (by rw[f];exact ao)).2;rcases c with c | ⟨o,c⟩
 ·exact c
 ·rw[c] at h;exact h.elim
theorem Rel.dK_at(r:Rel K O H0 fps s U H){i:Nat}(l:i∈O){g:List YR}{m:List PV}(e:s[i]?=ag (ag (.dK g m))):∃p o5 d,U[i]?=ag (ag (.ref p))/\H p=ag (.dK o5)/\o5.map (·.1)=g/\Iss K H m (o5.map (·.2)) d/\fps i=p::d:=by
 obtain⟨v,a,b⟩:=r.is i _ e;obtain⟨p,xs,d,rfl,c,j,k,f⟩:=b.dK_inv;refine⟨p,xs,d,a,?_,j,k,f⟩;have h:=(r.own i l p (by rw[f];exact ao)).2;rcases c with c | ⟨o,c⟩
 ·exact c
 ·rw[c] at h;exact h.elim
theorem U4{b:Type}{l:List b}{i:Nat}{a:b}(h:l[i]?=ag a):i<l.length:=(aS.mp h).1
theorem TK.upd'{p:aK}{o:HO}(a:Uq (H p)):TK2 H (L2.upd H p o):=⟨λb xs h=>by
 rw[upd_ne (λz=>by rw[z] at h;rw[h] at a;exact a)];exact h,λb o xs h=>by
 rw[upd_ne (λz=>by rw[z] at h;rw[h] at a;exact a)];exact h,λb o x h=>by
 rw[upd_ne (λz=>by rw[z] at h;rw[h] at a;exact a)];exact h⟩
theorem RdK.upd_ne{p q:aK}{o:HO}(ne:q≠p):RdK H (L2.upd H p o) q:=RdK.of λu a=>by rw[L2.upd_ne ne];exact a
theorem Rel.relist(r:Rel K O H0 fps s U H){i:Nat}(c:i∈O){m n:List PV}(e:s[i]?=ag (ag (.lst m))){p:aK}{t b:List aK}{d:List V}(g:fps i=p::t)(w:U[i]?=ag (ag (.ref p)))
  (h':Iss K H n d b) (k:(p::b).Nodup) (u:∀q∈b,q∈t\/((H0 q=aA/\Uq (H q))/\∀j,q∉fps j)):Rel K O H0 (RM fps s.length i (p::b)) (s.set i (ag (.lst n))) U (L2.upd H p (.lst d)):=by
 have f:p∈fps i:=by rw[g];exact ao
 have v:=(r.own i c p f).2;have o:=(aw.mp k).1;refine r.mutate c f w (U4 e) (Is.lst Zl (Iss.tr (TK.upd' v) _ _ _ (λq a=>RdK.upd_ne λz=>o (z▸a)) h')) k (λq a=>?_) (λj l q a z=>?_) bY
 ·rcases aX.mp a with rfl | a
  ·exact⟨(r.own i c q f).1,by rw[Zl];exact bY⟩
  ·have ne:q≠p:=λz=>o (z▸a);rw[L2.upd_ne ne];rcases u q a with h | h
   ·exact r.own i c q (by rw[g];exact aR _ h)
   ·exact h.1
 ·rcases aX.mp a with rfl | a
  ·exact r.dis i c j l q f z
  ·rcases u q a with h | h
   ·exact r.dis i c j l q (by rw[g];exact aR _ h) z
   ·exact h.2 j z
end
noncomputable def N6(s:ZG)(i:Nat):Option (List PV):=match s[i]? with | some (ag (.lst m))=>ag m | _=>aA
noncomputable def DP:PV->Option Int
 | .int k=>ag k
 | _=>aA
noncomputable def asL:PV->Option (List PV)
 | .lst k=>ag k
 | _=>aA
theorem Uu{s:ZG}{i:Nat}{m:List PV}(h:N6 s i=ag m):s[i]?=ag (ag (.lst m)):=by
 unfold N6 at h;split at h
 ·cases h;assumption
 ·cases h
theorem SR{a:PV}{k:Int}(h:DP a=ag k):a = .int k:=by
 unfold DP at h;split at h
 ·cases h;rfl
 ·cases h
theorem KR{a:PV}{k:List PV}(h:asL a=ag k):a = .lst k:=by
 unfold asL at h;split at h
 ·cases h;rfl
 ·cases h
noncomputable def gd(c:Bool):Option Unit:=if c=aC then ag () else aA
theorem V0{c:Bool}{u:Unit}(h:gd c=ag u):c=aC:=by
 unfold gd at h;split at h
 ·assumption
 ·cases h
noncomputable def YJ(i:Nat)(f:XE):XS:=λs=>(f s).bind λl=>(N6 s i).bind λm=>(gd (decide (m.length<=10000))).bind λ_=>ag (.nx (s.set i (ag (.lst (m++[l])))))
noncomputable def Wm(i:Nat)(f:XE):XS:=λs=>(f s).bind λl=>(asL l).bind λn=>(N6 s i).bind λm=>(gd (decide (m.length+n.length<=10000))).bind λ_=>ag (.nx (s.set i (ag (.lst (m++n)))))
noncomputable def U5(i:Nat)(fk:XE)(f:XE):XS:=λs=>(fk s).bind λk=>(f s).bind λl=>(DP k).bind λk=>(N6 s i).bind λm=>(gd (ZE m&&ZT l&&decide (0<=k/\k<=1000000/\m.length<=10000))).bind λ_=>ag (.nx (s.set i (ag (.lst (m.take k.toNat++l::m.drop k.toNat)))))
noncomputable def T6(i:Nat)(fk:XE)(f:XE):XS:=λs=>(f s).bind λl=>(fk s).bind λk=>(DP k).bind λk=>(N6 s i).bind λm=>(gd (ZE m&&ZT l)).bind λ_=>(Kd m.length k).map λj=>.nx (s.set i (ag (.lst (m.set j l))))
section
variable {X:Cx} {O:List Nat} {i:Nat} {st:ba} {f fk:XE}
theorem tyL{H:Hp}{p:aK}{xs:List V}(h:H p=ag (.lst xs)):tyV K "list" (.ref p) H:=.inl ⟨rfl,_,SqL.of h⟩
theorem P6{s:ZG}{U:RJ}{fps:Nat->List aK}{b:List aK}:∀j,j∉[i]->U[j]?=U[j]?/\Kep (RM fps s.length i b j) (fps j):=λj a=>⟨rfl,.inl (Ya (by simpa using a))⟩
theorem Y9(h:PS X st (Kj (tBM X.K "list" Gw (TV i) (Tz (tM X.K f) Kl))))(d:i∈O:=by decide):VS X O [i] st (YJ i f):=PS.imp h λD U H ⟨P,fps,s,C,r,e,k⟩=>by
 obtain⟨l,F,e⟩:=Zd e;obtain⟨m,c,e⟩:=Zd e;obtain⟨_,B,e⟩:=Zd e;have c:=Uu c;have v:=of_decide_eq_true (V0 B);cases e;obtain⟨p,xs,N,x,w,u,n⟩:=r.lst_at d c;refine⟨.ref p,x,tyL w,s,l,r.env,F,λy L M s2 A G g=>?_⟩;refine⟨p,xs,y,rfl,rfl,s2 _ _ w,by rw[u.len];exact lt_size (by omega),?_⟩;have J:=r.grow s2;have fr:=λq o j z=>r.dom j q z (g q o).1;refine k _ _ _ (J.relist d c n x ((u.mono s2).append (Iss.one A)) ?_ λq o=>?_) P6
 ·have t:=r.nd i d;rw[n] at t;exact dJ.mpr ⟨t,G,λa E b I z=>fr b I i (by rw[n,<-z];exact E)⟩
 ·rcases ah.mp o with h | h
  ·exact .inl h
  ·exact .inr ⟨⟨Same.off r.same (g q h).1,(g q h).2⟩,fr q h⟩
theorem N7(h:PS X st (Kj (tBM X.K "list" Gx (TV i) (Tz (tM X.K f) Kl))))(d:i∈O:=by decide):VS X O [i] st (Wm i f):=PS.imp h λD U H ⟨W,fps,s,L,r,e,k⟩=>by
 obtain⟨l,B,e⟩:=Zd e;obtain⟨n,Q,e⟩:=Zd e;obtain⟨m,c,e⟩:=Zd e;obtain⟨_,J,e⟩:=Zd e;rw[KR Q] at B;have c:=Uu c;have A:=of_decide_eq_true (V0 J);cases e;obtain⟨p,xs,T,E,C,x,t⟩:=r.lst_at d c;refine⟨.ref p,E,tyL C,s,_,r.env,B,λy R S s2 I N o=>?_⟩;obtain⟨b,G,fb,rfl,u,F,rfl⟩:=I.lst_inv;have g:=u;refine⟨p,b,xs,G,rfl,rfl,s2 _ _ C,g,by rw[x.len,F.len];exact cO (lt_size (by omega)),?_⟩;have P:=r.grow s2;have fr:=λq v j z=>r.dom j q z (o q (aR _ v)).1;refine k _ _ _ (P.relist d c t E ((x.mono s2).append F) ?_ λq v=>?_) P6
 ·have w:=r.nd i d;rw[t] at w;exact dJ.mpr ⟨w,(aw.mp N).2,λa M b u z=>fr b u i (by rw[t,<-z];exact M)⟩
 ·rcases ah.mp v with h | h
  ·exact .inl h
  ·exact .inr ⟨⟨Same.off r.same (o q (aR _ h)).1,(o q (aR _ h)).2⟩,fr q h⟩
theorem Iss.pureEq{H:Hp}{l:List PV}{xs:List V}{a:List aK}(h:Iss K H l xs a)(b:ZE l=aC):Iss K H l xs []:=by have:=Iss.pure _ _ _ b h;subst this;exact h
theorem Iz{l:List PV}(n:Nat)(h:ZE l=aC):ZE (l.take n)=aC:=by rw[Vq,bN] at *;exact λx a=>h x (iX a)
theorem IA{l:List PV}(n:Nat)(h:ZE l=aC):ZE (l.drop n)=aC:=by rw[Vq,bN] at *;exact λx a=>h x (kg a)
theorem N8(h:PS X st (Kj (tBM X.K "list" GC (TV i) (Tz (tF X.K fk) (Tz (tF X.K f) Kl)))))(t:i∈O:=by decide):VS X O [i] st (U5 i fk f):=PS.imp h λD U H ⟨T,fps,s,E,r,e,k⟩=>by obtain⟨kk,B,e⟩:=Zd e;obtain⟨l,F,e⟩:=Zd e;obtain⟨j,J,e⟩:=Zd e;obtain⟨m,c,e⟩:=Zd e;obtain⟨_,C,e⟩:=Zd e;rw[SR J] at B;have c:=Uu c;have A:=V0 C;simp only[bC,decide_eq_true_eq] at A;obtain⟨⟨d,pl⟩,k0,k1,v⟩:=A;cases e;obtain⟨p,xs,R,x,w,u,G⟩:=r.lst_at t c;refine⟨.ref p,x,tyL w,λ_=>False,s,_,λ_ z=>z.elim,r.env,B,λz Q N s1 I _=>⟨λ_=>False,s,l,λ_ z=>z.elim,r.env.mono s1,F,λy M P s2 o _=>?_⟩⟩;have a:=s1.trans s2;obtain⟨rfl,_⟩:=I.int_inv;have:=Is.pure _ _ _ pl o;subst this;refine⟨p,xs,j,y,rfl,rfl,a _ _ w,k0,by omega,by rw[u.len];exact lt_size (by omega),?_⟩;have b:=(u.mono a).pureEq d;obtain⟨f1,g,_⟩:=b.take j.toNat;obtain⟨S,n,_⟩:=b.drop j.toNat;have g:=g.pureEq (Iz _ d);have n:=n.pureEq (IA _ d);exact k _ _ _ ((r.grow a).relist t c G x (g.append (Iss.cons o n)) (by simp) λq L=>by simp at L) P6
theorem P7(h:PS X st (J7 (tF X.K f) (Zfj (TV i) (tF X.K fk) Cf)))(c:i∈O:=by decide):VS X O [i] st (T6 i fk f):=PS.imp h λD U H ⟨P,fps,s,x,r,e,k⟩=>by obtain⟨l,F,e⟩:=Zd e;obtain⟨kk,n,e⟩:=Zd e;obtain⟨A,G,e⟩:=Zd e;obtain⟨m,b,e⟩:=Zd e;obtain⟨_,w,e⟩:=Zd e;rw[SR G] at n;have b:=Uu b;have t:=V0 w;simp only[bC] at t;obtain⟨d,pl⟩:=t;obtain⟨j,E,rfl⟩:=map_some e;obtain⟨p,xs,N,o,B,g,C⟩:=r.lst_at c b;refine⟨λ_=>False,s,l,λ_ z=>z.elim,r.env,F,λy M Q s1 u _=>?_⟩;refine⟨.ref p,o,λ_=>False,s,_,λ_ z=>z.elim,r.env.mono s1,n,λz J L s2 v _=>?_⟩;have a:=s1.trans s2;obtain⟨rfl,_⟩:=v.int_inv;have:=Is.pure _ _ _ pl u;subst this;refine⟨p,xs,A,j,rfl,rfl,a _ _ B,by rw[g.len];exact E,?_⟩;exact k _ _ _ ((r.grow a).relist c b C o (Iss.setP j d pl ((g.mono a).pureEq d) (u.mono s2)) (by simp) λq I=>by simp at I) P6
end
theorem Iss.setRow{H:Hp}{o:List V}:∀{m:List PV}{xs:List V}{fq:List aK}{j:Nat}{n n':List PV}{q:aK},Iss K H m xs fq->m[j]?=ag (.lst n)->xs[j]?=ag (.ref q)->fq.Nodup->Uq (H q)->ZE n=aC->Iss K (L2.upd H q (.lst o)) n' o []->
  Iss K (L2.upd H q (.lst o)) (m.set j (.lst n')) xs fq
 | [],_,_,_,_,_,_,_,e,_,_,_,_,_=>by simp at e
 | a::m,xs,fq,0,n,n',q,h,e,ex,nd,mu,pn,h'=>by obtain⟨x,r,f1,p,rfl,f,d,rfl⟩:=h.inv;simp at e ex;subst e ex;obtain⟨v,s,t,e,B,c,rfl⟩:=f.lst_inv;cases e;have:=Iss.pure _ _ _ pn c;subst this;have g:q∉p:=(aw.mp nd).1;exact Iss.cons (Is.lst Zl h') (Iss.tr (TK.upd' mu) _ _ _ (λz c=>RdK.upd_ne λe=>g (e▸c)) d)
 | a::m,xs,fq,j+1,n,n',q,h,e,ex,nd,mu,pn,h'=>by obtain⟨x,r,f1,p,rfl,f,d,rfl⟩:=h.inv;simp at e ex;obtain⟨w,k,i⟩:=dJ.mp nd;obtain⟨y,C,l,u,b⟩:=d.get e;rw[ex] at l;cases l;obtain⟨v,s,t,A,_,_,rfl⟩:=u.lst_inv;cases A;have g:q∉f1:=λz=>i q z q (b q ao) rfl;exact Iss.cons (Is.tr (TK.upd' mu) _ _ _ (λz c=>RdK.upd_ne λe=>g (e▸c)) f) (Iss.setRow d e ex k mu pn h')
noncomputable def Xo(i:Nat)(fa fb:XE)(f:XE):XS:=λs=>(f s).bind λl=>(fa s).bind λa=>(fb s).bind λb=>(DP a).bind λa=>(DP b).bind λb=>(N6 s i).bind λm=>(Kd m.length a).bind λj=>(m[j]?).bind λr=>(asL r).bind λn=>
 (gd (ZE n&&ZT l)).bind λ_=>(Kd n.length b).map λc=>.nx (s.set i (ag (.lst (m.set j (.lst (n.set c l))))))
theorem U6{X:Cx}{O:List Nat}{i:Nat}{st:ba}{f S fb:XE}(h:PS X st (J7 (tF X.K f) (Zfj (tOp (Zf0 X.K) (TV i) (tF X.K S)) (tF X.K fb) Cf)))(x:i∈O:=by decide):VS X O [i] st (Xo i S fb f):=PS.imp h λD U H ⟨H0,fps,s,out,r,e,k⟩=>by
 obtain⟨l,e0,e⟩:=Zd e;obtain⟨a,e1,e⟩:=Zd e;obtain⟨b,W,e⟩:=Zd e;obtain⟨ai,ea,e⟩:=Zd e;obtain⟨bi,eb,e⟩:=Zd e;obtain⟨m,F,e⟩:=Zd e;obtain⟨j,ej,e⟩:=Zd e;obtain⟨Xg,N,e⟩:=Zd e;obtain⟨n,er,e⟩:=Zd e;obtain⟨_,eg,e⟩:=Zd e;rw[SR ea] at e1;rw[SR eb] at W;rw[KR er] at N;have F:=Uu F;have hc:=V0 eg;simp only[bC] at hc;obtain⟨J,pl⟩:=hc;obtain⟨c,ec,rfl⟩:=map_some e;obtain⟨p,xs,fq,Z,Y,L,E⟩:=r.lst_at x F;refine⟨λ_=>False,s,l,λ_ z=>z.elim,r.env,e0,λy H1 fy s1 T _=>?_⟩;refine⟨.ref p,Z,λ_=>False,s,_,λ_ z=>z.elim,r.env.mono s1,e1,λz H2 fz s2 i2 _=>?_⟩;obtain⟨rfl,_⟩:=i2.int_inv;have g:=s1.trans s2;obtain⟨q,f1,t,iq,v⟩:=(L.mono g).get N;obtain⟨u,M,fz',rfl,P,hz,rfl⟩:=id iq.lst_inv;refine⟨p,xs,ai,.ref u,rfl,rfl,SqL.of (g _ _ Y),?_,λ_=>False,s,_,λ_ z=>z.elim,r.env.mono g,W,λw H3 fw G i3 _=>?_⟩
 ·unfold Rz;rw[L.len,ej];exact t
 obtain⟨rfl,_⟩:=i3.int_inv;have d:=g.trans G;have R:=r.grow d;have C:u∈fps i:=by rw[E];exact aR _ (v u ao)
 have mu:=(R.own i x u C).2;have B:=G _ _ P;have:=Is.pure _ _ _ pl T;subst this;refine⟨u,M,bi,c,rfl,rfl,B,by rw[hz.len];exact ec,?_⟩;have I:=r.nd i x;rw[E] at I;have Q:u≠p:=λz=>(aw.mp I).1 (z▸v u ao);have o:Iss X.K (L2.upd H3 u (.lst (M.set c y))) (n.set c l) (M.set c y) []:=Iss.tr (TK.upd' mu) _ _ _ (λq t=>by simp at t) (Iss.setP c J pl ((hz.mono G).pureEq J) (T.mono (s2.trans G)));have A:=Iss.setRow (L.mono d) N t (aw.mp I).2 mu J o;refine k _ _ _ (R.mutate x C Z (U4 F) (Is.lst (by rw[L2.upd_ne (bP Q)];exact d _ _ Y) A) I (λq t=>?_) (λj hj q t z=>r.dis i x j hj q (by rw[E];exact t) z) bY) P6;refine⟨(r.own i x q (by rw[E];exact t)).1,?_⟩;by_cases e:q=u
 ·subst e;rw[Zl];exact bY
 ·rw[L2.upd_ne e];exact(R.own i x q (by rw[E];exact t)).2
noncomputable def Zgk(i:Nat)(g:PV->PV->Option PV)(f:XE):XS:=λs=>match s[i]? with | some (ag a)=>(f s).bind λb=>(g a b).map λl=>.nx (s.set i (ag l)) | _=>aA
theorem Zbe{X:Cx}{O:List Nat}{i:Nat}{st:ba}{f:XE}{g:Int->Int->Int}(h:PS X st (Zik i (tF X.K f) (ipI g))):VS X O [i] st (Zgk i (gI g) f):=PS.imp h λD U H ⟨B,fps,s,d,r,e,k⟩=>by
 unfold Zgk at e;split at e
 case h_2=>cases e
 rename_i a ea;obtain⟨b,t,e⟩:=Zd e;obtain⟨l,q,rfl⟩:=map_some e;obtain⟨m,n,rfl,rfl,rfl⟩:=GI q;obtain⟨v,w,A⟩:=r.is i _ ea;refine⟨v,w,λ_=>False,s,_,λ_ z=>z.elim,r.env,t,λy u C s1 x _=>⟨m,n,A.int_inv.1,x.int_inv.1,?_⟩⟩;refine k _ _ u ((r.grow s1).set (Is.int _) (λ_=>⟨cF,λp c=>by simp at c⟩) λj _ _ p c=>by simp at c) λj o=>?_;have:j≠i:=by simpa using o
 exact⟨by rw[bS,oY (bP this)],.inl (Ya this)⟩
end VL
namespace VL
open PySem PySem.Spec PyProof.Rows L2
variable {K:aE}
noncomputable def M1:PV->Option YR
 | .int i=>ag (.inl i)
 | .str x=>ag (.inr x)
 | _=>aA
noncomputable def GV:List PV->Option (List YR)
 | []=>ag []
 | a::r=>(M1 a).bind λk=>(GV r).map (k::·)
noncomputable def Ex:PV->Option (List YR)
 | .tup l=>GV l
 | _=>aA
theorem Q4{H:Hp}{a:PV}{k:YR}{v:V}{b:List aK}(e:M1 a=ag k)(h:Is K H a v b):v=kV k/\b=[]:=by
 cases a with
 | int i=>cases e;exact h.int_inv
 | str x=>cases e;exact h.str_inv
 | _=>cases e
theorem KS{H:Hp}:∀{l:List PV}{ks:List YR}{xs:List V}{fp:List aK},GV l=ag ks->Iss K H l xs fp->xs=ks.map kV/\fp=[]
 | [],ks,xs,fp,e,h=>by cases e;simpa only[fL,Iss] using h
 | a::r,ks,xs,fp,e,h=>by obtain⟨k,d,e⟩:=Zd (show(M1 a).bind (λk=>(GV r).map (k::·))=ag ks from e);obtain⟨j,b,rfl⟩:=map_some e;obtain⟨x,g,f1,i,rfl,f,c,rfl⟩:=h.inv;obtain⟨rfl,rfl⟩:=Q4 d f;obtain⟨rfl,rfl⟩:=KS b c;exact⟨rfl,rfl⟩
theorem GW{H:Hp}{a:PV}{k:List YR}{v:V}{c:List aK}(e:Ex a=ag k)(h:Is K H a v c):∃b,v = .ref b/\H b=ag (.tup (k.map kV)):=by
 cases a with
 | tup l=>
  obtain⟨p,xs,rfl,f,d⟩:=h.tup_inv;obtain⟨rfl,_⟩:=KS (e) d;exact⟨p,rfl,f⟩
 | _=>cases e
section
variable {κ:Type} [DecidableEq κ]
noncomputable def V1(ks:List κ)(vs:List PV)(k:κ):Option PV:=((ks.zip vs).find? λz=>decide (z.1=k)).map (·.2)
noncomputable def N9(ks:List κ)(k:κ):List κ:=if k∈ks then ks else ks++[k]
noncomputable def Ma(ks:List κ)(vs:List PV)(k:κ)(v:PV):List PV:=if k∈ks then(ks.zip vs).map λz=>if z.1=k then v else z.2 else vs++[v]
theorem P8{H:Hp}:∀{o5:List (κ×V)}{l:List PV}{fq:List aK}(k:κ),Iss K H l (o5.map (·.2)) fq->
  (V1 (o5.map (·.1)) l k=aA/\Sw o5 k=aA)\/∃a x f,V1 (o5.map (·.1)) l k=ag a/\Sw o5 k=ag x/\Is K H a x f/\∀p∈f,p∈fq
 | [],l,fq,k,h=>.inl ⟨by unfold V1;simp,rfl⟩
 | kv::r,[],fq,k,h=>by have:=h.len;simp at this
 | kv::r,a::l,fq,k,h=>by
  obtain⟨x,s,f1,t,e,j,m,rfl⟩:=h.inv;cases e;by_cases c:kv.1=k
  ·refine .inr ⟨a,kv.2,f1,?_,Sx c,j,λp d=>bA _ d⟩;unfold V1;rw[ak,dU,dP];simp[c]
  ·have n:V1 ((kv::r).map (·.1)) (a::l) k=V1 (r.map (·.1)) l k:=by unfold V1;rw[ak,dU,dP];simp[c]
   rw[n,Sy c];rcases P8 (l:=l) k m with z | ⟨b,y,f,i,g,q,o⟩
   ·exact .inl z
   ·exact .inr ⟨b,y,f,i,g,q,λp d=>aq _ (o p d)⟩
theorem any_mem{a:List (κ×V)}{k:κ}:(a.any λb=>decide (b.1=k))=aC↔k∈a.map (·.1):=by simp
theorem GX{a:List (κ×V)}{k:κ}{x:V}:(Ul a k x).map (·.1)=N9 (a.map (·.1)) k:=by
 unfold Ul N9;by_cases h:k∈a.map (·.1)
 ·rw[oX (any_mem.mpr h),oX h,bQ];apply ar;intro z _;show(if z.1=k then(z.1,x) else z).1=z.1;split<;>rfl
 ·rw[oY (λz=>h (any_mem.mp z)),oY h,bM];rfl
theorem GY{H:Hp}{d:List (κ×V)}{l:List PV}{k:κ}{a:PV}{x:V}(h:Iss K H l (d.map (·.2)) [])(f:ZE l=aC)(j:Is K H a x [])(p:ZT a=aC):Iss K H (Ma (d.map (·.1)) l k a) ((Ul d k x).map (·.2)) []:=by
 unfold Ul Ma;by_cases c:k∈d.map (·.1)
 ·rw[oX (any_mem.mpr c),oX c];clear c
  induction d generalizing l with
  | nil=>
   have:=h.len
   cases l with
   | nil=>exact Iss.nil
   | cons _ _=>simp at this
  | cons kv r g=>
   cases l with
   | nil=>have:=h.len;simp at this
   | cons b l=>
    obtain⟨y,q,f1,t,e,i,m,s⟩:=h.inv;cases e;simp only[ZE,bC] at f;have o:=Is.pure _ _ _ f.1 i;have n:=Iss.pure _ _ _ f.2 m;subst o n;have g:=g m f.2;rw[ak,dU,ak,ak];by_cases e:kv.1=k
    ·rw[oX e,oX e];exact Iss.cons j g
    ·rw[oY e,oY e];exact Iss.cons i g
 ·rw[oY (λz=>c (any_mem.mp z)),oY c,bM];exact h.append (Iss.one j)
end
noncomputable def Uv:PV->PV->Option PV
 | .dK ks vs,k=>(M1 k).bind λk=>V1 ks vs k
 | .dT ks vs,k=>(Ex k).bind λk=>V1 ks vs k
 | _,_=>aA
noncomputable def dIn:PV->PV->Option Bool
 | .dK ks vs,k=>(M1 k).map λk=>(V1 ks vs k).isSome
 | .dT ks vs,k=>(Ex k).map λk=>(V1 ks vs k).isSome
 | _,_=>aA
theorem GZ{H:Hp}{d k:PV}{x y:V}{w B:List aK}(hd:Is K H d x w)(A:Is K H k y B){b:Bool}(e:dIn d k=ag b):∃a o,x = .ref a/\Eh H a y o/\o.isSome=b/\((Uv d k=aA/\o=aA)\/∃c v f,Uv d k=ag c/\o=ag v/\Is K H c v f/\∀p∈f,p∈w):=by
 cases d with
 | dK ks vs=>
  obtain⟨kk,l,rfl⟩:=map_some (e);obtain⟨p,i,C,rfl,n,rfl,j,rfl⟩:=hd.dK_inv;obtain⟨rfl,_⟩:=Q4 l A;refine⟨p,Sw i kk,rfl,.inl ⟨i,kk,n,rfl,rfl⟩,?_,?_⟩
  ·rcases P8 kk j with⟨h,g⟩ | ⟨a,v,f,h,g,_⟩<;>rw[h,g]<;>rfl
  ·show(Uv (.dK _ vs) k=aA/\_)\/_;have m:Uv (.dK (i.map (·.1)) vs) k=V1 (i.map (·.1)) vs kk:=by show(M1 k).bind _=_;rw[l];rfl
   rw[m];rcases P8 kk j with z | ⟨a,v,f,h,g,t,s⟩
   ·exact .inl z
   ·exact .inr ⟨a,v,f,h,g,t,λq u=>aR _ (s q u)⟩
 | dT ks vs=>
  obtain⟨kk,l,rfl⟩:=map_some (e);obtain⟨p,i,C,rfl,n,rfl,j,rfl⟩:=hd.dT_inv;obtain⟨b,rfl,D⟩:=GW l A;refine⟨p,Sw i kk,rfl,.inr ⟨i,kk,b,n,rfl,D,rfl⟩,?_,?_⟩
  ·rcases P8 kk j with⟨h,g⟩ | ⟨a,v,f,h,g,_⟩<;>rw[h,g]<;>rfl
  ·have m:Uv (.dT (i.map (·.1)) vs) k=V1 (i.map (·.1)) vs kk:=by show(Ex k).bind _=_;rw[l];rfl
   rw[m];rcases P8 kk j with z | ⟨a,v,f,h,g,t,s⟩
   ·exact .inl z
   ·exact .inr ⟨a,v,f,h,g,t,λq u=>aR _ (s q u)⟩
 | _=>cases e
theorem Zbf{d k c:PV}(h:Uv d k=ag c):dIn d k=ag aC:=by
 cases d with
 | dK ks vs=>
  obtain⟨kk,b,a⟩:=Zd (h);show(M1 k).map _=_;rw[b];show ag ((V1 ks vs kk).isSome)=_;rw[a];rfl
 | dT ks vs=>
  obtain⟨kk,b,a⟩:=Zd (h);show(Ex k).map _=_;rw[b];show ag ((V1 ks vs kk).isSome)=_;rw[a];rfl
 | _=>cases h
section
variable {X:Cx} {o i e f:bB} {fd fk fx:XE} {pos apos o7:da}
theorem CO:∀U H Q,tF K (Zk Uv fd fk) U H Q->Zea (tF K fd) (tF K fk) U H Q:=λU H Q ⟨h,s,l,hd,env,e,k⟩=>by
 obtain⟨d,kk,q,o,b⟩:=Vr e;refine⟨h,s,d,hd,env,q,λx C f1 s1 w A=>⟨h,s,kk,λp f=>Same.mut s1 (hd p f),env.mono s1,o,λy i D s2 j B=>?_⟩⟩;obtain⟨a,E,rfl,m,_,g⟩:=GZ (w.mono s2) j (Zbf b);rcases g with⟨z,_⟩ | ⟨c,v,fv,n,rfl,u,t⟩
 ·rw[z] at b;cases b
 ·rw[n] at b;cases b;exact⟨a,v,rfl,m,k v i fv (s1.trans s2) u λp f=>A p (t p f)⟩
theorem G0(b:X.A.units+1<eT)(a:VE X o fd)(c:VE X i fk)(hs:Zf5 i:=by exact λ_ _=>rfl):VE X (.Subscript o i pos) (Zk Uv fd fk):=PE.imp (Zax b a c hs) CO
noncomputable def Zbg(neg:Bool)(fk fd:XE):XE:=λs=>(fk s).bind λk=>(fd s).bind λd=>(dIn d k).map λb=>.bl (if neg then !b else b)
theorem IB:∀U H Q,tF K (Zbg aC fk fd) U H Q->GA (tF K fk) (tF K fd) U H Q:=λU H Q ⟨f,s,l,hd,env,e,k⟩=>by obtain⟨kk,m,e⟩:=Zd e;obtain⟨d,j,e⟩:=Zd e;obtain⟨b,n,rfl⟩:=map_some e;refine⟨f,s,kk,hd,env,m,λy u f1 s1 q w=>⟨f,s,d,λp c=>Same.mut s1 (hd p c),env.mono s1,j,λx g v s2 h t=>?_⟩⟩;obtain⟨a,o,rfl,i,rfl,_⟩:=GZ h (q.mono s2) n;exact⟨a,o,rfl,i,k _ g [] (s1.trans s2) (Is.bl _) λp c=>by simp at c⟩
theorem Ey(c:X.A.units+1<eT)(d:VE X i fk)(b:VE X o fd)(a:cY .NotIn o=aB:=by with_unfolding_all rfl):VT X (.Compare i [.NotIn] [o] pos) (xB (Zbg aC fk fd)):=PT.imp (DW (Ek c d b) a) λU H Q h=>GL IB U H Q (Zef U H Q h)
end
noncomputable def Zgl(d k v:PV):Option PV:=match d with
 | .dT ks vs=>(gd (ZE vs&&ZT v&&decide (ks.length<=10000))).bind λ_=>(Ex k).map λk=>.dT (N9 ks k) (Ma ks vs k v)
 | .dK ks vs=>(gd (ZE vs&&ZT v&&decide (ks.length<=10000))).bind λ_=>(M1 k).map λk=>.dK (N9 ks k) (Ma ks vs k v)
 | _=>aA
noncomputable def sDPut(i:Nat)(fk fv:XE):XS:=λs=>(fv s).bind λv=>(fk s).bind λk=>((s[i]?).join).bind λd=>(Zgl d k v).map λd=>.nx (s.set i (ag d))
theorem Zbh{X:Cx}{O:List Nat}{i:Nat}{st:ba}{R fv:XE}(h:PS X st (L2.sDPut (TV i) (tF X.K R) (tF X.K fv)))(l:i∈O:=by decide):VS X O [i] st (sDPut i R fv):=PS.imp h λD U H ⟨H0,fps,s,Z,r,e,k⟩=>by
 obtain⟨v,T,e⟩:=Zd e;obtain⟨kk,S,e⟩:=Zd e;obtain⟨d,t,e⟩:=Zd e;obtain⟨d',n,rfl⟩:=map_some e;have t:=N4 t
 cases d with
 | dT ks vs=>
  obtain⟨_,G,n⟩:=Zd (n);have A:=V0 G;simp only[bC,decide_eq_true_eq] at A;obtain⟨⟨m,pl⟩,f⟩:=A;obtain⟨J,Q,rfl⟩:=map_some n;obtain⟨p,N,fq,w,P,rfl,u,x⟩:=r.dT_at l t;refine⟨λ_=>False,s,v,λ_ z=>z.elim,r.env,T,λy H1 fy s1 B _=>⟨.ref p,w,λ_=>False,s,kk,λ_ z=>z.elim,r.env.mono s1,S,λz W Y s2 F _=>?_⟩⟩;have a:=s1.trans s2;obtain⟨b,rfl,hb⟩:=GW Q F;have I:=Is.pure _ _ _ pl B;subst I;have o:=(u.mono a).pureEq m;have E:=Iss.pure _ _ _ m u;subst E;have C:=r.grow a;have c:p∈fps i:=by rw[x];exact ao
  have L:=(C.own i l p c).2;refine⟨p,_,rfl,.inr ⟨N,J,b,a _ _ P,rfl,hb,by rw[<-aL (·.1)];exact lt_size f,rfl⟩,?_⟩;refine k _ _ _ (C.mutate l c w (U4 t) (Is.dT Zl GX (Iss.tr (TK.upd' L) _ _ _ (λq g=>by simp at g) (GY o m (B.mono s2) pl))) (by simp) (λq g=>?_) (λj M q g z=>r.dis i l j M q (by rw[x];exact g) z) bY) P6;rw[aN.mp g];exact⟨(r.own i l p c).1,by rw[Zl];exact bY⟩
 | dK ks vs=>
  obtain⟨_,G,n⟩:=Zd (n);have A:=V0 G;simp only[bC,decide_eq_true_eq] at A;obtain⟨⟨m,pl⟩,f⟩:=A;obtain⟨J,Q,rfl⟩:=map_some n;obtain⟨p,N,fq,w,P,rfl,u,x⟩:=r.dK_at l t;refine⟨λ_=>False,s,v,λ_ z=>z.elim,r.env,T,λy H1 fy s1 B _=>⟨.ref p,w,λ_=>False,s,kk,λ_ z=>z.elim,r.env.mono s1,S,λz W Y s2 F _=>?_⟩⟩;have a:=s1.trans s2;obtain⟨rfl,_⟩:=Q4 Q F;have I:=Is.pure _ _ _ pl B;subst I;have o:=(u.mono a).pureEq m;have E:=Iss.pure _ _ _ m u;subst E;have C:=r.grow a;have c:p∈fps i:=by rw[x];exact ao
  have L:=(C.own i l p c).2;refine⟨p,_,rfl,.inl ⟨N,J,a _ _ P,rfl,by rw[<-aL (·.1)];exact lt_size f,rfl⟩,?_⟩;refine k _ _ _ (C.mutate l c w (U4 t) (Is.dK Zl GX (Iss.tr (TK.upd' L) _ _ _ (λq g=>by simp at g) (GY o m (B.mono s2) pl))) (by simp) (λq g=>?_) (λj M q g z=>r.dis i l j M q (by rw[x];exact g) z) bY) P6;rw[aN.mp g];exact⟨(r.own i l p c).1,by rw[Zl];exact bY⟩
 | _=>cases n
end VL
namespace VL
open PySem PySem.Spec PyProof.Rows L2
variable {K:aE}
section
variable {X:Cx} {a b c d:bB} {fa fb fc fd:XE} {pos:da}
theorem G1(d:X.A.units+64<eT)(e:VE X a fa)(c:VE X b fb):VE X (.Compare a [.Eq] [b] pos) (Zk (Xx aB) fa fb):=PQ (CH d) (MY aB) e c (VH _)
theorem Zjk(d:X.A.units+64<eT)(e:VE X a fa)(c:VE X b fb):VE X (.Compare a [.NotEq] [b] pos) (Zk (Xx aC) fa fb):=PQ (CI d) (MY aC) e c (VH _)
theorem TM(d:X.A.units+64<eT)(e:VE X a fa)(c:VE X b fb):VT X (.Compare a [.Eq] [b] pos) (xB (Zk (Xx aB) fa fb)):=TZ (CH d) (MY aB) e c (VH _)
theorem TN(d:X.A.units+64<eT)(e:VE X a fa)(c:VE X b fb):VT X (.Compare a [.NotEq] [b] pos) (xB (Zk (Xx aC) fa fb)):=TZ (CI d) (MY aC) e c (VH _)
theorem CP(e:X.A.units+64<eT)(f:VE X a fa)(d:VE X b fb)(c:cY .In b=aB:=by with_unfolding_all rfl):VE X (.Compare a [.In] [b] pos) (Zk (Nw aB) fa fb):=PQ (CJ e) (Iv aB) f d c
theorem CQ(e:X.A.units+64<eT)(f:VE X a fa)(d:VE X b fb)(c:cY .In b=aB:=by with_unfolding_all rfl):VT X (.Compare a [.In] [b] pos) (xB (Zk (Nw aB) fa fb)):=TZ (CJ e) (Iv aB) f d c
theorem P9(e:X.A.units+64<eT)(f:VE X a fa)(d:VE X b fb)(c:cY .NotIn b=aB:=by with_unfolding_all rfl):VT X (.Compare a [.NotIn] [b] pos) (xB (Zk (Nw aC) fa fb)):=TZ (Ep e) (Iv aC) f d c
noncomputable def blO:PV->Option Bool
 | .bl c=>ag c
 | _=>aA
end
section
variable {X:Cx} {a b:bB} {fa fb:XE} {pos:da}
noncomputable def Ez:PV->PV->Option PV
 | .lst m,.lst n=>if m.length+n.length<=10000 then ag (.lst (m++n)) else aA
 | _,_=>aA
noncomputable def Mc:PV->PV->Option PV
 | .lst m,.lst n=>if m.length+n.length<=10000/\ZE m=aC/\ZE n=aC then ag (.lst (m++n)) else aA
 | _,_=>aA
theorem M3(u:VE X a fa)(D:VE X b fb):VM X (.BinOp a .Add b pos) (Zk Mc fa fb):=PE.imp (Gq Cg u D) λU H Q ⟨s,l,env,e,k⟩=>by
 obtain⟨h,j,v,t,e⟩:=Vr e;refine⟨λ_=>False,s,h,λ_ z=>z.elim,env,v,λx I f1 s1 E _=>⟨λ_=>False,s,j,λ_ z=>z.elim,env.mono s1,t,λy G J s2 o _=>?_⟩⟩
 cases h with
 | lst m=>cases j with
  | lst n=>
   have e:(if m.length+n.length<=10000/\ZE m=aC/\ZE n=aC then ag (PV.lst (m++n)) else aA)=ag l:=e;split at e
   case isFalse=>cases e
   rename_i g;cases e;obtain⟨p,xs,L,rfl,w,i,rfl⟩:=E.lst_inv;obtain⟨A,F,C,rfl,d,c,rfl⟩:=o.lst_inv;refine⟨p,A,xs,F,rfl,rfl,s2 _ _ w,d,by rw[i.len,c.len];exact cO (lt_size g.1),λq f=>?_⟩;refine k _ _ [q] (s1.trans (s2.trans (Same.new f _))) (Is.lst Zl ((((i.mono s2).pureEq g.2.1).append (c.pureEq g.2.2)).mono (Same.new f _))) (by simp) λr B=>?_;rw[aN.mp B];exact⟨Same.off (s1.trans s2) f,by rw[Zl];exact bY⟩
  | _=>cases e
 | _=>cases e
noncomputable def IC:PV->PV->Option PV
 | .lst m,.int k=>if ZE m=aC/\-1000000<=k/\k<=1000000/\m.length*k.toNat<=10000 then ag (.lst (aQ k.toNat m).flatten) else aA
 | _,_=>aA
theorem Iss.rep{H:Hp}{m:List PV}{xs:List V}(h:Iss K H m xs []):∀k:Nat,Iss K H (aQ k m).flatten (aQ k xs).flatten []
 | 0=>Iss.nil
 | k+1=>by rw[dO,dO,fV,fV];exact h.append (Iss.rep h k)
theorem ID(o:VE X a fa)(w:VE X b fb):VM X (.BinOp a .Mult b pos) (Zk IC fa fb):=PE.imp (Gq Zf4 o w) λU H Q ⟨s,l,env,e,k⟩=>by
 obtain⟨d,g,t,j,e⟩:=Vr e;refine⟨λ_=>False,s,d,λ_ z=>z.elim,env,t,λx C f1 s1 A _=>⟨λ_=>False,s,g,λ_ z=>z.elim,env.mono s1,j,λy B D s2 i _=>?_⟩⟩
 cases d with
 | lst m=>cases g with
  | int n=>
   have e:(if ZE m=aC/\-1000000<=n/\n<=1000000/\m.length*n.toNat<=10000 then ag (PV.lst (aQ n.toNat m).flatten) else aA)=ag l:=e;split at e
   case isFalse=>cases e
   rename_i h;cases e;obtain⟨p,xs,E,rfl,u,f,rfl⟩:=A.lst_inv;refine⟨p,n,xs,rfl,i.int_inv.1,s2 _ _ u,by omega,by omega,by rw[f.len];exact cO (lt_size h.2.2.2),λq c=>?_⟩;refine k _ _ [q] (s1.trans (s2.trans (Same.new c _))) (Is.lst Zl ((Iss.rep ((f.mono s2).pureEq h.1) n.toNat).mono (Same.new c _))) (by simp) λr v=>?_;rw[aN.mp v];exact⟨Same.off (s1.trans s2) c,by rw[Zl];exact bY⟩
  | _=>cases e
 | _=>cases e
end
theorem Iss.fps{H:Hp}:∀{ls:List PV}{vs:List V}{fp:List aK},Iss K H ls vs fp->∃fps:Nat->List aK,(∀(i:Nat) l,ls[i]?=ag l->∃v,vs[i]?=ag v/\Is K H l v (fps i))/\∀i,ls.length<=i->fps i=[]
 | [],vs,fp,h=>⟨λ_=>[],λi l e=>by simp at e,λ_ _=>rfl⟩
 | a::ls,vs,fp,h=>by
  obtain⟨x,r,f1,j,rfl,g,d,rfl⟩:=h.inv;obtain⟨fps,f,p2⟩:=d.fps;refine⟨λi=>match i with | 0=>f1 | k+1=>fps k,λi l e=>?_,λi c=>?_⟩
  ·cases i with
   | zero=>simp at e;subst e;exact⟨x,rfl,g⟩
   | succ k=>
    obtain⟨v,a,b⟩:=f k l (by simpa using e);exact⟨v,by simpa using a,b⟩
  ·cases i with
   | zero=>simp at c
   | succ k=>exact p2 k (by simpa using c)
noncomputable def ZK(m:Nat)(ls:List PV):ZG:=ls.map ag++aQ (m-ls.length) aA
noncomputable def Oa:Out->Option PV
 | .rt v=>ag v
 | .nx _=>ag .non
 | _=>aA
noncomputable def YL(m:Nat)(f:XS):List PV->Option PV:=λls=>(f (ZK m ls)).bind Oa
theorem M4{N:List aj}{n:Nat}{O W:List Nat}{f:XS}{vs:List V}{H:Hp}{Q:VK}{E:XK}(w:∀i∈O,n<=i)(h:Y0 K (YL N.length f) n vs H Q E):tFS K O W f { nx:=λ_ s=>Q .non s,rt:=Q } (L2.start N vs) H:=by
 obtain⟨M,ls,A,l,g,e,q⟩:=h;obtain⟨o,F,u⟩:=Zd e;obtain⟨fps,B,p2⟩:=g.fps;have k:=g.len
 have t:∀i:Nat,ls.length<=i->∀l,(ZK N.length ls)[i]?≠ag (ag l):=λi g l z=>by
  unfold ZK at z;rw[bH (by simpa using g),bc] at z;split at z<;>cases z
 have x:Rel K O H fps (ZK N.length ls) (L2.start N vs) H:=by
  refine⟨Same.refl H,?_,λi a z=>?_,λi y=>?_,λi g=>?_,λi g p m=>?_,λi g j I p m=>?_⟩
  ·unfold ZK L2.start;simp[k]
  ·by_cases c:i<ls.length
   ·unfold ZK at z;rw[au (by simpa using c),aU] at z
    cases q:ls[i]? with
    | none=>rw[q] at z;cases z
    | some b=>
     rw[q] at z;cases z;obtain⟨v,D,b1⟩:=B i a q;refine⟨v,?_,b1⟩;unfold L2.start;rw[au (by simpa [k] using c),aU,D];rfl
   ·exact absurd z (t i (by omega) a)
  ·by_cases c:i<ls.length
   ·exact absurd (by unfold ZK;rw[au (by simpa using c),aU,aJ c];rfl) (y ls[i])
   ·exact p2 i (by omega)
  ·rw[p2 i (by have:=w i g;omega)];exact cF
  ·rw[p2 i (by have:=w i g;omega)] at m;simp at m
  ·rw[p2 i (by have:=w i g;omega)] at m;simp at m
 refine⟨H,fps,ZK N.length ls,o,x,F,?_⟩
 cases o with
 | nx s'=>
  cases u;exact λL J s G _=>q .non s [] G.same Is.non cF λp m=>by simp at m
 | rt v=>
  cases u;exact λv A s C i d n=>q v s A C i d n
 | bk s'=>cases u
 | ct s'=>cases u
section
variable {P:ay} {w:b9} {mg:aj->Option aG} {base:bR}
theorem Ob{x:aj}{st:ba}{N d:List aj}{k n:Nat}{O W:List Nat}(m:Nat)(f:XS)(D:Def K mg x st)(S:Zq N d (Zg st))
  (p:∀(kV doc pm:aG)(an:Option aK)(b ct:aG)(us:List aG),us.length=d.length->gx (cV x x (Yy st) (Z2 st) (Zg st) .none kV doc pm an b ct) ⟨us,[]⟩=pure (d.zip us))
  (o:d.length=n) (g:N.length=m) (j:∀i∈O,n<=i)
  (c:∀(e:aK)(b:aG)(A:bU)(a:List jR)(s:aM)(H:Hp)(E:XK),Room k (A.deeper (gh x (Zg st) s.heap.objs.size e b))->VSs (Su MN P w K mg base N x (Zg st) e b A a s H E).nox O W (Z2 st) f) :
  Xd P w K mg base x d (Y0 K (YL m f) n) (k+1):=by
 subst g;refine D.cal S p (λvs H Q E h=>by rw[o];exact h.1) λe b A a s H vs Q E l h=>⟨_,c e b A a s H E l,M4 j h⟩
end
end VL
namespace VL
open PySem PySem.Spec PyProof.Rows L2
variable {K:aE}
section
variable {X:Cx} {O:List Nat} {tg oV iter:bB} {o9:List bB} {scope:du} {pos:da} {fi:XL} {T:Tgt} {ft:XT} {fe:XE}
theorem V2(own fr:List aj)(ix:List Nat){i:Nat}{y:aj}{f b:da}(m:X.N.Nodup)(l:X.N[i]?=ag y)(d:X.env.scope.names.lookup y=ag .local)(c:X.calm=aC)(g:VI X tg iter fi)(S:VJ X.N X.env.scope scope own fr ix=aC)
  (h:∀cl C s H a,PG (ZH X (own++fr) scope cl C s H a) tg (gT X.K T)) (j:∀cl C s H a,VTs (ZH X (own++fr) scope cl C s H a) o9 ft) (n:∀cl C s H a,VM (ZH X (own++fr) scope cl C s H a) oV fe)
  (k:∀i∈T.slots,i<own.length:=by decide)
  (e:eK (.ListComp oV [⟨tg,iter,o9,0⟩] scope pos) (ag (.Name y f)) b.line X.env=pure aC:=by rfl)
  (hs:∀x,bq iter X.env x=pure x:=by intro _;rfl):VS X O [i] (.Assign [.Name y f] (.ListComp oV [⟨tg,iter,o9,0⟩] scope pos) b) (Zu i (Zt own.length ix fi T ft fe)):=
 PS.imp (Cq own fr ix m l d c g S h (λcl C s H a=>(show Ij (ZH X (own++fr) scope cl C s H a) o9 (KA X.K ft) from j cl C s H a)) (λcl C s H a=>(show PE (ZH X (own++fr) scope cl C s H a) oV (tM X.K fe) from n cl C s H a)) e hs) (GU (GR k))
end
section
variable {P:ay} {w:b9} {mg:aj->Option aG} {base:bR}
theorem Zgm{x:aj}{st:ba}{N e:List aj}{k n:Nat}{O W:List Nat}{d:aK}{g:eU}(m:Nat)(f:XS)(F:Fun K x x st d g)(S:Zq N e (Zg st))
  (p:e.length=n) (j:N.length=m) (l:∀i∈O,n<=i)
  (c:∀(d:aK)(b:aG)(A:bU)(a:List jR)(s:aM)(H:Hp)(E:XK),Room k (A.deeper (gh x (Zg st) s.heap.objs.size d b))->VSs (Su MN P w K mg base N x (Zg st) d b A a s H E).nox O W (Z2 st) f) :
  Tr P w K mg base MN (k+1) d g e (Y0 K (YL m f) n):=by
 subst j;refine F.ok S (λvs H Q E h=>by rw[p];exact h.1) λb A a s H vs Q E o h=>⟨_,c d b A a s H E o,?_⟩;exact M4 l h
theorem CS{st:ba}{x:aj}{D:List PV->Option PV}{k:Nat}{h:aK}(o:Def K mg "law" st)(i:mg "law" = ag (.ref h))
  (q:∀(kV c d:aG)(g:Option aK)(b ct u:aG),gx (cV "law" "law" (Yy st) (Z2 st) (Zg st) .none kV c d g b ct) ⟨[u],[]⟩=pure [(x,u)])
  (H:∀(base:bR)(f:aK)(a:eU),K.In base->base.Ns bX mg->Fun K "law" "law" st f a->Tr P w K mg base MN k f a [x] (Y0 K D 1)) :
  ∃a:eU,(∀(s:aM)(u:aG),mQ s a ⟨[u],[]⟩ [(x,u)])/\∀base:bR,K.In base->base.Ns bX mg->Tr P w K mg base MN k h a [x] (Y0 K D 1):=by
 obtain⟨f,a,m,F⟩:=o.ex;have e:=i.symm.trans m;cases e;refine⟨a,?_,λbase l n=>H base h a l n F⟩;obtain⟨t,y,kV,c,d,g,b,ct,p,rfl,v,j⟩:=F.ex;exact λs u=>.of_eq (q kV c d g b ct u)
end
end VL
namespace VL
open PySem L2
@[simp] theorem eVar_def(i:Nat)(s:ZG):Za i s=(s[i]?).join:=rfl
@[simp] theorem eC_def(l:PV)(s:ZG):eC l s=ag l:=rfl
@[simp] theorem Vc(g:PV->PV->Option PV)(a b:XE)(s:ZG):Zk g a b s=(a s).bind λx=>(b s).bind λy=>g x y:=rfl
@[simp] theorem eUn_def(g:PV->Option PV)(a:XE)(s:ZG):Eo g a s=(a s).bind g:=rfl
@[simp] theorem Oc(f:XE)(s:ZG):eP f s=(f s).bind λl=>if ZT l=aC then ag l else aA:=rfl
@[simp] theorem Zbi(s:ZG):SG [] s=ag []:=rfl
@[simp] theorem Zz(f:XE)(fs:List XE)(s:ZG):SG (f::fs) s=(f s).bind λx=>(SG fs s).map (x::·):=rfl
@[simp] theorem XC(D:List PV->Option PV)(fs:List XE)(s:ZG):Zc D fs s=(SG fs s).bind D:=rfl
@[simp] theorem SS(fs:List XE)(s:ZG):Wk fs s=(SG fs s).map .tup:=rfl
@[simp] theorem CT(fs:List XE)(s:ZG):X9 fs s=(SG fs s).map .lst:=rfl
@[simp] theorem Q5(g:PV->Option Int->Option Int->Option PV)(a:XE)(lo hi:XO)(s:ZG):SO g a lo hi s=(a s).bind λx=>(lo s).bind λl=>(hi s).bind λu=>g x l u:=rfl
@[simp] theorem G3(s:ZG):Rw s=ag aA:=rfl
@[simp] theorem gI_ii(g:Int->Int->Int)(i j:Int):gI g (.int i) (.int j)=ag (.int (g i j)):=rfl
@[simp] theorem gB_ii(g:Int->Int->Bool)(i j:Int):gB g (.int i) (.int j)=ag (.bl (g i j)):=rfl
@[simp] theorem Zgn(C:Int->Int->Prop)[∀i j,Decidable (C i j)](g:Int->Int->Int)(i j:Int):Ct C g (.int i) (.int j)=if C i j then ag (.int (g i j)) else aA:=rfl
@[simp] theorem gIx_ti(l:List PV)(i:Int):ZJ (.tup l) (.int i)=Rz l i:=rfl
@[simp] theorem gIx_li(l:List PV)(i:Int):ZJ (.lst l) (.int i)=Rz l i:=rfl
@[simp] theorem gIx_ci(l:List PV)(i:Int):ZJ (.cst l) (.int i)=Rz l i:=rfl
@[simp] theorem IE(f:XE)(s:ZG):xB f s=(f s).bind blO:=by
 unfold xB
 cases f s with
 | none=>rfl
 | some a=>cases a<;>rfl
@[simp] theorem Zgo(b:Bool):blO (.bl b)=ag b:=rfl
@[simp] theorem CU(a b:XT)(s:ZG):Im a b s=(a s).bind λc=>if c=aC then b s else ag aB:=rfl
@[simp] theorem G4(a b:XT)(s:ZG):Ke a b s=(a s).bind λc=>if c=aC then ag aC else b s:=rfl
@[simp] theorem KU(a:XT)(s:ZG):Wj a s=(a s).map not:=rfl
@[simp] theorem CV(a b:XE)(s:ZG):MU a b s=(xB a s).bind λc=>if c=aC then b s else ag (.bl aB):=rfl
@[simp] theorem eOr_def(a b:XE)(s:ZG):eOr a b s=(xB a s).bind λc=>if c=aC then ag (.bl aC) else b s:=rfl
@[simp] theorem eNot_def(a:XE)(s:ZG):Zbb a s=(xB a s).map λc=>.bl !c:=rfl
@[simp] theorem M5(c:XT)(a b:XE)(s:ZG):J1 c a b s=(c s).bind λk=>if k=aC then a s else b s:=rfl
@[simp] theorem eIsN_def(neg:Bool)(a:XE)(s:ZG):KD neg a s=(a s).bind (Zjg neg):=rfl
@[simp] theorem sNext_def(s:ZG):Yh s=ag (.nx s):=rfl
@[simp] theorem Od(f g:XS)(s:ZG):Zm f g s=(f s).bind λo=>match o with | .nx s'=>g s' | r=>ag r:=rfl
@[simp] theorem SU(c:XT)(f g:XS)(s:ZG):T5 c f g s=(c s).bind λk=>if k=aC then f s else g s:=rfl
@[simp] theorem CW(f:XE)(s:ZG):ZO f s=(f s).map .rt:=rfl
@[simp] theorem SV(i:Nat)(f:XE)(s:ZG):Zu i f s=(f s).map λl=>.nx (s.set i (ag l)):=rfl
@[simp] theorem retO_rt(v:PV):Oa (.rt v)=ag v:=rfl
@[simp] theorem pureV_int(i:Int):ZT (.int i)=aC:=rfl
@[simp] theorem pureV_bl(i:Bool):ZT (.bl i)=aC:=rfl
@[simp] theorem pureV_str(i:aj):ZT (.str i)=aC:=rfl
@[simp] theorem pureV_non:ZT .non=aC:=rfl
@[simp] theorem pureV_tup(l:List PV):ZT (.tup l)=ZE l:=by rw[ZT]
@[simp] theorem pureL_nil:ZE []=aC:=rfl
@[simp] theorem pureL_cons(a:PV)(l:List PV):ZE (a::l)=(ZT a&&ZE l):=rfl
theorem RN{b:Type}{l:List b}{f:b->PV}(h:∀a∈l,ZT (f a)=aC):ZE (l.map f)=aC:=by rw[Vq,kF,bN];exact h
@[simp] theorem pureL_iL(l:List Int):ZE (l.map PV.int)=aC:=Z5 l
abbrev pP(l:List Int):PV:=.tup (iL l)
abbrev wP(W:List (List Int)):PV:=.tup (W.map pP)
@[simp] theorem KW(W:List (List Int)):ZE (W.map pP)=aC:=RN λa _=>by simp
theorem KY{l:List PV}{k:Nat}{a:PV}(h:l[k]?=ag a):Rz l (k:Int)=ag a:=U0 h
theorem M6{l:List Int}{k:Nat}(h:k<l.length):(iL l)[k]?=ag (.int (Zr l k)):=by simp[Zr,aJ h]
theorem Ys{l:List Int}{k:Nat}(h:k<l.length):Rz (iL l) (k:Int)=ag (.int (Zr l k)):=U0 (M6 h)
theorem SW{W:List (List Int)}{k:Nat}(h:k<W.length):Rz (W.map pP) (k:Int)=ag (pP (Zx W k)):=by refine U0 ?_;rw[aU,PM h];rfl
@[simp] theorem CY(l:List Int):VQ [.tup (l.map PV.int)]=ag (.int l.sum):=by simp[VQ,QQ,Yd l]
@[simp] theorem M7(l:List Int):VQ [.lst (l.map PV.int)]=ag (.int l.sum):=by simp[VQ,QQ,Yd l]
@[simp] theorem IF(l:List Bool):MX [.lst (l.map PV.bl)]=ag (.bl (l.all id)):=by simp[MX,QQ,TH l]
@[simp] theorem gLen_t(l:List PV):ZZ [.tup l]=ag (.int l.length):=rfl
@[simp] theorem gLen_l(l:List PV):ZZ [.lst l]=ag (.int l.length):=rfl
@[simp] theorem gLen_c(l:List PV):ZZ [.cst l]=ag (.int l.length):=rfl
@[simp] theorem Oe(l:List PV):ZV [.lst l]=ag (.tup l):=rfl
@[simp] theorem gTuple_t(l:List PV):ZV [.tup l]=ag (.tup l):=rfl
@[simp] theorem CZ(l:List PV):T2 [.tup l]=if ZE l=aC then ag (.lst l) else aA:=rfl
@[simp] theorem C0(l:List PV):T2 [.lst l]=if ZE l=aC then ag (.lst l) else aA:=rfl
@[simp] theorem gMin2_ii(i j:Int):Zjh [.int i,.int j]=ag (.int (if j<i then j else i)):=rfl
@[simp] theorem gMax2_ii(i j:Int):KJ [.int i,.int j]=ag (.int (if j>i then j else i)):=rfl
@[simp] theorem gInt1_b(c:Bool):Qx [.bl c]=ag (.int (if c then 1 else 0)):=rfl
@[simp] theorem gInt1_i(c:Int):Qx [.int c]=ag (.int c):=rfl
@[simp] theorem gInst_ii(i:Int):W9 [.int i,.ty "int"]=ag (.bl aC):=rfl
@[simp] theorem gInst_ib(i:Int):W9 [.int i,.ty "bool"]=ag (.bl aB):=rfl
@[simp] theorem gInst_tt(l:List PV):W9 [.tup l,.ty "tuple"]=ag (.bl aC):=rfl
@[simp] theorem gInst_ll(l:List PV):W9 [.lst l,.ty "list"]=ag (.bl aC):=rfl
theorem M8(n:Nat)(i j:Int):X2 (n+1) (.int i) (.int j)=aC:=rfl
theorem Uw{c d:Type}{f:c->PV}{g:d->PV}{p:PV->PV->Bool}(h:∀a b,p (f a) (g b)=aC):∀(l:List c)(m:List d),((l.map f).zip (m.map g)).all (λz=>p z.1 z.2)=aC
 | [],_=>by simp
 | _::_,[]=>by simp
 | a::l,b::m=>by rw[ak,ak,dU,ja,Uw h l m,h a b];rfl
theorem Zbj(n:Nat)(l m:List Int):X2 (n+2) (pP l) (pP m)=aC:=Uw (λa b=>M8 n a b) l m
theorem Zbk(n:Nat)(l m:List Int):X2 (n+2) (.lst (iL l)) (.lst (iL m))=aC:=Uw (λa b=>M8 n a b) l m
theorem C1{l m:List Int}:iL l=iL m↔l=m:=by
 constructor
 ·intro h;exact(List.map_inj_right (λa b e=>PV.int.inj e)).mp h
 ·intro h;rw[h]
theorem Zgp{l m:List Int}:pP l=pP m↔l=m:=by rw[PV.tup.injEq];exact C1
@[simp] theorem T7(neg:Bool)(i j:Int):Xx neg (.int i) (.int j)=ag (.bl (if neg then !decide (i=j) else decide (i=j))):=by
 unfold Xx;rw[oX (M8 7 i j)];congr 2;cases neg<;>simp
@[simp] theorem gEq_pp(neg:Bool)(l m:List Int):Xx neg (.tup (l.map PV.int)) (.tup (m.map PV.int))=ag (.bl (if neg then !decide (l=m) else decide (l=m))):=by unfold Xx;rw[oX (Zbj 6 l m)];have:decide ((PV.tup (l.map PV.int)) = .tup (m.map PV.int))=decide (l=m):=decide_eq_decide.mpr Zgp;rw[this]
@[simp] theorem Zgq(neg:Bool)(l m:List Int):Xx neg (.lst (l.map PV.int)) (.lst (m.map PV.int))=ag (.bl (if neg then !decide (l=m) else decide (l=m))):=by unfold Xx;rw[oX (Zbk 6 l m)];have:decide ((PV.lst (l.map PV.int)) = .lst (m.map PV.int))=decide (l=m):=decide_eq_decide.mpr (by rw[PV.lst.injEq];exact C1);rw[this]
theorem Md{d:Type}{T:Tgt}{e:XT}{c:XE}{f:ZG}{q g:d->PV}:∀{ls:List d},(∀a∈ls,∃s1,Xy T (q a) f=ag s1/\e s1=ag aC/\c s1=ag (g a))->Vb T e c f (ls.map q)=ag (ls.map g)
 | [],_=>rfl
 | a::r,h=>by obtain⟨s1,m,k,i⟩:=h a ao;have l:=Md (ls:=r) λb j=>h b (aR _ j);rw[ak,ak];unfold Vb;rw[m];simp only[aV,k,if_true,i,l,dQ]
theorem SX{d:Type}{T:Tgt}{f:XT}{e:XE}{i:ZG}{q g:d->PV}{c:d->Bool}:∀{ls:List d},(∀a∈ls,∃s1,Xy T (q a) i=ag s1/\f s1=ag (c a)/\(c a=aC->e s1=ag (g a)))->Vb T f e i (ls.map q)=ag ((ls.filter c).map g)
 | [],_=>rfl
 | a::r,h=>by
  obtain⟨s1,n,m,k⟩:=h a ao;have j:=SX (ls:=r) λb l=>h b (aR _ l);rw[ak];unfold Vb;rw[n];simp only[aV,m]
  cases hc:c a with
  | true=>simp[k hc,j,hc]
  | false=>simp[j,hc]
theorem ZI{c:Type}{n:Nat}{ix:List Nat}{f:XL}{T:Tgt}{d:XT}{e:XE}{s:ZG}(ls:List c)(q g:c->PV)(b:f s=ag (ls.map q))(i:ls.length<=10000)
  (h:∀a∈ls,∃s1,Xy T (q a) (ZP n ix s)=ag s1/\d s1=ag aC/\e s1=ag (g a)):Zt n ix f T d e s=ag (.lst (ls.map g)):=by
 unfold Zt;rw[b];simp only[aV,aL,oX i,Md h,dQ]
theorem Xp{b:Type}{n:Nat}{ix:List Nat}{i:XL}{T:Tgt}{e:XT}{f:XE}{s:ZG}(ls:List b)(q g:b->PV)(c:b->Bool)(d:i s=ag (ls.map q))(j:ls.length<=10000)
  (h:∀a∈ls,∃s1,Xy T (q a) (ZP n ix s)=ag s1/\e s1=ag (c a)/\(c a=aC->f s1=ag (g a))):Zt n ix i T e f s=ag (.lst ((ls.filter c).map g)):=by
 unfold Zt;rw[d];simp only[aV,aL,oX j,SX h,dQ]
theorem SY{T:Tgt}{fb:XS}:∀{ls:List PV}{s:ZG}(Jv:Nat->ZG->Prop),Jv 0 s->(∀(i:Nat) l st,ls[i]?=ag l->Jv i st->∃s1 s2,Xy T l st=ag s1/\fb s1=ag (.nx s2)/\Jv (i+1) s2)->
  ∃f,Vs T fb ls s=ag (.nx f)/\Jv ls.length f
 | [],s,Jv,h0,_=>⟨s,rfl,h0⟩
 | l::r,s,Jv,h0,h=>by obtain⟨s1,s2,a,b,c⟩:=h 0 l s rfl h0;obtain⟨f,d,e⟩:=SY (ls:=r) (s:=s2) (λi=>Jv (i+1)) c λi g st k j=>h (i+1) g st (by simpa using k) j;refine⟨f,?_,e⟩;unfold Vs;rw[a];simp only[aV,b];exact d
theorem C2{n i:Nat}{l:PV}(h:(MZ n)[i]?=ag l):i<n/\l = .int (i:Int):=by have a:=(aS.mp h).1;unfold MZ at a h;rw[aL,bt] at a;rw[aU,bz a] at h;exact⟨a,(bG h).symm⟩
theorem KZ{lo:Int}{n i:Nat}{l:PV}(h:(T4 lo n)[i]?=ag l):i<n/\l = .int (lo+(i:Int)):=by have a:=(aS.mp h).1;unfold T4 at a h;rw[aL,bt] at a;rw[aU,bz a] at h;exact⟨a,(bG h).symm⟩
@[simp] theorem C3(n:Nat):(MZ n).length=n:=by unfold MZ;simp
@[simp] theorem K0(lo:Int)(n:Nat):(T4 lo n).length=n:=by unfold T4;simp
@[simp] theorem bindT_one(i:Nat)(l:PV)(s:ZG):Xy (.one i) l s=ag (s.set i (ag l)):=rfl
theorem YO(m:List PV):Y7 m=(aD m.length).map λ(i:Nat)=>.tup [.int (i:Int),m.getD i .non]:=by
 apply iC;intro i;rw[aU];by_cases h:i<m.length
 ·have:(Y7 m)[i]?=ag (.tup [.int (i:Int),m[i]]):=by unfold Y7;simp
  rw[this,bz h];simp[aJ h]
 ·rw[cK (by rw[Ws];omega),cK (by simpa using h)];rfl
theorem V3(m n:List PV)(h:n.length=m.length):Tt m n=(aD m.length).map λ(i:Nat)=>.tup [m.getD i .non,n.getD i .non]:=by
 apply iC;intro i;rw[aU];by_cases a:i<m.length
 ·have:(Tt m n)[i]?=ag (.tup [m[i],n[i]]):=by unfold Tt;rw[aU,jV (z:=(m[i],n[i])) |>.mpr ⟨aJ a,aJ (by omega)⟩];rfl
  rw[this,bz a];simp[aJ a,aJ (show i<n.length by omega)]
 ·rw[cK (by rw[KP];omega),cK (by simpa using a)];rfl
theorem Xq(l:List Int)(i:Nat)(h:i<l.length):(iL l).getD i .non = .int (Zr l i):=by rw[aF,M6 h];rfl
theorem C4(W:List (List Int))(i:Nat)(h:i<W.length):(W.map pP).getD i .non=pP (Zx W i):=by rw[aF,aU,PM h];rfl
@[simp] theorem Zbl(f:XE)(s:ZG):Z8 [f] s=(f s).bind λa=>(DP a).bind λj=>if -1000000<=j/\j<=1000000 then ag (MZ j.toNat) else aA:=by
 unfold Z8
 cases h:f s with
 | none=>simp[h]
 | some a=>cases a<;>simp[h,DP]
@[simp] theorem Zbm(f g:XE)(s:ZG):Va [f,g] s=(f s).bind λa=>(g s).bind λb=>(DP a).bind λi=>(DP b).bind λj=>if -1000000<=i/\i<=1000000/\-1000000<=j/\j<=1000000 then ag (T4 i (j-i).toNat) else aA:=by
 unfold Va
 cases h:f s with
 | none=>simp[h]
 | some a=>cases h2:g s with
  | none=>simp[h,h2]
  | some b=>cases a<;>cases b<;>simp[h,h2,DP]
@[simp] theorem S1(i:Int):DP (.int i)=ag i:=rfl
@[simp] theorem G5(i:List PV):asL (.lst i)=ag i:=rfl
@[simp] theorem xEnum_def(b:Bool)(f:XE)(s:ZG):WD b [f] s=(f s).bind λl=>(seqB b l).map Y7:=by
 unfold WD;cases h:f s<;>simp[h]
@[simp] theorem C5(b1 b2:Bool)(f g:XE)(s:ZG):SM b1 b2 [f,g] s=(f s).bind λl=>(g s).bind λr=>(seqB b1 l).bind λm=>(seqB b2 r).map λn=>Tt m n:=by
 unfold SM;cases h:f s<;>cases h2:g s<;>simp[h,h2]
@[simp] theorem seqB_f(l:List PV):seqB aB (.tup l)=ag l:=rfl
@[simp] theorem seqB_t(l:List PV):seqB aC (.lst l)=ag l:=rfl
@[simp] theorem seqB_c(l:List PV):seqB aC (.cst l)=ag l:=rfl
@[simp] theorem xLst_def(f:XE)(s:ZG):XB f s=(f s).bind asS:=rfl
@[simp] theorem asS_l(l:List PV):asS (.lst l)=ag l:=rfl
@[simp] theorem asS_c(l:List PV):asS (.cst l)=ag l:=rfl
theorem S2{f:XE}{s:ZG}{l:List PV}(h:f s=ag (.tup l)):Ts f s=ag l:=by unfold Ts;rw[h]
@[simp] theorem C6(O:List Nat)(fi:XL)(T:Tgt)(fb:XS)(s:ZG):YN O fi T fb s=(fi (Xn O s)).bind λls=>Vs T fb ls s:=rfl
@[simp] theorem xTrue_def(s:ZG):ZD s=ag aC:=rfl
theorem Yl{f:XE}{s:ZG}{n:Nat}(h:f s=ag (.int (n:Int)))(a:n<=10000):Z8 [f] s=ag (MZ n):=by rw[Zbl,h];simp only[aV,S1];rw[oX ⟨by omega,by omega⟩,cC]
theorem Me{f g:XE}{s:ZG}{i j:Int}(h:f s=ag (.int i))(h':g s=ag (.int j))(b : -10000<=i/\i<=10000)(a : -10000<=j/\j<=10000):Va [f,g] s=ag (T4 i (j-i).toNat):=by rw[Zbm,h,h'];simp only[aV,S1];rw[oX ⟨by omega,by omega,by omega,by omega⟩]
theorem Zgr{i j:Int}(a : -10000<=i)(h:i<=10000):CMul i j:=by
 refine .inl ?_;have e:(2^64:Int)=18446744073709551616:=by decide
 rw[e];omega
theorem S3{c:Bool}(h:c=aC):gd c=ag ():=by unfold gd;rw[oX h]
theorem Of{i:Nat}{f:XE}{s:ZG}{m n:List PV}(h:f s=ag (.lst n))(a:N6 s i=ag m)(b:m.length+n.length<=10000):Wm i f s=ag (.nx (s.set i (ag (.lst (m++n))))):=by unfold Wm;rw[h];simp only[aV,G5,a,S3 (decide_eq_true b)]
theorem T8{i:Nat}{f:XE}{s:ZG}{m:List PV}{l:PV}(h:f s=ag l)(a:N6 s i=ag m)(b:m.length<=10000):YJ i f s=ag (.nx (s.set i (ag (.lst (m++[l]))))):=by unfold YJ;rw[h];simp only[aV,a,S3 (decide_eq_true b)]
theorem IG{i:Nat}{a f:XE}{s:ZG}{m:List PV}{l:PV}{k:Int}(b:a s=ag (.int k))(h:f s=ag l)(d:N6 s i=ag m)(n:ZE m=aC)(e:ZT l=aC)(j:0<=k)(o:k<=1000000)(g:m.length<=10000) :
  U5 i a f s=ag (.nx (s.set i (ag (.lst (m.take k.toNat++l::m.drop k.toNat))))):=by
 unfold U5;rw[b,h];have c:(ZE m&&ZT l&&decide (0<=k/\k<=1000000/\m.length<=10000))=aC:=by rw[n,e,decide_eq_true ⟨j,o,g⟩];rfl
 simp only[aV,S1,d,S3 c]
theorem Mf{i:Nat}{a f:XE}{s:ZG}{m:List PV}{l:PV}{k:Int}{j:Nat}(h:f s=ag l)(b:a s=ag (.int k))(d:N6 s i=ag m)(n:ZE m=aC)(e:ZT l=aC)(g:Kd m.length k=ag j) :
  T6 i a f s=ag (.nx (s.set i (ag (.lst (m.set j l))))):=by
 unfold T6;rw[b,h];have c:(ZE m&&ZT l)=aC:=by rw[n,e];rfl
 simp only[aV,S1,d,S3 c,g,dQ]
theorem Og{i:Nat}{d fb f:XE}{s:ZG}{m n:List PV}{l:PV}{a b:Int}{j c:Nat}(h:f s=ag l)(k:d s=ag (.int a))(u:fb s=ag (.int b))(e:N6 s i=ag m)(g:Kd m.length a=ag j)(p:m[j]?=ag (.lst n))(o:ZE n=aC)(v:ZT l=aC)(t:Kd n.length b=ag c) :
  Xo i d fb f s=ag (.nx (s.set i (ag (.lst (m.set j (.lst (n.set c l))))))):=by
 unfold Xo;rw[h,k,u];have q:(ZE n&&ZT l)=aC:=by rw[o,v];rfl
 simp only[aV,S1,G5,e,g,p,S3 q,t,dQ]
theorem S4{n k:Nat}(h:k<n):Kd n (k:Int)=ag k:=by unfold Kd;rw[oX (by omega),oX (by omega)];rfl
theorem Zgs{i j:Int}(a:0<j)(h:j<=10000):Eb i j:=⟨a,by omega⟩
end VL
namespace VL
open PySem PySem.Spec PyProof.Rows L2
variable {K:aE}
noncomputable def Zej(K:aE):R2:=λx y H Q=>∃a b xs ys,x = .ref a/\y = .ref b/\SqT K H a xs/\SqT K H b ys/\xs.length+ys.length<=sizeLine/\
 (xs=[]->Q (.ref b) H)/\(ys=[]->Q (.ref a) H)/\∀p,H p=aA->Q (.ref p) (upd H p (.tup (xs++ys)))
theorem Q6{X:Cx}:Sm X (dj .Add) (Zej X.K):=by
 intro O s U H x y v u Q I q m h;obtain⟨a,b,xs,M,rfl,rfl,o,t,L,w,D,J⟩:=h;by_cases i:xs=[]
 ·cases q;cases m;obtain⟨B,F,A,_⟩:=I.tuple o;obtain⟨c,N,p2,_⟩:=I.tuple t;obtain⟨⟨E,dd,k,z⟩,p,G,n,hd⟩:=id A;obtain⟨⟨l,g,data2,j⟩,d,f,C,e⟩:=id p2;subst G hd f e
  exact jx ⟨_,p,rfl⟩ ⟨_,d,rfl⟩ jn lN gy gp (gR _ _)
   (tuple_addW0 a b B.toArray c.toArray n C dd g z j (by simp[F.nil_iff.mpr i])) ⟨p,d,.ref b,H,I,rfl,w i⟩
 ·exact Zat _ _ _ _ _ _ _ _ _ I q m ⟨a,b,xs,M,rfl,rfl,o,t,i,L,D,λ_=>J⟩
noncomputable def Qy:PV->PV->Option PV
 | .tup m,.tup n=>if m.length+n.length<=10000 then ag (.tup (m++n)) else aA
 | _,_=>aA
theorem Q8:RB K (Zej K) Qy:=λH x y a b l j fb i o e Q k=>by
 cases a with
 | tup m=>cases b with
  | tup n=>
   have e:(if m.length+n.length<=10000 then ag (PV.tup (m++n)) else aA)=ag l:=e;split at e
   case isFalse=>cases e
   rename_i u;cases e;obtain⟨p,xs,rfl,s,g⟩:=i.tup_inv;obtain⟨t,v,rfl,f,c⟩:=o.tup_inv;refine⟨p,t,xs,v,rfl,rfl,SqT.of s,SqT.of f,by rw[g.len,c.len];exact cO (lt_size u),λz=>?_,λz=>?_,λq h=>?_⟩
   ·have:=gu.mp (by rw[<-g.len,z];rfl);subst this;exact k _ _ fb (Same.refl _) o λr d=>.inr (.inl d)
   ·have:=gu.mp (by rw[<-c.len,z];rfl);subst this;rw[cL] at k;exact k _ _ j (Same.refl _) i λr d=>.inl d
   ·exact k _ _ (j++fb) (Same.new h _) (Is.tup Zl ((g.append c).mono (Same.new h _))) λr d=>(ah.mp d).elim .inl λz=>.inr (.inl z)
  | _=>cases e
 | _=>cases e
end VL
namespace VL
open PySem
open PySem.Sem (wp)
open PySem.Builtin
theorem RO:fillsNumberSlot (.type "tuple") "mul" = pure aB:=rfl
theorem M9:seqRepeat? (.type "tuple")=pure (ag (.builtin "tuple.__mul__")):=rfl
theorem Oh(a:Int)(t:Tok)(l:aK)(b:Array aG)(n:Nat)(dd:Option aK)(c:Array (Option aG)) :
  Meets (kD.«int.__rmul__» ⟨[.int a t,.ref l],[]⟩) (λ_ R s=>s.heap.get? l=ag { cls:=.type "tuple",dict:=dd,data:=.seq b n,slots:=c }/\R (.ok (.ret aG.notImplemented)) s):=
 .of_wp λprog w A R s h=>by obtain⟨e,g,d,tk,os⟩:=s;obtain⟨f,h⟩:=h;wp_walk;exact⟨_,rfl,h⟩
theorem Oi(l:aK)(a:Array aG)(n:Nat)(dd:Option aK)(f:Array (Option aG))(x:Int)(u:Tok)(p:1<x)(q:x<2^63)(e:a.isEmpty=aB)(m:a.size*x.toNat<=sizeLine)
  (b:Array aG) (o:la (λk i=>k++i) #[] (aQ x.toNat a)=b) (y:b.size<=sizeLine) :
  Meets (kD.«tuple.__mul__» ⟨[.ref l,.int x u],[]⟩) (λ_ R s=>s.heap.get? l=ag { cls:=.type "tuple",dict:=dd,data:=.seq a n,slots:=f }/\R (.ok (.ret (dN s.heap.objs.size))) { s with heap:=s.heap.push { cls:=nN "tuple",data:=Data.seq b },toks:=s.toks }):=
 .of_wp λprog w A R s h=>by
  obtain⟨t,g,d,tk,os⟩:=s;obtain⟨v,h⟩:=h;have c:a.size*x.toNat<=2^40:=by rw[gn] at m;omega
  have j:(a.size:Int)*x=((a.size*x.toNat:Nat):Int):=by rw[Int.natCast_mul,gK (by omega)]
  wp_walk
  refine g0 (by simp;omega) ?_
  wp_walk
  refine g0 (by simp[e];omega) ?_
  wp_walk
  refine g0 (by simp[e];omega) ?_
  wp_walk
  refine g0 (decide_eq_false (by omega)) ?_
  wp_walk
  refine g0 (decide_eq_false (by rw[j];unfold Tuple.tupleTooMany;simp only[decide_eq_true_eq];omega)) ?_
  wp_walk
  rw[o];exact⟨_,rfl,h⟩
theorem NF(l:aK)(a:Array aG)(n:Nat)(dd:Option aK)(b:Array (Option aG))(u:Tok) :
  Meets (kD.«tuple.__mul__» ⟨[.ref l,.int 1 u],[]⟩) (λ_ R s=>s.heap.get? l=ag { cls:=.type "tuple",dict:=dd,data:=.seq a n,slots:=b }/\R (.ok (.ret (dN l))) s):=
 .of_wp λprog w A R s h=>by
  obtain⟨c,g,d,tk,os⟩:=s;obtain⟨e,h⟩:=h
  wp_walk
  exact⟨_,rfl,h⟩
end VL
namespace VL
open PySem PySem.Spec PyProof.Rows L2
noncomputable def Zek(K:aE):R2:=λx y H Q=>∃a k xs,x = .ref a/\y = .int k/\SqT K H a xs/\xs≠[]/\1<=k/\k<2^62/\xs.length*k.toNat<=sizeLine/\
 (k=1->Q (.ref a) H)/\∀p,H p=aA->Q (.ref p) (upd H p (.tup (aQ k.toNat xs).flatten))
theorem Zbn{X:Cx}:Sm X (dj .Mult) (Zek X.K):=by
 intro W s U H x y v u Q I M A h;obtain⟨a,k,xs,rfl,rfl,B,L,R,S,i,E,P⟩:=h;cases M;obtain⟨t,rfl⟩:=A;obtain⟨c,g,p,_⟩:=I.tuple B;obtain⟨⟨J,dd,l,f⟩,d,O,n,hd⟩:=id p;subst O hd;have m:=g.length
 refine jT rfl ⟨_,d,rfl⟩ (λw=>kB w k t) RO F.fills_int_mul F.slot_int_rmul M9 F.slot_int_index.lookup
  (fg F.slot_int_rmul (kB s k t) F.entry_int_rmul (F.args_int_rmul_2 _ _) (Oh k t a c.toArray n dd f) ⟨d,rfl,⟨_,d,rfl⟩,?_⟩)
 by_cases z:k=1
 ·subst z;exact fg F.slot_tuple_mul ⟨_,d,rfl⟩ F.entry_tuple_mul (F.args_tuple_mul_2 _ _) (NF a c.toArray n dd f t) ⟨d,.ref a,H,I,rfl,E rfl⟩
 ·have j:c.toArray.isEmpty=aB:=by
   cases c with
   | nil=>exact absurd (g.nil_iff.mp rfl) L
   | cons _ _=>rfl
  have C:la (λN D=>N++D) #[] (aQ k.toNat c.toArray)=(aQ k.toNat c).flatten.toArray:=by have:=RA c k.toNat [];exact this
  have G:(aQ k.toNat c).flatten.length<=sizeLine:=by rw[MK,mT,<-m];exact i
  refine fg F.slot_tuple_mul ⟨_,d,rfl⟩ F.entry_tuple_mul (F.args_tuple_mul_2 _ _) (Oi a c.toArray n dd f k t (by omega) (by omega) j (by rw[aT,<-m];exact i) _ C (by rw[aT];exact G)) ⟨d,?_⟩;refine⟨.ref s.heap.objs.size,_,I.laid (λb T q=>aH _ q) (aa _) ?_,rfl,P _ (I.hok.fresh (aa _))⟩;exact⟨⟨by rw[MK,mT];exact i,λo e=>Pq e⟩,_,g.rep k.toNat,mj _ _⟩
noncomputable def C7:PV->PV->Option PV
 | .tup m,.int k=>if ZE m=aC/\m≠[]/\1<=k/\k<=1000000/\m.length*k.toNat<=10000 then ag (.tup (aQ k.toNat m).flatten) else aA
 | _,_=>aA
theorem Zbo{K:aE}:RB K (Zek K) C7:=λH x y a b l o fb h s e Q k=>by
 cases a with
 | tup m=>cases b with
  | int n=>
   unfold C7 at e;simp only at e;split at e
   case isFalse=>cases e
   rename_i c;cases e;obtain⟨p,xs,rfl,j,d⟩:=h.tup_inv;refine⟨p,n,xs,rfl,s.int_inv.1,SqT.of j,λz=>c.2.1 (gu.mp (by rw[<-d.len,z];rfl)),c.2.2.1,by omega,by rw[d.len];exact cO (lt_size c.2.2.2.2),λz=>?_,λq g=>?_⟩
   ·subst z;have i:(aQ (lE 1) m).flatten=m:=by simp
    rw[i] at k;exact k _ _ o (Same.refl _) h λr f=>.inl f
   ·exact k _ _ [] (Same.new g _) (Is.tup Zl ((Iss.rep (d.pureEq c.1) n.toNat).mono (Same.new g _))) λr f=>by simp at f
  | _=>cases e
 | _=>cases e
end VL
namespace PW
open PySem L2 VL
noncomputable def Mg:XS:=(ZO (eP (Zc VQ [Zk ZJ (Za 0) (Za 1)])))
noncomputable def Vt:List PV->Option PV:=YL 2 Mg
noncomputable def RP:XS:=(Zm (Zu 1 (X9 []))
  (Zm (YN [1] (WD aB [Za 0]) (.many [2,3]) (YN [1] (Va [Zk Z6 (Za 2) (eC (.int 1)),Zc ZZ [Za 0]]) (.one 4) (Wm 1 (Zt 1 [2,4] (Z8 [Zk ZJ (Za 3) (Za 4)]) (.one 0) ZD (eP (Wk [Za 1,Za 2,Za 0]))))))
  (ZO (Za 1))))
noncomputable def Vu:List PV->Option PV:=YL 5 RP
noncomputable def G6:XS:=(ZO (eP (Zk Z6 (Zk Xk (Zc ZZ [Zc Vu [Za 0]]) (Zc ZZ [Za 0])) (eC (.int 1)))))
noncomputable def Vd:List PV->Option PV:=YL 1 G6
noncomputable def G7:XS:=(ZO (eP (Zc VQ [Za 0])))
noncomputable def Xr:List PV->Option PV:=YL 1 G7
noncomputable def C8:XS:=(ZO (eP (Zc VQ [Zt 2 [1,2] (WD aB [Zk ZJ (Za 0) (Za 2)]) (.many [0,1]) ZD (Zk NC (Za 1) (Zk Xk (Zk ZJ (Za 2) (Za 0)) (Zk ZJ (Za 2) (Za 3))))])))
noncomputable def Oj:List PV->Option PV:=YL 3 C8
noncomputable def Zel:XS:=(ZO (eP (Zc ZV [Zt 2 [0,2] (WD aB [Za 1]) (.many [0,1]) ZD (Zk Z6 (Za 1) (Zc Oj [Za 2,Za 3,Za 0]))])))
noncomputable def Mh:List PV->Option PV:=YL 3 Zel
noncomputable def C9:XS:=(ZO (eP (Zc ZV [Zt 2 [] (SM aB aB [Za 0,Za 1]) (.many [0,1]) ZD (Zk Z6 (Za 0) (Za 1))])))
noncomputable def RQ:List PV->Option PV:=YL 2 C9
noncomputable def G8:XS:=(ZO (eP (Zc ZV [Zt 2 [] (SM aB aB [Za 0,Za 1]) (.many [0,1]) ZD (Zk Xk (Za 0) (Za 1))])))
noncomputable def S5:List PV->Option PV:=YL 2 G8
noncomputable def Mi:XS:=(ZO (eP (MU (Zc W9 [Za 0,eC (.ty "int")]) (Zbb (Zc W9 [Za 0,eC (.ty "bool")])))))
noncomputable def Wv:List PV->Option PV:=YL 1 Mi
end PW
namespace VL
open PySem PySem.Spec PyProof.Rows L2
noncomputable def Wa:List Int->Int
 | []=>0
 | [x]=>x
 | x::y::r=>if Wa (y::r)<x then Wa (y::r) else x
theorem U7:∀{l:List Int},l≠[]->Wa l∈l/\∀x∈l,Wa l<=x
 | [],h=>absurd rfl h
 | [x],_=>by simp[Wa]
 | x::y::r,_=>by
  obtain⟨a,b⟩:=U7 (l:=y::r) (by simp);unfold Wa;split
  ·rename_i h;refine⟨aR _ a,λz c=>?_⟩;rcases aX.mp c with rfl | c
   ·omega
   ·exact b z c
  ·rename_i h;refine⟨by simp,λz c=>?_⟩;rcases aX.mp c with rfl | c
   ·omega
   ·have:=b z c;omega
theorem G9{l:List Int}{m:Int}(h:m∈l)(g:∀x∈l,m<=x):Wa l=m:=by obtain⟨a,b⟩:=U7 (l:=l) (by intro z;subst z;simp at h);have:=b m h;have:=g _ a;omega
theorem Ol(val:Nat->Int):∀k,argBest (λi j=>decide (val i<val j)) k<=k/\∀j,j<=k->val (argBest (λi j=>decide (val i<val j)) k)<=val j
 | 0=>⟨aa _,λj c=>by rw[Nat.le_zero.mp c];exact dq _⟩
 | k+1=>by
  obtain⟨a,b⟩:=Ol val k;unfold argBest;split
  ·rename_i h;have h:=of_decide_eq_true h;refine⟨aa _,λj c=>?_⟩;by_cases e:j=k+1
   ·subst e;exact dq _
   ·have:=b j (by omega);omega
  ·rename_i h;have h:¬_:=λz=>h (decide_eq_true z);refine⟨by omega,λj c=>?_⟩;by_cases e:j=k+1
   ·subst e;omega
   ·exact b j (by omega)
noncomputable def Ba(f:List Int->Int)(K:aE):List V->Hp->VK->Prop:=λxs H Q=>∃(b:Bool) (p:aK) (ns:List Int),xs=[.ref p]/\ns≠[]/\Nu b K H p (ns.map V.int)/\Q (.int (f ns)) H
section
variable {X:Cx}
theorem Mj(N:X.calm=aC):Xh X (.builtin "min") (Ba Wa X.K):=by
 intro W s U H xs T Q I r h;obtain⟨b,p,a,rfl,y,S,q⟩:=h;obtain⟨u,rfl,M⟩:=Ue r;cases M;obtain⟨n,D,d,Y⟩:=I.seqB S;have B:=let⟨_,e⟩:=d.has;aP e;have w:=D.length;rw[aL] at w;have m:=ig.mpr y
 have f:∀(i:Nat)(v:aG),n.toArray[i]?=ag v->∃t,v=jD (a.getD i 0) t:=λi v l=>by
  have l:n[i]?=ag v:=by simpa using l
  have E:i<a.length:=by rw[w];exact(aS.mp l).1
  obtain⟨u,C,R⟩:=D.get (i:=i) (x:=.int a[i]) (by simp);rw[l] at C;cases C;obtain⟨t,rfl⟩:=R;refine⟨t,?_⟩;rw[aF,aJ E];rfl
 refine call_min_walk (Yt d ?_);refine⟨_,_,_,_,_,_,λi j=>decide (a.getD i 0<a.getD j 0),rfl,Walks.seqB (A:=X.A.in1) b (I.ok.hd N) s.heap.objs.size p (az B) n.toArray,⟨IterB.new (af _ rfl),d.at λo e=>aH _ e⟩,λc g=>?_,by rw[aT,<-w];exact m,CmpOf.ints_lt (λi=>a.getD i 0) f,λv h' tk l F=>?_⟩
 ·show c<(s.heap.push _).objs.size;rw[cS];rcases aX.mp g with rfl | g
  ·exact fF _
  ·rw[aN.mp g];exact eZ B
 ·obtain⟨t,rfl⟩:=f _ _ l;obtain⟨O,z⟩:=Ol (λi=>a.getD i 0) (n.toArray.size-1);rw[aT,<-w] at O z
  have e:Wa a=a.getD (argBest (λi j=>decide (a.getD i 0<a.getD j 0)) (n.toArray.size-1)) 0:=by
   rw[aT,<-w];refine G9 ?_ λx L=>?_
   ·rw[aF,aJ (by omega)];exact bT _
   ·obtain⟨j,G,P⟩:=cq L;have:=z j (by omega);rw[aF (i:=j),aJ G,P] at this;exact this
  refine⟨.int (Wa a),H,I.kept (λc o k=>F c o ?_ (aH _ k)),⟨t,by rw[e]⟩,q⟩;intro J;rw[aN.mp J] at k;exact absurd (aP k) (bu _)
end
noncomputable def Fb(f:List Int->Int):List PV->Option PV
 | [l]=>(QQ l).bind λm=>(Yj m).bind λns=>if ns=[] then aA else ag (.int (f ns))
 | _=>aA
abbrev Fc:List PV->Option PV:=Fb Wa
theorem Zbp{K:aE}(f:List Int->Int):RC K (Ba f K) (Fb f):=λH vs ls l u h e Q k=>by
 unfold Fb at e;split at e
 ·obtain⟨m,q,o⟩:=Zd e;obtain⟨n,s,c⟩:=Zd o;split at c
  ·cases c
  ·rename_i d;cases c;obtain⟨v,rfl,i⟩:=h.one_inv;obtain⟨p,xs,w,rfl,a,j,hs⟩:=VP i q;have g:=Z7 s;subst g;obtain⟨rfl,rfl⟩:=j.iL;obtain⟨b,t⟩:=Iq a;exact⟨b,p,n,rfl,d,t,k _ H [] (Same.refl H) (Is.int _) λp a=>by simp at a⟩
 ·cases e
theorem Fd{K:aE}:RC K (Ba Wa K) Fc:=Zbp Wa
theorem Fe(f:List Int->Int){l:List Int}(h:l≠[]):Fb f [pP l]=ag (.int (f l)):=by show(Yj (iL l)).bind _=_;rw[Yd];simp only[aV];rw[oY h]
noncomputable def Xa(l:List Int):List Int:=l.mergeSort λa b=>decide (a<=b)
theorem WG(l:List Int):(Xa l).Perm l:=List.mergeSort_perm l _
theorem V4(l:List Int):(Xa l).Pairwise (·<=·):=by have:=List.pairwise_mergeSort (le:=λa b:Int=>decide (a<=b)) (λa b c e d=>by simp only[decide_eq_true_eq] at *;omega) (λa b=>by simp only[kT,decide_eq_true_eq];omega) l;exact this.imp λh=>of_decide_eq_true h
theorem S6{l m:List Int}(d:m.Perm l)(hs:m.Pairwise (·<=·)):m=Xa l:=
 List.Perm.eq_of_pairwise (λa b _ _ e c=>Int.le_antisymm e c) hs (V4 l) (d.trans (WG l).symm)
theorem V5:∀{us:List aG}{ns:List Int},jz us ns->Vals (ns.map V.int) us
 | _,_,.nil=>.nil
 | _,_,.cons n t h=>.cons ⟨t,rfl⟩ (V5 h)
noncomputable def La(K:aE):List V->Hp->VK->Prop:=λxs H Q=>∃p ns,xs=[.ref p]/\SqL K H p (ns.map V.int)/\ns.length<64/\∀l,H l=aA->Q (.ref l) (upd H l (.lst ((Xa ns).map V.int)))
theorem Lb{X:Cx}:Xh X (.builtin "sorted") (La X.K):=by
 intro y s U H xs x Q I r h;obtain⟨p,f,rfl,k,z,q⟩:=h;obtain⟨u,rfl,n⟩:=Ue r;cases n;obtain⟨j,g,pl,i⟩:=I.list k;have c:=g.length;rw[aL] at c i;refine sorted_ints pl.isList (Py g) (by omega) λa v l m t=>?_;obtain⟨e,w⟩:=sortedAll_at s.heap j a;have d:=S6 m t;subst d;refine⟨.ref (s.heap.objs.size+1),_,I.laid (λb o=>sortedAll_old) (iT _) (show ObjOk X.prog X.w _ _ _ (.lst ((Xa f).map V.int)) from⟨?_,a.toList,e,V5 l,?_⟩),rfl,q _ (I.hok.fresh (iT _))⟩
 ·rw[aL,(WG f).length_eq];exact i
 ·rw[iY];exact w
noncomputable def Q9:List PV->Option PV
 | [.lst l]=>(Yj l).bind λns=>if ns.length<64 then ag (.lst (iL (Xa ns))) else aA
 | [.cst l]=>(Yj l).bind λns=>if ns.length<64 then ag (.lst (iL (Xa ns))) else aA
 | _=>aA
theorem IH{K:aE}:RCM K (La K) Q9:=λH vs ls l s h e Q k=>by
 have d:∀(p:aK)(a:List Int),SqL K H p (a.map V.int)->a.length<64->l = .lst (iL (Xa a))->La K [.ref p] H Q:=by rintro p a c o rfl;refine⟨p,a,rfl,c,o,λq m=>k _ _ [q] (Same.new m _) (Is.lst Zl (Iss.ofInts _)) (by simp) λr n=>?_⟩;rw[aN.mp n];exact⟨m,by rw[Zl];exact bY⟩
 unfold Q9 at e;split at e
 ·obtain⟨a,j,b⟩:=Zd e;split at b
  ·cases b;obtain⟨v,rfl,i⟩:=h.one_inv;have f:=Z7 j;subst f;obtain⟨p,xs,t,rfl,c,g,_⟩:=i.lst_inv;obtain⟨rfl,rfl⟩:=g.iL;exact d p a (.inl (.inl c)) (by assumption) rfl
  ·cases b
 ·obtain⟨a,j,b⟩:=Zd e;split at b
  ·cases b;obtain⟨v,rfl,i⟩:=h.one_inv;have f:=Z7 j;subst f;obtain⟨p,xs,rfl,c,g⟩:=i.cst_inv;obtain⟨rfl,rfl⟩:=g.iL;exact d p a c.sq (by assumption) rfl
  ·cases b
 ·cases e
noncomputable def Om:XS:=λ_=>aA
theorem K1{X:Cx}{O W:List Nat}{st:ba}:VS X O W st Om:=by intro a s U H D I h;obtain⟨_,_,_,_,_,q,_⟩:=h;cases q
theorem Oo:∀(us:List aG)(k:Nat),(∀(i:Nat)(v:aG),us[i]?=ag v->∃t,v=jD ((k+i:Nat):Int) t)->Vals ((aD us.length).map λi=>V.int ((k+i:Nat):Int)) us
 | [],k,_=>.nil
 | u::us,k,h=>by
  obtain⟨t,rfl⟩:=h 0 u rfl;rw[bK,iD,ak,bQ];refine .cons ⟨t,rfl⟩ ?_;have:=Oo us (k+1) λi v a=>by obtain⟨t,e⟩:=h (i+1) v (by simpa using a);exact⟨t,by rw[e];congr 2;omega⟩
  refine Eq.mp (congrArg (λl=>Vals l us) (ar λi _=>?_)) this;show V.int _=V.int _;congr 2;omega
noncomputable def tLR(ta:TA):TE:=λU H Q=>ta U H λvs H1=>∃j:Nat,vs=[.int (j:Int)]/\j<=10000/\∀l,H1 l=aA->Q (.ref l) (upd H1 l (.lst ((aD j).map λ(i:Nat)=>V.int (i:Int))))
section
variable {X:Cx} {a:bB} {ta:TA} {p p2 pos pos2:da}
theorem Lc(E:X.calm=aC)(g:Gl X "list")(f:X.mg "list" = aA)(u:Gl X "range")(m:X.mg "range" = aA)(y:PA X [a] ta)(hs:aO [a] X.env=[(aB,eval a X.env)]:=by rfl)
  (G:aO [.Call (.Name "range" p2) [a] [] pos2] X.env=(aB,eval (.Call (.Name "range" p2) [a] [] pos2) X.env)::aO [] X.env:=by rfl) (k:(ck pos (aO [] X.env)).any (·.1)=aB:=by rfl) :
  PE X (.Call (.Name "list" p) [.Call (.Name "range" p2) [a] [] pos2] [] pos) (tLR ta):=by
 intro J s U H Q I h;refine cX (VD I g f rfl ?_);refine cJ ?_ G k;refine l6 ?_;refine Call_ (VD I u m nR (cJ (Yf (y pos2 J s U H _ I h) λL s1 ⟨vs,N,F,C,A⟩=>?_) hs rfl));obtain⟨j,e,M,q⟩:=A;subst e
 cases C with
 | cons r rr=>
  cases rr;obtain⟨t,rfl⟩:=r;refine call_range_1 (mP ?_);have sz:sizeLine=2^24:=rfl;refine call_list_range (n:=j) (I.ok.hd E) (oR ..) (small_one (by omega) (by omega) (by omega) (by omega)) (by rw[rangeSize_one];split<;>omega) (by omega) λh' tk c D x z d=>?_;have w:=F.kept (t':=s1.toks+1+1) (h':=s1.heap.push { cls:=.type "range",data:=.fields #[.int 0 s1.toks,.int (j:Int) t,.int 1 (s1.toks+1)] }) λb o e=>aH _ e;refine⟨.ref _,_,w.laid x (aa _) (show ObjOk X.prog X.w _ _ _ (.lst ((aD j).map λ(i:Nat)=>V.int (i:Int))) from⟨by simp;omega,c.toList,D,?_,?_⟩),rfl,q _ (w.hok.fresh (aa _))⟩
  ·have:=Oo c.toList 0 λi v B=>by obtain⟨t',e⟩:=d.2 i v (by simpa using B);exact⟨t',by rw[e];congr 1;omega⟩
   rw[fC,d.1] at this;refine Eq.mp (congrArg (λl=>Vals l c.toList) (ar λi _=>?_)) this;congr 2;omega
  ·rw[iY];exact z
end
noncomputable def II:PV->Option PV
 | .int k=>if 0<=k/\k<=10000 then ag (.lst (iL ((aD k.toNat).map λ(i:Nat)=>(i:Int)))) else aA
 | _=>aA
theorem Ld{X:Cx}{a:bB}{n:XE}{p p2 d b:da}(A:X.calm=aC)(g:Gl X "list")(f:X.mg "list" = aA)(m:Gl X "range")(j:X.mg "range" = aA)(u:VE X a n)(hs:aO [a] X.env=[(aB,eval a X.env)]:=by rfl)
  (B:aO [.Call (.Name "range" p2) [a] [] b] X.env=(aB,eval (.Call (.Name "range" p2) [a] [] b) X.env)::aO [] X.env:=by rfl) (h:(ck d (aO [] X.env)).any (·.1)=aB:=by rfl) :
  VM X (.Call (.Name "list" p) [.Call (.Name "range" p2) [a] [] b] [] d) (Eo II n):=
 PE.imp (Lc A g f m j (VN u MW hs) hs B h) λU H Q ⟨s,l,env,e,k⟩=>by
  obtain⟨x,v,c⟩:=Zd e;refine⟨λ_=>False,s,[x],λ_ z=>z.elim,env,by show(n s).bind _=_;rw[v];rfl,λvs F G s1 C _=>?_⟩;obtain⟨w,rfl,D⟩:=C.one_inv
  cases x with
  | int kk=>
   unfold II at c;simp only at c;split at c
   case isFalse=>cases c
   rename_i E;cases c;refine⟨kk.toNat,by rw[D.int_inv.1];congr 2;omega,by omega,λq o=>?_⟩;have t:(aD kk.toNat).map (λ(i:Nat)=>V.int (i:Int))=((aD kk.toNat).map λ(i:Nat)=>(i:Int)).map V.int:=by rw[bQ];rfl
   rw[t];refine k _ _ [q] (s1.trans (Same.new o _)) (Is.lst Zl (Iss.ofInts _)) (by simp) λr y=>?_;rw[aN.mp y];exact⟨Same.off s1 o,by rw[Zl];exact bY⟩
  | _=>cases c
variable {K:aE}
noncomputable def Cst(mg:aj->Option aG)(x:aj)(k:Int):Prop:=∃t,mg x=ag (jD k t)
theorem IJ{X:Cx}{x:aj}{k:Int}{a:da}(c:Gl X x)(b:Cst X.mg x k)(hd:(x==("__debug__" : aj))=aB:=by decide):VE X (.Name x a) (eC (.int k)):=by obtain⟨t,e⟩:=b;exact Cs (Zac c e (v:=.int k) ⟨t,rfl⟩ hd) λ_=>Is.int k
end VL
namespace VL
open PySem PySem.Spec PyProof.Rows L2
variable {K:aE}
noncomputable def CMulW(i j:Int):Prop:=i.natAbs.log2<67108863/\j.natAbs.log2<67108863
noncomputable def Qz(i j:Int):Prop:=j≠0/\j.natAbs.log2<9000
instance (i j:Int):Decidable (CMulW i j):=by unfold CMulW;infer_instance
instance (i j:Int):Decidable (Qz i j):=by unfold Qz;infer_instance
theorem Ff(i:Int):gL i<=i.natAbs.log2+1:=by
 unfold gL;split
 ·exact eY _
 ·exact aa _
theorem CMulW.ok{i j:Int}(h:CMulW i j):IntMulOk i j:=by
 unfold IntMulOk kD.Int.intTooBig;have d:=Ff i;have b:=Ff j;have a:=h.1;have c:=h.2
 have:decide (((gL i:Int)+(gL j:Int))>(bitsLine:Int))=aB:=decide_eq_false (by
  have e:(bitsLine:Int)=134217728:=rfl;rw[e];omega)
 rw[this];simp
section
variable {X:Cx} {a b:bB} {fa fb:XE} {pos:da}
theorem Zbq:Sm X (dj .Mult) (rI CMulW λi j=>.int (i*j)):=opI λ_ _ _ _ _ _ _ a q=>mul_int q a.ok
theorem Bb:Sm X (dj .FloorDiv) (rI Qz λi j=>.int (i.fdiv j)):=opI λ_ _ _ _ _ _ _ a q=>floordiv_int a.1 q (.inl (PyProof.noPylong_of_log2 a.2))
abbrev S7:=Ct CMulW (· * ·)
abbrev Fg:=Ct Qz n8
theorem U8(d:VE X a fa)(c:VE X b fb):VE X (.BinOp a .Mult b pos) (Zk S7 fa fb):=W7 Zbq (N1 _ _) d c
theorem Oq(d:VE X a fa)(c:VE X b fb):VE X (.BinOp a .FloorDiv b pos) (Zk Fg fa fb):=W7 Bb (N1 _ _) d c
end
theorem Ot:∀{ns:List Int}{n:Int},n∈ns->n.natAbs.log2<=ju (ns.map .int)
 | m::r,n,h=>by
  rw[ak];simp only[ju,PySem.W.WData.weight];rcases aX.mp h with rfl | h
  ·by_cases a:n=0
   ·subst a;have:Nat.log2 (Int.natAbs 0)=0:=by decide +kernel
    omega
   ·rw[oY (by simpa using a)];omega
  ·have:=Ot h;omega
end VL
namespace VL
open PySem PySem.Spec PyProof.Rows L2
variable {K:aE}
noncomputable def Zgt(K:aE)(H0:Hp)(D:Yz):Out->Prop
 | .nx _=>∀U' H',Same H0 H'->D.nx U' H'
 | .rt l=>∀v fp H',Same H0 H'->Is K H' l v fp->fp.Nodup->(∀p∈fp,H0 p=aA/\Uq (H' p))->D.rt v H'
 | _=>False
noncomputable def Zjl(K:aE)(O:List Nat)(f:XS):TS:=λD U H=>∃H0 fps s out,Rel K O H0 fps s U H/\f s=ag out/\Zgt K H0 D out
noncomputable def EA(X:Cx)(O:List Nat)(st:List ba)(f:XS):Prop:=PSs X st (Zjl X.K O f)
section
variable {X:Cx} {O O' W:List Nat} {st:ba} {o6:List ba} {f g:XS}
theorem VSs.r(h:VSs X O W o6 f):EA X O o6 f:=PSs.imp h λD U H ⟨b,fps,s,a,r,e,k⟩=>⟨b,fps,s,a,r,e,by
 cases a with
 | nx s'=>exact λi g c d _=>k g c d.same
 | rt l=>exact k
 | bk s'=>exact k.elim
 | ct s'=>exact k.elim⟩
theorem YD(h:VS X O W st f)(i:EA X O o6 g):EA X O (st::o6) (Zm f g):=PSs.imp (Sq h i) λD U H ⟨d,fps,s,b,r,e,k⟩=>by
 obtain⟨c,j,e⟩:=Zd e;refine⟨d,fps,s,c,r,j,?_⟩
 cases c with
 | nx s1=>exact λa U1 n m _=>⟨d,a,s1,b,m,e,k⟩
 | bk s1=>cases e;exact k.elim
 | ct s1=>cases e;exact k.elim
 | rt l=>cases e;exact k
theorem EB(h:EA X O' o6 g)(hs:∀i∈O',i∈O:=by decide):EA X O o6 g:=PSs.imp h λD U H ⟨b,fps,s,a,r,e,k⟩=>⟨b,fps,s,a,r.weak hs,e,k⟩
end
theorem EC{N:List aj}{n:Nat}{O:List Nat}{vs:List V}{H:Hp}{ls:List PV}{s:List aK}(h:∀i∈O,n<=i)(u:vs.length=n)(d:Iss K H ls vs s):∃fps,Rel K O H fps (ZK N.length ls) (L2.start N vs) H:=by
 obtain⟨fps,m,p2⟩:=d.fps;have e:=d.len
 have g:∀i:Nat,ls.length<=i->∀l,(ZK N.length ls)[i]?≠ag (ag l):=λi d l z=>by
  unfold ZK at z;rw[bH (by simpa using d),bc] at z;split at z<;>cases z
 refine⟨fps,Same.refl H,?_,λi a z=>?_,λi k=>?_,λi d=>?_,λi d p f=>?_,λi d j t p f=>?_⟩
 ·unfold ZK L2.start;simp[e]
 ·by_cases c:i<ls.length
  ·unfold ZK at z;rw[au (by simpa using c),aU] at z
   cases q:ls[i]? with
   | none=>rw[q] at z;cases z
   | some b=>
    rw[q] at z;cases z;obtain⟨v,o,b1⟩:=m i a q;refine⟨v,?_,b1⟩;unfold L2.start;rw[au (by simpa [e] using c),aU,o];rfl
  ·exact absurd z (g i (by omega) a)
 ·by_cases c:i<ls.length
  ·exact absurd (by unfold ZK;rw[au (by simpa using c),aU,aJ c];rfl) (k ls[i])
  ·exact p2 i (by omega)
 ·rw[p2 i (by have:=h i d;omega)];exact cF
 ·rw[p2 i (by have:=h i d;omega)] at f;simp at f
 ·rw[p2 i (by have:=h i d;omega)] at f;simp at f
theorem Bc{N:List aj}{n:Nat}{O:List Nat}{f:XS}{vs:List V}{H:Hp}{Q:VK}{E:XK}(s:∀i∈O,n<=i)(h:Y0 K (YL N.length f) n vs H Q E):Zjl K O f { nx:=λ_ b=>Q .non b,rt:=Q } (L2.start N vs) H:=by
 obtain⟨u,ls,k,l,m,e,q⟩:=h;obtain⟨a,o,c⟩:=Zd e;obtain⟨fps,j⟩:=EC s u m;refine⟨H,fps,ZK N.length ls,a,j,o,?_⟩
 cases a with
 | nx s'=>
  cases c;exact λw b g=>q .non b [] g Is.non cF λp t=>by simp at t
 | rt v=>
  cases c;exact λv k b g i d n=>q v b k g i d n
 | bk s'=>cases c
 | ct s'=>cases c
end VL
namespace VL
open PySem PySem.Spec PyProof.Rows L2
noncomputable def Bd(i:Nat)(f0:XE):XS:=λs=>(f0 s).bind λl0=>match s[i]? with
 | some (ag l)=>if ZT l0=aC then ag (.rt (.tup [l0,l])) else aA
 | _=>aA
theorem Be{X:Cx}{O:List Nat}{e:bB}{i:Nat}{g:XE}{a:da}(w:PE X e (Ziv (Tz (tF X.K g) (Tz (TV i) Kl))))(b:i∈O:=by decide):VS X O [] (.Return (ag e) a) (Bd i g):=PS.imp (J6 w) λD U H ⟨B,fps,s,j,r,e,k⟩=>by
 obtain⟨u,x,e⟩:=Zd e;split at e
 case h_2=>cases e
 rename_i l h;split at e
 case isFalse=>cases e
 rename_i t;cases e;obtain⟨v,p,o⟩:=r.is i _ h;refine⟨λ_=>False,s,u,λ_ z=>z.elim,r.env,x,λm c f1 s1 d _=>?_⟩;have:=Is.pure _ _ _ t d;subst this;refine⟨v,p,(by show 2<=sizeLine;decide),λq A=>?_⟩;have sn:Same c (upd c q (.tup [m,v])):=Same.new A _;have f:=r.grow s1;refine k _ (fps i) _ (f.same.trans sn) (Is.tup Zl ?_) (r.nd i b) λz y=>?_
 ·have n:=Iss.cons (d.mono sn) (Iss.one ((o.mono s1).mono sn));simpa using n
 ·have:=f.own i b z y;exact⟨this.1,Same.mut sn this.2⟩
end VL
namespace PW
open PySem L2 VL
noncomputable def ED:XS:=(ZO (eP (Zc ZV [Zt 2 [3,1,2,0] (SM aB aB [Za 0,Za 1]) (.many [0,1]) ZD (Zk Fg (Zk Xk (Zk S7 (Zk ZJ (Za 3) (Za 4)) (Za 0)) (Zk S7 (Zk ZJ (Za 5) (Za 4)) (Za 1))) (Za 2))])))
noncomputable def RS:List PV->Option PV:=YL 4 ED
noncomputable def K2:XS:=(Zm (Zu 1 (Zc T2 [Za 0]))
  (Zm (Zu 2 (eP (eC (.int 1))))
  (Zm (YN [1] (Z8 [Zc ZZ [Za 0]]) (.one 3) (Zm (Zu 4 (eP (Zk ZJ (Za 1) (Za 3))))
  (Zm (Zu 1 (Zt 2 [3,4,2] (WD aC [Za 1]) (.many [0,1]) ZD (eP (J1 (xB (Zk (Xx aB) (Za 0) (Za 2))) (Za 1) (Zc RS [Za 1,Za 3,Za 2,Za 4])))))
  (Zu 2 (eP (Zk ZJ (Za 4) (Za 3)))))))
  (Bd 1 (Za 2)))))
noncomputable def Ou:List PV->Option PV:=YL 5 K2
noncomputable def Ov:XS:=(Zm (Zu 2 (Zc Ou [Zt 2 [] (SM aB aB [Za 0,Za 1]) (.many [0,1]) ZD (Zk Qy (Za 0) (Wk [Za 1]))]))
  (ZO (Zt 1 [2] (XB (Zk ZJ (Za 2) (eC (.int 1)))) (.one 0) ZD (eP (Zk Fg (Zk ZJ (Za 0) (Eo KG (eC (.int 1)))) (Zk ZJ (Za 1) (eC (.int 0))))))))
noncomputable def WH:List PV->Option PV:=YL 3 Ov
noncomputable def Bf:XS:=(ZO (eP (Zc ZV [Zt 1 [1,0] (XB (Za 2)) (.one 0) ZD (J1 (xB (Zk (Xx aB) (Za 0) (Za 1))) (Zc Vt [Za 2,Za 1]) (Eo KG (Zk ZJ (Zk ZJ (Za 2) (Za 1)) (Za 0))))])))
noncomputable def Ox:List PV->Option PV:=YL 3 Bf
noncomputable def RT:XS:=(Zm (Zu 2 (Zt 1 [1] (Z8 [Zc ZZ [Za 0]]) (.one 0) (xB (Zk (Xx aC) (Za 0) (Za 1))) (eP (Za 0))))
  (ZO (eP (Zc ZV [Zt 1 [0,2] (XB (Za 2)) (.one 0) ZD (Zc Ox [Za 1,Za 0,Za 2])]))))
noncomputable def XD:List PV->Option PV:=YL 3 RT
noncomputable def EE:XS:=(Zm (Zu 3 (eP (Zk Qy (SO Tu (Za 1) Rw (TJ (Za 2))) (SO Tu (Za 1) (TJ (Zk Z6 (Za 2) (eC (.int 1)))) Rw))))
  (Zm (Zu 4 (Zc WH [Zc XD [Za 0,Za 2],Za 3]))
  (Zm (U5 4 (Za 2) (eC (.int 0)))
  (ZO (eP (Zc ZV [Za 4]))))))
noncomputable def RU:List PV->Option PV:=YL 5 EE
noncomputable def K3:XS:=(ZO (eP (Zc ZV [Zt 1 [1] (Z8 [Zc ZZ [Za 0]]) (.one 0) ZD (J1 (xB (Zk (Nw aB) (Za 0) (Za 1))) (Eo KG (eC (.int 1))) (eC (.int 0)))])))
noncomputable def Ve:List PV->Option PV:=YL 2 K3
noncomputable def Fh:XS:=(Zm (Zu 1 (eP (Zc Fc [Za 0])))
  (ZO (eP (Zc ZV [Zt 1 [1] (Ts (Za 0)) (.one 0) ZD (Zk Xk (Za 0) (Za 1))]))))
noncomputable def Pa:List PV->Option PV:=YL 2 Fh
end PW
namespace L2
open PySem PySem.Spec PyProof.Rows
abbrev WJ:=aK->cg->List (List YR×V)->It
end L2
namespace VL
open PySem PySem.Spec PyProof.Rows L2
variable {K:aE}
theorem EF{b:Type}[DecidableEq b]{a:List b}{k:b}(h:k∉a):N9 a k=a++[k]:=oY h
theorem EG{a:Type}[DecidableEq a]{b:List a}{vs:List PV}{k:a}{v:PV}(h:k∉b):Ma b vs k v=vs++[v]:=oY h
end VL
namespace VL
open PySem PySem.Spec PyProof.Rows L2
section
variable {K:aE} {P:ay} {w:b9} {mg:aj->Option aG} {base:bR}
theorem Zbr{x:aj}{st:ba}{N d:List aj}{k n:Nat}{O:List Nat}(m:Nat)(f:XS)(D:Def K mg x st)(S:Zq N d (Zg st))
  (p:∀(kV doc pm:aG)(an:Option aK)(b ct:aG)(us:List aG),us.length=d.length->gx (cV x x (Yy st) (Z2 st) (Zg st) .none kV doc pm an b ct) ⟨us,[]⟩=pure (d.zip us))
  (o:d.length=n) (g:N.length=m) (j:∀i∈O,n<=i)
  (c:∀(e:aK)(b:aG)(A:bU)(a:List jR)(s:aM)(H:Hp)(E:XK),Room k (A.deeper (gh x (Zg st) s.heap.objs.size e b))->EA (Su MN P w K mg base N x (Zg st) e b A a s H E).nox O (Z2 st) f) :
  Xd P w K mg base x d (Y0 K (YL m f) n) (k+1):=by
 subst g;refine D.cal S p (λvs H Q E h=>by rw[o];exact h.1) λe b A a s H vs Q E l h=>⟨_,c e b A a s H E l,Bc j h⟩
end
theorem Zbs{K:aE}:RB K Zi0 Ez:=λH x y a b l z fb j u e Q k=>by
 cases a with
 | lst m=>cases b with
  | lst n=>
   have e:(if m.length+n.length<=10000 then ag (PV.lst (m++n)) else aA)=ag l:=e;split at e
   case isFalse=>cases e
   rename_i v;cases e;obtain⟨p,xs,t,rfl,o,i,rfl⟩:=j.lst_inv;obtain⟨s,w,h,rfl,f,d,rfl⟩:=u.lst_inv;refine⟨p,s,xs,w,rfl,rfl,o,f,by rw[i.len,d.len];exact cO (lt_size v),λq g=>?_⟩;refine k _ _ (q::(t++h)) (Same.new g _) (Is.lst Zl ((i.append d).mono (Same.new g _))) λr c=>?_;rcases aX.mp c with rfl | c
   ·exact .inr (.inr g)
   ·rcases ah.mp c with c | c
    ·exact .inl (aR _ c)
    ·exact .inr (.inl (aR _ c))
  | _=>cases e
 | _=>cases e
theorem Zbt{X:Cx}{a b:bB}{d fb:XE}{c:da}(f:VE X a d)(e:VE X b fb):VE X (.BinOp a .Add b c) (Zk Ez d fb):=W7 Cg Zbs f e
end VL
namespace PW
open PySem L2 VL
noncomputable def Bg:XS:=(Zm (Zu 3 (eP (Zk X1 (Zk NC (Zk Z6 (Zk X1 (Za 0) (eC (.int 999983))) (Za 1)) (Zk Z6 (Za 1) (eC (.int 389)))) (eC (.int 999983)))))
  (Zm (Zu 3 (eP (Zk X1 (Zk Z6 (Zk Z6 (Zk NC (Za 3) (Za 3)) (Zk SA (Za 0) (eC (.int 999983)))) (Za 1)) (eC (.int 999979)))))
  (ZO (eP (Zk X1 (Zk SA (Za 3) (eC (.int 3))) (Za 2))))))
noncomputable def ZU:List PV->Option PV:=YL 4 Bg
noncomputable def V6:XS:=(Zm (Zu 3 (eP (Zk ZJ (Za 1) (Zk X1 (Za 0) (Zc ZZ [Za 1])))))
  (Zm (Zu 0 (eP (Zk SA (Za 0) (Zc ZZ [Za 1]))))
  (Zm (Zu 4 (X9 []))
  (Zm (Zu 5 (X9 []))
  (Zm (YN [4,5,9] (Z8 [Za 3]) (.one 6) (Zm (U5 4 (Zk X1 (Za 0) (Zk Z6 (Za 6) (eC (.int 1)))) (Za 6))
  (Zu 0 (eP (Zk SA (Za 0) (Zk Z6 (Za 6) (eC (.int 1))))))))
  (Zm (YN [4,5,9] (Va [eC (.int 1),Za 3]) (.one 6) (Zm (YJ 5 (eP (Wk [Za 6,Zk X1 (Za 0) (Za 6)])))
  (Zu 0 (eP (Zk SA (Za 0) (Za 6))))))
  (Zm (Zu 7 (eP (Zk NC (Zc Qx [Zk DO (Za 3) (eC (.int 1))]) (Zk X1 (Za 0) (Zk Z6 (Zk Xk (Za 2) (Za 3)) (eC (.int 2)))))))
  (Zm (Zu 0 (eP (Zk SA (Za 0) (Zk Z6 (Zk Xk (Za 2) (Za 3)) (eC (.int 2))))))
  (Zm (YN [4,5,9] (Z8 [Za 7]) (.one 6) (Zm (Zu 8 (eP (Zk X1 (Za 0) (Za 3))))
  (Zm (Zu 0 (eP (Zk SA (Za 0) (Za 3))))
  (Zm (YJ 5 (eP (Wk [Za 8,Zk X1 (Zk Z6 (Zk Z6 (Za 8) (eC (.int 1))) (Zk X1 (Za 0) (Zk Xk (Za 3) (eC (.int 1))))) (Za 3)])))
  (Zu 0 (eP (Zk SA (Za 0) (Zk Xk (Za 3) (eC (.int 1))))))))))
  (Zm (Zu 9 (Zt 1 [3] (Z8 [Za 3]) (.one 0) ZD (Zk IC (X9 [eC (.int 0)]) (Za 1))))
  (Zm (YN [9] (XB (Za 5)) (.many [8,10]) (Zm (Zu 11 (eP (Zk Z6 (Zk ZJ (Zk ZJ (Za 9) (Zk ZJ (Za 4) (Za 8))) (Zk ZJ (Za 4) (Za 10))) (eC (.int 1)))))
  (Zm (Xo 9 (Zk ZJ (Za 4) (Za 8)) (Zk ZJ (Za 4) (Za 10)) (Za 11))
  (Xo 9 (Zk ZJ (Za 4) (Za 10)) (Zk ZJ (Za 4) (Za 8)) (Za 11)))))
  (ZO (eP (Zc ZV [Zt 1 [] (XB (Za 9)) (.one 0) ZD (Zc ZV [Za 0])]))))))))))))))
noncomputable def Wn:List PV->Option PV:=YL 12 V6
noncomputable def Zgu:XS:=(ZO (eP (J1 (xB (Zk GJ (Za 1) (Zc ZZ [Za 0]))) (Zk ZJ (Za 0) (Za 1)) (eC (.int 0)))))
noncomputable def Yk:List PV->Option PV:=YL 2 Zgu
noncomputable def Fi:XS:=(Zm (T5 (xB (Zk (Xx aB) (Zk X1 (Zc Yk [Za 0,eC (.int 0)]) (eC (.int 2))) (eC (.int 1)))) (ZO (Zc Wn [Zc Yk [Za 0,eC (.int 1)],Za 1,Za 2])) Yh)
  (Zm (Zu 3 (eP (Zk ZJ (Za 1) (Zc ZU [Zc Yk [Za 0,eC (.int 0)],eC (.int 1),Zc ZZ [Za 1]]))))
  (Zm (Zu 4 (Zt 1 [3] (Z8 [Za 3]) (.one 0) ZD (Zk IC (X9 [eC (.int 0)]) (Za 1))))
  (Zm (Zu 5 (eP (eC (.int 0))))
  (Zm (YN [4] (Va [eC (.int 1),eC (.int 13)]) (.one 6) (Zm (Zu 7 (Zc Yk [Za 0,Za 6]))
  (Zm (Zu 8 (Zc ZU [Za 7,eC (.int 13),Za 3]))
  (Zm (Zu 9 (eP (Zk X1 (Zk Z6 (Zk Z6 (Za 8) (eC (.int 1))) (Zc ZU [Za 7,eC (.int 17),Zc KJ [eC (.int 1),Zk Xk (Za 3) (eC (.int 1))]])) (Za 3))))
  (Zm (T5 (xB (Zk GJ (Za 6) (Za 3))) (Zm (Zu 8 (eP (Za 6)))
  (Zu 9 (Zc ZU [Za 7,eC (.int 5),Za 6]))) Yh)
  (Zm (Zu 10 (eP (MU (Zk DO (Za 3) (eC (.int 1))) (MU (Zk GJ (Za 5) (Za 2)) (Zk DO (Zc ZU [Za 7,eC (.int 3),eC (.int 3)]) (eC (.int 0)))))))
  (T5 (Ke (xB (Zk GJ (Za 6) (Za 3))) (xB (Za 10))) (Zm (Xo 4 (Za 8) (Za 9) (Zk Z6 (Zk ZJ (Zk ZJ (Za 4) (Za 8)) (Za 9)) (eC (.int 1))))
  (Zm (Xo 4 (Za 9) (Za 8) (Zk ZJ (Zk ZJ (Za 4) (Za 8)) (Za 9)))
  (Zu 5 (eP (Zk Z6 (Za 5) (eC (.int 1))))))) Yh)))))))
  (Zm (Zu 11 (Zc ZU [Zc Yk [Za 0,eC (.int 0)],eC (.int 7),Za 3]))
  (Zm (Zu 4 (Zt 1 [11] (XB (Zk Ez (SO VZ (Za 4) (TJ (Za 11)) Rw) (SO VZ (Za 4) Rw (TJ (Za 11))))) (.one 0) ZD (Zk Mc (SO VZ (Za 0) (TJ (Za 1)) Rw) (SO VZ (Za 0) Rw (TJ (Za 1))))))
  (ZO (eP (Zc ZV [Zt 1 [] (XB (Za 4)) (.one 0) ZD (Zc ZV [Za 0])]))))))))))
noncomputable def Zbu:List PV->Option PV:=YL 12 Fi
noncomputable def Bh:XS:=(Zm (Zu 3 (X9 []))
  (Zm (YN [3] (Z8 [Zc ZZ [Za 0]]) (.one 4) (Zm (Zu 5 (eP (Zk ZJ (Za 1) (Za 4))))
  (Zm (YN [3] (Z8 [Zc ZZ [Za 0]]) (.one 6) (Zm (Zu 7 (eP (Zk Xk (Zk ZJ (Za 2) (Za 4)) (Zk ZJ (Za 2) (Za 6)))))
  (Zu 5 (eP (Zk Xk (Za 5) (Zk NC (Zk ZJ (Zk ZJ (Za 0) (Za 4)) (Za 6)) (Za 7)))))))
  (YJ 3 (eP (Za 5))))))
  (ZO (eP (Zc ZV [Za 3])))))
noncomputable def S8:List PV->Option PV:=YL 8 Bh
noncomputable def Bi:XS:=(ZO (eP (Zc ZV [Zt 1 [1] (Z8 [Zc ZZ [Za 0]]) (.one 0) ZD (J1 (xB (Zk (Xx aB) (Za 0) (Za 1))) (eC (.int 1)) (eC (.int 0)))])))
noncomputable def Oy:List PV->Option PV:=YL 2 Bi
noncomputable def T9:XS:=(Zm (T5 (Ke (Wj (xB (Zc W9 [Za 0,eC (.ty "tuple")]))) (xB (Zk (Xx aC) (Zc ZZ [Za 0]) (Za 1)))) (ZO (eP (eC (.bl aB)))) Yh)
  (ZO (eP (Zc MX [Zt 1 [] (Ts (Za 0)) (.one 0) ZD (Zc Wv [Za 0])]))))
noncomputable def YQ:List PV->Option PV:=YL 2 T9
noncomputable def EH:XS:=(ZO (eP (Zk Z6 (Zk Xk (Zk SA (Zc VQ [Zt 1 [] (Ts (Za 0)) (.one 0) ZD (Zc VQ [Za 0])]) (eC (.int 2))) (Zc ZZ [Za 0])) (eC (.int 1)))))
noncomputable def U9:List PV->Option PV:=YL 1 EH
end PW
namespace VL
open PySem PySem.W PyProof.Rows
section
variable {r:Nat->Int} {n:Nat}
noncomputable def at0(p:Array Nat)(i:Nat):Nat:=p.getD i 0
end
section
variable {prog:ay} {w:b9} {A:bU} {E:aG->aM->Prop} {s:aM}
theorem K4{l:aK}{vs:List aG}{Q:List aG->aM->Prop}(d:oH s.heap l vs.toArray)
  (h:Q vs { s with heap:=(s.heap.push (ly "list" #[] 0)).update s.heap.objs.size (gj (·++vs.toArray)) }) (c:vs.length<=sizeLine:=by size_fits) :
  av (model prog w) A (collect (.ref l)) Q E s:=by
 obtain⟨o,b,e,n,hd⟩:=id d;refine aI (wpAny_runValue (codeAny_builtin entry_proto_collect' ?_));refine aI (wpAny_newList (a9 ⟨jN _ (by simp),codeAny_builtin entry_list_iadd' ?_⟩));show av _ _ (kD.List.listExtendWith (.ref s.heap.objs.size) (.ref l) (.ref s.heap.objs.size)) _ _ { s with heap:=s.heap.push (ly "list" #[] 0) };have a:(s.heap.push (ly "list" #[] 0)).get? l=ag o:=aH _ b;refine aI (mR ⟨o,a,e⟩ ?_);rw[oX (by simp)];refine aI (listItems_at a hd ?_);refine aI (listItems_at (af _ rfl) rfl ?_);refine aI (listUpdate_at (af _ rfl) rfl ?_ (eY _) (by show(#[]++vs.toArray).size<=sizeLine+1;simp only[Array.size_append,aT,kQ];omega));refine a9 ?_
 show av (model prog w) A (do
   let o <-load s.heap.objs.size
   match o.data with
   | .seq xs _=>pure xs.toList
   | _=>unsupported "internal:collect") Q E { s with heap:=(s.heap.push (ly "list" #[] 0)).update s.heap.objs.size (gj (·++vs.toArray)) }
 refine aI (wpAny_load (get?_update_seq (af _ rfl) _) ?_);show av _ _ (pure ((#[]:Array aG)++vs.toArray).toList) Q E _;rw[show((#[]:Array aG)++vs.toArray).toList=vs by simp];exact a9 h
theorem Lf{l:aK}{vs:List aG}{f:List Int}{Q:aG->aM->Prop}(m:oH s.heap l vs.toArray)(g:jz vs f)(e:vs.length<64)
  (h:∀(b:Array aG)(a:List Int),jz b.toList a->a.Perm f->a.Pairwise (·<=·)->Q (.ref (s.heap.objs.size+1)) { s with heap:=sortedAll s.heap vs b }) :
  av (model prog w) A (call (.builtin "sorted") [.ref l]) Q E s:=by
 refine Calls.call_function_entry kind_sorted plain_sorted entry_sorted (args_sorted1 _) ?_;refine aI (a9 ?_);refine aI (K4 m ?_ (by rw[gn];omega));refine aI (wpAny_newList ?_ (by rw[gn];omega));have d:((s.heap.push (ly "list" #[] 0)).update s.heap.objs.size (gj (·++vs.toArray))).objs.size=s.heap.objs.size+1:=by rw[bR.size_update,size_push']
 have c:(((s.heap.push (ly "list" #[] 0)).update s.heap.objs.size (gj (·++vs.toArray))).push (ly "list" vs.toArray 0)).get? (s.heap.objs.size+1)=ag (ly "list" vs.toArray 0):=by rw[<-d];exact af _ rfl
 rw[d];refine aI (dW (fE slot_list_sort ⟨_,c,rfl⟩ entry_list_sort (list_sort_tree c g e λb a j k i=>⟨_,rfl,?_⟩) (args_list_sort _)));exact a9 ⟨_,rfl,h b a j k i⟩
end
end VL
namespace VL
open PySem PySem.W PyProof.Rows L2
noncomputable def pairK:List YR->Option (Int×Int)
 | [.inl x,.inl y]=>ag (x,y)
 | _=>aA
noncomputable def K5(K:aE):List V->Hp->VK->Prop:=λxs H Q=>∃p ns,xs=[.ref p]/\SqT K H p (ns.map V.int)/\ns.length<64/\∀l,H l=aA->Q (.ref l) (upd H l (.lst ((Xa ns).map V.int)))
theorem Lg{X:Cx}:Xh X (.builtin "sorted") (K5 X.K):=by
 intro y s U H xs x Q I r h;obtain⟨p,f,rfl,k,z,q⟩:=h;obtain⟨u,rfl,n⟩:=Ue r;cases n;obtain⟨j,g,pl,i⟩:=I.tuple k;have c:=g.length;rw[aL] at c i;refine Lf pl (Py g) (by omega) λa v l m t=>?_;obtain⟨e,w⟩:=sortedAll_at s.heap j a;have d:=S6 m t;subst d;refine⟨.ref (s.heap.objs.size+1),_,I.laid (λb o=>sortedAll_old) (iT _) (show ObjOk X.prog X.w _ _ _ (.lst ((Xa f).map V.int)) from⟨?_,a.toList,e,V5 l,?_⟩),rfl,q _ (I.hok.fresh (iT _))⟩
 ·rw[aL,(WG f).length_eq];exact i
 ·rw[iY];exact w
noncomputable def Oz:List PV->Option PV
 | [.tup l]=>(Yj l).bind λns=>if ns.length<64 then ag (.lst (iL (Xa ns))) else aA
 | _=>aA
theorem K6{K:aE}:RCM K (K5 K) Oz:=λH vs ls l n h e Q k=>by
 unfold Oz at e;split at e
 ·obtain⟨f,g,a⟩:=Zd e;split at a
  ·cases a;obtain⟨v,rfl,i⟩:=h.one_inv;have c:=Z7 g;subst c;obtain⟨p,xs,rfl,j,d⟩:=i.tup_inv;obtain⟨rfl,rfl⟩:=d.iL;refine⟨p,f,rfl,.inl (.inl j),by assumption,λq b=>k _ _ [q] (Same.new b _) (Is.lst Zl (Iss.ofInts _)) (by simp) λr m=>?_⟩;rw[aN.mp m];exact⟨b,by rw[Zl];exact bY⟩
  ·cases a
 ·cases e
end VL
namespace VL
open PySem PySem.Spec PyProof.Rows L2
variable {K:aE}
instance (x:aj) (n:Int):Decidable (MulOk x n):=by unfold MulOk;infer_instance
end VL
set_option maxHeartbeats 1000000
set_option maxHeartbeats 3200000
namespace VX
open PySem PySem.Spec PyProof.Rows L2
structure Eff(fs ch:List aK)(h h':bR):Prop where
 keep:∀b o,h.get? b=ag o->b∉ch->b∉fs->h'.get? b=ag o
 slot:∀b o,h.get? b=ag o->b∉ch->b∈fs->∃sl,h'.get? b=ag { o with slots:=sl }
 there:∀b o,h.get? b=ag o->∃o',h'.get? b=ag o'
theorem Eff.trans{fs ch:List aK}{h i g:bR}(x:Eff fs ch h i)(y:Eff fs ch i g):Eff fs ch h g:=
 ⟨λb o e c a=>y.keep b o (x.keep b o e c a) c a,λb o e c a=>by
  obtain⟨l,f⟩:=x.slot b o e c a;obtain⟨d,k⟩:=y.slot b _ f c a
  exact⟨d,k⟩,λb o e=>by
  obtain⟨j,f⟩:=x.there b o e;exact y.there b j f⟩
theorem Eff.mono{fs ch a:List aK}{h h':bR}(x:Eff fs ch h h')(hs:∀b∈ch,b∈a):Eff fs a h h':=
 ⟨λb o e d c=>x.keep b o e (λz=>d (hs b z)) c,λb o e d c=>x.slot b o e (λz=>d (hs b z)) c,x.there⟩
theorem Eff.field{fs:List aK}{h:bR}{a:aK}{o:cg}{vs:Array aG}{f:Array aG->Array aG}(d:h.get? a=ag o)(hd:o.data = .fields vs):Eff fs [a] h (h.update a (e9 f)):=
  ⟨λb u e c _=>by rw[cA _ _ (λz=>c (by rw[z];exact .head _))];exact e,
   λb u e c _=>⟨u.slots,by rw[cA _ _ (λz=>c (by rw[z];exact .head _))];exact e⟩,
   λb u e=>by
    by_cases q:a=b
    · subst q;exact⟨_,cw _ d (fU (dG hd f))⟩
    · exact⟨u,by rw[cA _ _ q];exact e⟩⟩
theorem Eff.funs{fs:List aK}{ch:List aK}{h h' base:bR}{l:List jR}(x:Eff fs ch h h')(d:h.FunFrames base l)(g:∀b∈ch,∀o,h.get? b=ag o->∃vs,o.data = .fields vs):h'.FunFrames base l:=
 d.of_keeps λb o e f=>by
  have a:b∉ch:=λz=>by obtain⟨vs,q⟩:=g b z o e;exact f vs q
  by_cases c:b∈fs
  ·obtain⟨i,q⟩:=x.slot b o e a c;exact⟨_,q,rfl⟩
  ·exact⟨o,x.keep b o e a c,rfl⟩
section
variable {M:mx} {A:bU} {E:aG->aM->Prop} {s:aM}
theorem OA{base:bR}{env:jR}{d:List jR}{L e:aK}{v:cg}{vs:Array aG}{g:aG}{i:Bool}{Q:Unit->aM->Prop}
  (n:A.frames=ag (env::d)) (w:s.heap.FunFrames base (env::d)) (F:env.frame=ag L)
  (x:s.heap.get? e=ag v) (hd:v.data = .fields vs) (m:1<vs.size)
  (h:∀h' T,s.heap.objs.size<=T->h'.get? e=ag (v.mapFields (·.setIfInBounds 1 (.ref T)))->(∃oT ts,h'.get? T=ag oT/\oT.data = .fields ts/\ts[3]?=ag (eF L))->Eff ((env::d).filterMap (·.frame)) [e] s.heap h'->Q () { s with heap:=h' }) :
  av M A (do let a <-frameOf env;let pl <-entryPlaceOf L i;let b <-EntryCells.newEntry g a .none (eF L) .none pl;setField (.ref e) 1 b) Q E s:=by
 have k:e∉(env::d).filterMap (·.frame):=λB=>by obtain⟨_,o,l,p⟩:=w.mem B;rw[x] at l;injection l with l;subst l;exact p vs hd
 refine aI (wpAny_frameOf_fun n w F λh₁ c=>?_);refine aI (wpAny_entryPlaceOf λpl t=>?_);refine aI (dI ?_ (t.sizeOk5 _ _ _ _ _));have j:=(c.2.1 e k).trans x;have f:=aH { cls:=.type "traceback",dict:=aA,data:=.fields ([g,.ref L,.none,eF L,.none]++(if pl.isEmpty then aQ 6 g7 else pl)).toArray } j;have u:=c.1;have y:=cw (e9 (·.setIfInBounds 1 (dN h₁.objs.size))) f (fU (dG hd _))
 have p2:=(cA (h₁.push { cls:=.type "traceback",dict:=aA,data:=.fields ([g,.ref L,.none,eF L,.none]++(if pl.isEmpty then aQ 6 g7 else pl)).toArray })
  (e9 (·.setIfInBounds 1 (dN h₁.objs.size))) (az (aP j))).trans (af h₁ rfl)
 have D:Eff ((env::d).filterMap (·.frame)) [e] s.heap ((h₁.push { cls:=.type "traceback",dict:=aA,data:=.fields ([g,.ref L,.none,eF L,.none]++(if pl.isEmpty then aQ 6 g7 else pl)).toArray }).update e (e9 (·.setIfInBounds 1 (dN h₁.objs.size)))):=
  Eff.trans ⟨λb o q _ C=>(c.2.1 b C).trans q,λb o q _ _=>c.2.2 b o q,λb o q=>by obtain⟨G,z⟩:=c.2.2 b o q;exact⟨_,z⟩⟩ (Eff.trans ⟨λb o q _ _=>aH _ q,λb o q _ _=>⟨o.slots,aH _ q⟩,λb o q=>⟨o,aH _ q⟩⟩ (Eff.field f hd))
 refine iA f hd m (h _ h₁.objs.size (by omega) y ⟨_,_,p2,rfl,?_⟩ D);simp
noncomputable def Bj(h:bR)(e:aK)(cls:aG)(dd:Option aK):Prop:=∃oe vs,h.get? e=ag oe/\oe.cls=cls/\oe.dict=dd/\oe.data = .fields vs/\vs[1]?=ag .none
noncomputable def EI(h:bR)(e:aK)(cls:aG)(dd:Option aK)(T:aK)(fl:aG):Prop:=
 ∃oe vs oT ts,h.get? e=ag oe/\oe.cls=cls/\oe.dict=dd/\oe.data = .fields vs/\vs[1]?=ag (.ref T)/\T≠e/\h.get? T=ag oT/\oT.data = .fields ts/\ts[3]?=ag fl
theorem Ux(o:cg)(f:Array aG->Array aG):(o.mapFields f).dict=o.dict:=by
 unfold e9;split<;>rfl
variable {base:bR} {env:jR} {outer:List jR} {L e T:aK} {cls fl:aG} {dd:Option aK} {Q:Unit->aM->Prop}
theorem Zjm(b:A.frames=ag (env::outer))(l:s.heap.FunFrames base (env::outer))(i:env.frame=ag L)(x:Bj s.heap e cls dd)
  (h:∀h' T,s.heap.objs.size<=T->EI h' e cls dd T (eF L)->Eff ((env::outer).filterMap (·.frame)) [e] s.heap h'->Q () { s with heap:=h' }):av M A (jF (.ref e) env) Q E s:=by
 obtain⟨q,vs,d,m,c,hd,f⟩:=x;unfold jF;simp only[i];refine aI (cD d hd f ?_);have a:=(eB.mp f).1;refine OA b l i d hd a λh' T g k ⟨n,ts,p2,o,p⟩ j=>h h' T g ⟨_,_,n,ts,k,(jY _ _).trans m,(Ux _ _).trans c,dG hd _,by simp[a],?_,p2,o,p⟩ j;exact dk (aZ (aP d) g)
theorem Zem(k:A.frames=ag (env::outer))(F:s.heap.FunFrames base (env::outer))(B:env.frame=ag L)(x:EI s.heap e cls dd T .none)
  (h:∀h' i,s.heap.objs.size<=i->EI h' e cls dd i (eF L)->Eff ((env::outer).filterMap (·.frame)) [e,T] s.heap h'->Q () { s with heap:=h' }):av M A (jF (.ref e) env) Q E s:=by
 obtain⟨N,vs,J,ts,t,G,m,hd,v,n,g,c,w⟩:=x;unfold jF;simp only[B];refine aI (cD t hd v ?_);refine aI (cD g c w ?_);refine aI (iA g c (eB.mp w).1 ?_);have f:=(eB.mp v).1;have y:Eff ((env::outer).filterMap (·.frame)) [T] s.heap (s.heap.update T (e9 (·.setIfInBounds 3 g7))):=Eff.field g c;have p:=y.funs F (λb d o q=>by rw[aN.mp d,g] at q;cases q;exact⟨_,c⟩);have j:=(cA s.heap (e9 (·.setIfInBounds 3 g7)) n).trans t;have z:(s.heap.update T (e9 (·.setIfInBounds 3 g7))).objs.size=s.heap.objs.size:=by simp
 refine OA k p B j hd f λh' i a D ⟨l,u,p2,H,I⟩ C=>h h' i (by rw[<-z];exact a) ⟨_,_,l,u,D,(jY _ _).trans G,(Ux _ _).trans m,dG hd _,by simp[f],?_,p2,H,I⟩ ?_
 ·have a:=a;rw[z] at a;exact dk (aZ (aP t) a)
 ·exact(y.mono λb d=>by simp[d]).trans (C.mono λb d=>by simp at d;simp[d])
theorem OB(x:EI s.heap e cls dd T fl){fs:List aK}(h:∀h',EI h' e cls dd T .none->Eff fs [T] s.heap h'->h'.objs.size=s.heap.objs.size->Q () { s with heap:=h' }):av M A (setFlight (.ref e) aA) Q E s:=by obtain⟨k,vs,m,ts,g,l,d,hd,i,b,f,a,j⟩:=x;have c:=(eB.mp j).1;refine aI (cD g hd i ?_);refine iA f a c (h _ ⟨k,vs,_,_,(cA _ _ b).trans g,l,d,hd,i,b,cw _ f (fU (dG a _)),dG a _,by simp[c]⟩ (Eff.field f a) (by simp))
theorem Bk(c:A.frames=ag (env::outer))(t:s.heap.FunFrames base (env::outer))(a:env.frame=ag L)(x:Bj s.heap e cls dd)
  (h:∀h' T,s.heap.objs.size<=T->EI h' e cls dd T .none->Eff ((env::outer).filterMap (·.frame)) [e] s.heap h'->Q () { s with heap:=h' }):av M A (leaving env (.ref e)) Q E s:=by
 refine aI (Zjm c t a x λy T l u f=>?_);refine OB u (fs:=(env::outer).filterMap (·.frame)) λn p d _=>h n T l p ?_;have k:∀b o,s.heap.get? b=ag o->b≠T:=λb o q z=>by subst z;exact bu _ (aZ (aP q) l)
 exact⟨λb o q j a=>d.keep b o (f.keep b o q j a) (by simpa using k b o q) a,λb o q j a=>by
  obtain⟨w,g⟩:=f.slot b o q j a;obtain⟨i,v⟩:=d.slot b _ g (by simpa using k b o q) a
  exact⟨i,v⟩,λb o q=>by
  obtain⟨m,g⟩:=f.there b o q;exact d.there b m g⟩
theorem Bl(d:A.frames=ag (env::outer))(u:s.heap.FunFrames base (env::outer))(a:env.frame=ag L)(x:EI s.heap e cls dd T .none)
  (h:∀h' c,s.heap.objs.size<=c->EI h' e cls dd c .none->Eff ((env::outer).filterMap (·.frame)) [e,T] s.heap h'->Q () { s with heap:=h' }):av M A (leaving env (.ref e)) Q E s:=by
 refine aI (Zem d u a x λB c m v g=>?_);refine OB v (fs:=(env::outer).filterMap (·.frame)) λp t f _=>h p c m t ?_;have l:∀b o,s.heap.get? b=ag o->b≠c:=λb o q z=>by subst z;exact bu _ (aZ (aP q) m)
 exact⟨λb o q k a=>f.keep b o (g.keep b o q k a) (by simpa using l b o q) a,λb o q k a=>by
  obtain⟨y,i⟩:=g.slot b o q k a;obtain⟨j,w⟩:=f.slot b _ i (by simpa using l b o q) a
  exact⟨j,w⟩,λb o q=>by
  obtain⟨n,i⟩:=g.there b o q;exact f.there b n i⟩
end
section
variable {P:ay} {w:b9} {fs ch:List aK} {H:Hp} {h h':bR}
theorem Fj(x:HOk P w H h)(e:Eff fs ch h h')(j:∀b∈ch,H b=aA)(i:∀b∈fs,H b=aA):HOk P w H h':=λa o d=>
 (x a o d).stay (λb u g q=>by
  have c:∃f,H b=ag f:=by
   rcases g with z | z
   ·exact⟨o,by rw[z];exact d⟩
   ·exact⟨_,z⟩
  obtain⟨f,c⟩:=c;exact e.keep b u q (λz=>by rw[j b z] at c;cases c) (λz=>by rw[i b z] at c;cases c)) (λ_ q=>q) (λ_ _ q=>q) λ_ _ q=>q
end
noncomputable def Fl(H':Hp)(h0 h:bR)(e:aK)(cls:aG)(dd:Option aK):Prop:=∃T,EI h e cls dd T .none/\H' e=aA/\H' T=aA/\h0.get? e=aA/\h0.get? T=aA
noncomputable def CX1(P:ay)(w:b9):CXT:=λouter H s E v s'=>
 ∃e cls dd H',v = .ref e/\s'.os=s.os/\jX s'.gens/\Un (Nx outer) [] H H' s.heap s'.heap/\HOk P w H' s'.heap/\Fl H' s.heap s'.heap e cls dd/\E cls dd H'
section
variable {X:Cx} {o4:List (aK×cg)} {U:L2.St} {H:Hp} {s:aM} {e:aK} {cls:aG} {dd:Option aK} {E:XK}
structure IK(X:Cx)(E:XK):Prop where
 stk:X.stack=X.env::X.outer
 fr:X.env.frame=ag X.env.locals
 ex:X.ex=[]
 xe:X.xe=λv s'=>av (model X.prog X.w) X.A (leaving X.env v) (λ_ s''=>CX1 X.prog X.w X.outer X.H₀ X.s₀ E v s'') (λv' s''=>CX1 X.prog X.w X.outer X.H₀ X.s₀ E v' s'') s'
theorem RV(D:IK X E)(I:Inv X o4 U H s){ch:List aK}{h':bR}{T:aK}(t:X.s₀.heap.get? T=aA)(v:X.s₀.heap.get? e=aA)(u:H e=aA)(j:H T=aA)(l:∀b∈ch,H b=aA/\X.s₀.heap.get? b=aA)(x:EI h' e cls dd T .none)
  (g:Eff ((X.env::X.outer).filterMap (·.frame)) ch s.heap h') (q:E cls dd H):CX1 X.prog X.w X.outer X.H₀ X.s₀ E (.ref e) { s with heap:=h' }:=by
 have w:=λb a=>by have:=I.stkFree b;rw[D.stk] at this;exact this a
 refine⟨e,cls,dd,H,rfl,I.os,I.bare,?_,Fj I.hok g (λb a=>(l b a).1) w,⟨T,x,u,j,v,t⟩,q⟩;have d:=I.base;have lt:∀b o,X.s₀.heap.get? b=ag o->b∉ch:=λb o z a=>by rw[(l b a).2] at z;cases z
 have nL:∀b o,X.s₀.heap.get? b=ag o->b≠X.env.locals:=λb o z a=>by subst a;exact bu _ (aZ (aP z) I.ok.above)
 have f:∀b o,X.s₀.heap.get? b=ag o->(b∈(X.env::X.outer).filterMap (·.frame)↔b∈Nx X.outer):=λb o z=>by rw[jb D.fr,aX];exact⟨λh=>h.elim (λq=>absurd q (nL b o z)) λq=>q,.inr⟩
 have c:∀b:aK,b∉X.ex:=λb z=>by rw[D.ex] at z;simp at z
 refine⟨λb o z n a _=>?_,λb o z n a _=>?_,λb o z n _=>d.free b o z n (c b),λb o z _=>?_,d.tups,d.frzs,d.tbls⟩
 ·exact g.keep b o (d.keep b o z n a (c b)) (lt b o z) (λq=>a ((f b o z).mp q))
 ·obtain⟨y,i⟩:=d.slot b o z n a (c b);obtain⟨k,m⟩:=g.slot b _ i (lt b o z) ((f b o z).mpr a);exact⟨k,m⟩
 ·obtain⟨p,i⟩:=d.there b o z (c b);exact g.there b p i
theorem Zgv(D:IK X E)(I:Inv X o4 U H s)(x:Bj s.heap e cls dd)(f:X.s₀.heap.get? e=aA)(d:H e=aA)(q:E cls dd H):X.xe (.ref e) s:=by rw[D.xe];have a:=I.stack;rw[D.stk] at a;have c:=I.ok.frames;rw[D.stk] at c;refine Bk c a D.fr x λh' T g j h=>?_;exact RV D I (dX (bO I.sz g)) f d (I.hok.fresh g) (λb i=>by rw[aN.mp i];exact⟨d,f⟩) j h q
theorem Zbv{p:XK}(D:IK X E)(G:∀a dd k,p a dd k->E a dd k):Pw (CX1 X.prog X.w) X p:=λM U H s v N I F=>by
 obtain⟨e,a,dd,k,rfl,j,A,u,m,⟨T,x,n,i,w,B⟩,q⟩:=F;have h:=I.call' j u m A λb l=>nomatch l;rw[D.xe];have g:=h.stack;rw[D.stk] at g;have d:=h.ok.frames;rw[D.stk] at d;refine Bl d g D.fr x λh' J f y C=>?_
 have c:∀b:aK,s.heap.get? b=aA->X.s₀.heap.get? b=aA:=λb z=>by
  cases r:X.s₀.heap.get? b with
  | none=>rfl
  | some o=>
   obtain⟨L,t⟩:=I.base.there b o r (by rw[D.ex];simp);rw[z] at t;cases t
 exact RV D h (dX (bO h.sz f)) (c e w) n (h.hok.fresh f) (λb l=>by
  rcases aX.mp l with z | z
  ·rw[z];exact⟨n,c e w⟩
  ·rw[aN.mp z];exact⟨i,c T B⟩) y C (G _ _ _ q)
theorem Fm{P:ay}{w:b9}{K:aE}{mg:aj->Option aG}{base:bR}{N:List aj}{c:aj}{b:du}{f:aK}{d:aG}{A:bU}{a:List jR}{s:aM}{H:Hp}{E:XK} :
  IK (Su (CX1 P w) P w K mg base N c b f d A a s H E) E:=⟨rfl,rfl,rfl,rfl⟩
end
end VX
namespace PySem
open Sem (wp)
section
variable {prog:ay} {w:b9} {A:bU} {E:aG->aM->Prop} {h:bR} {g:Array mI} {d:Drawn} {t:Nat} {os:OsState}
variable {nm q:aj} {C N:aK} {bs bm bmB:List aG} {hdct:Bool} {sn:List aj} {sub:List aG} {ab:Bool} {col:Option Bool} {dd:Option aK} {k0 k1 k2 k3 k5:Option aG} {B newId initId:String}
theorem W4(F:gD B newId initId bmB)(T:mX h bmB bm){mN:aj->Option aG}{o6:List aG}{fI:aK}{oI:cg}{Q:Fin->aM->Prop}
  (k:h.get? C=ag (dH nm q C N bs bm hdct sn sub ab col dd k0 k1 k2 k3 k5 newId)) (z:h.Ns N mN) (u:mN "__init__" = ag (.ref fI))
  (m:h.get? fI=ag oI) (n:oI.cls = .type "function")
  (H:∀h',(∀b o,h.get? b=ag o->h'.get? b=ag o)->h'.get? (h.objs.size+1)=ag { cls:=.ref C,data:=.fields #[.ref h.objs.size,.none,.none,.none,.bool aB,.none] }->
   av (model prog w) A (call (.ref fI) (.ref (h.objs.size+1)::o6)) (λr s=>r = .none/\Q (.done (.ret (.ref (h.objs.size+1)))) s) E ⟨h',g,d,t,os⟩) (i:o6.length<=sizeLine:=by size_fits) :
  av (model prog w) A (kD.«type.__call__» ⟨.ref C::o6,[]⟩) Q E ⟨h,g,d,t,os⟩:=by
 repeat (first | with_reducible refine cG k ?_ | with_reducible refine wpAny_madeBy_exc k ?_ | wp_step)
 refine codeAny_call_builtin_code (jN _ F.quiet) (wpAny_check_new_subT F T k ?_);refine codeAny_exc_new_subT F T k ?_ i
 have a:=aH { cls:=.ref C,data:=.fields #[.ref h.objs.size,.none,.none,.none,.bool aB,.none] }
  (aH { cls:=.type "tuple",data:=.seq o6.toArray } k)
 have c:=aH { cls:=.ref C,data:=.fields #[.ref h.objs.size,.none,.none,.none,.bool aB,.none] }
  (aH { cls:=.type "tuple",data:=.seq o6.toArray } m)
 have j:((h.push { cls:=.type "tuple",data:=.seq o6.toArray }).push { cls:=.ref C,data:=.fields #[.ref h.objs.size,.none,.none,.none,.bool aB,.none] }).Ns N mN:=
  let⟨o,D,ep,e,r⟩:=z;⟨o,D,ep,aH _ (aH _ e),r⟩
 have f:((h.push { cls:=.type "tuple",data:=.seq o6.toArray }).push
   { cls:=.ref C,data:=.fields #[.ref h.objs.size,.none,.none,.none,.bool aB,.none] }).get? (h.objs.size+1)=ag
   { cls:=.ref C,data:=.fields #[.ref h.objs.size,.none,.none,.none,.bool aB,.none] }:=by heap_get
 have p:(dN C::bm).contains (.ref C)=aC:=by simp
 have l:=T.keeps (h':=(h.push { cls:=.type "tuple",data:=.seq o6.toArray }).push { cls:=.ref C,data:=.fields #[.ref h.objs.size,.none,.none,.none,.bool aB,.none] })
  λb o e=>aH _ (aH _ e)
 repeat (first | with_reducible refine cG f ?_ | (with_reducible refine cu a ?_;rw[p]) | wp_step)
 refine wpAny_typeLookup_tail a j l F.mroIs F.init.lookup ?_;rw[u];refine dW (aI ?_);refine aI (mR ⟨_,c,n⟩ ?_);refine a9 (aI (bW (H _ (λb o G=>aH _ (aH _ G)) f) (λr s y=>?_) λ_ _ x=>x));obtain⟨rfl,v⟩:=y
 wp_walk
 exact v
theorem Uy(F:gD B newId initId bmB)(T:mX h bmB bm){mN:aj->Option aG}{o6:List aG}{fI:aK}{oI:cg}{Q:aG->aM->Prop}
  (e:h.get? C=ag (dH nm q C N bs bm hdct sn sub ab col dd k0 k1 k2 k3 k5 newId)) (l:h.Ns N mN) (k:mN "__init__" = ag (.ref fI))
  (a:h.get? fI=ag oI) (f:oI.cls = .type "function")
  (n:∀h',(∀b o,h.get? b=ag o->h'.get? b=ag o)->h'.get? (h.objs.size+1)=ag { cls:=.ref C,data:=.fields #[.ref h.objs.size,.none,.none,.none,.bool aB,.none] }->
   av (model prog w) (A.under (.builtin "type.__call__" ⟨.ref C::o6,[]⟩)) (call (.ref fI) (.ref (h.objs.size+1)::o6)) (λr m=>r = .none/\Q (.ref (h.objs.size+1)) m) E ⟨h',g,d,t,os⟩) (i:o6.length<=sizeLine:=by size_fits) :
  av (model prog w) A (call (.ref C) o6) Q E ⟨h,g,d,t,os⟩:=by
 have f1:=tc_lookup;have p:=tc_bind (.ref C);refine g9 (codeAny_of_tree ?_)
 repeat (any_goals (first | assumption | with_reducible refine cG e ?_ | wp_step))
 refine⟨rfl,?_⟩;refine codeAny_call_builtin_at (jN _ (by simp)) entry_typeCall (wpAny_check_type_call_sub e (W4 F T e l k a f λh' c j=>?_));exact n h' c j
end
section
variable {M:mx} {A:bU} {E:aG->aM->Prop} {env:jR}
variable {nm q:aj} {C N:aK} {bs bm bmB:List aG} {hdct:Bool} {sn:List aj} {sub:List aG} {ab:Bool} {col:Option Bool} {dd:Option aK} {k0 k1 k2 k3 k5:Option aG} {B newId initId:String}
theorem W5{s:aM}{x:Sem aG}{Q:Flow->aM->Prop}(b:bm.contains (.type "BaseException")=aC)(j:A.handled=aA)
  (h:av M A x (λv a=>∃e t d,v = .ref e/\a.heap.get? C=ag (dH nm q C N bs bm hdct sn sub ab col dd k0 k1 k2 k3 k5 newId)/\
   a.heap.get? e=ag { cls:=.ref C,dict:=d,data:=.fields #[.ref t,.none,.none,.none,.bool aB,.none] }/\E (.ref e) a) E s) :
  av M A (raiseStmt env (ag x) aA) Q E s:=by
 have c:(dN C::bm).contains (.type "BaseException")=aC:=by rw[fM,b,ip]
 refine aI (bW h (λv a h₁=>?_) λ_ _ x=>x);obtain⟨e,t,d,rfl,f,i,g⟩:=h₁
 repeat (first | with_reducible refine cG i ?_ | with_reducible refine cG f ?_ | (with_reducible refine cu f ?_;rw[c]) | wp_step)
 exact wpAny_raiseNew_none j g
end
section
variable {prog:ay} {w:b9} {A:bU} {E:aG->aM->Prop} {s:aM} {env:jR}
variable {nm q:aj} {C N:aK} {bs bm bmB:List aG} {hdct:Bool} {sn:List aj} {sub:List aG} {ab:Bool} {col:Option Bool} {dd:Option aK} {k0 k1 k2 k3 k5:Option aG} {B newId initId:String}
theorem V7(F:gD B newId initId bmB){mN:aj->Option aG}{x:aj}{L z D:da}{g:List bB}{Q:Flow->aM->Prop}{fI:aK}{oI:cg}
  (k:bm.contains (.type "BaseException")=aC) (S:A.handled=aA) (i:(ck z (aO g env)).any (·.1)=aB) (O:mN "__init__" = ag (.ref fI)) (u:oI.cls = .type "function")
  (h:av (model prog w) A (eval (.Name x L) env) (λf j=>f = .ref C/\av (model prog w) A (evalArgs (.ref C) aC (ck z (aO g env)) [])
   (λa c=>a.kw=[]/\a.pos.length<=sizeLine/\c.heap.get? C=ag (dH nm q C N bs bm hdct sn sub ab col dd k0 k1 k2 k3 k5 newId)/\c.heap.Ns N mN/\mX c.heap bmB bm/\c.heap.get? fI=ag oI/\
    ∀h',(∀b o,c.heap.get? b=ag o->h'.get? b=ag o)->h'.get? (c.heap.objs.size+1)=ag { cls:=.ref C,data:=.fields #[.ref c.heap.objs.size,.none,.none,.none,.bool aB,.none] }->
     av (model prog w) (A.under (.builtin "type.__call__" ⟨.ref C::a.pos,[]⟩)) (call (.ref fI) (.ref (c.heap.objs.size+1)::a.pos)) (λr d=>r = .none/\∃t y,d.heap.get? C=ag (dH nm q C N bs bm hdct sn sub ab col dd k0 k1 k2 k3 k5 newId)/\
      d.heap.get? (c.heap.objs.size+1)=ag { cls:=.ref C,dict:=y,data:=.fields #[.ref t,.none,.none,.none,.bool aB,.none] }/\E (.ref (c.heap.objs.size+1)) d) E { c with heap:=h' }) E j) E s) :
  av (model prog w) A (exec (.Raise (ag (.Call (.Name x L) g [] z)) aA D) env) Q E s:=by
 refine aI (gO (W5 (C:=C) (nm:=nm) (q:=q) (N:=N) (bs:=bs) (hdct:=hdct) (sn:=sn) (sub:=sub) (ab:=ab) (col:=col) (dd:=dd) (k0:=k0) (k1:=k1) (k2:=k2) (k3:=k3) (k5:=k5) (newId:=newId) k S ?_));refine aI (bW (wpAny_Call_ofName (bW h (λf j h₁=>?_) λ_ _ x=>x)) (λv d l=>aI (gO (a9 l))) λ_ _ x=>x);obtain⟨rfl,h₁⟩:=h₁;refine aI (dW (bW h₁ (λa c e=>aI (gO ?_)) λ_ _ x=>x));obtain⟨J,U⟩:=a;obtain⟨p,I,H,W,T,m,e⟩:=e;obtain rfl:=p;simp only[i];refine aI (wpAny_keeperOf_exc H ?_);refine aI (Uy F T H W O m u λh' n G=>bW (e h' n G) (λr Y M=>⟨M.1,aI (dW (wpAny_point (a9 ?_)))⟩) λ_ _ x=>x);obtain⟨_,t,y,P,R,X⟩:=M;exact⟨_,t,y,rfl,P,R,X⟩
end
end PySem
namespace VX
open PySem PySem.W PySem.Spec PyProof.Rows Builtin Builtin.ObjectAttr
noncomputable def IL:List aG:=[.type "ValueError",.type "Exception",.type "BaseException",.type "object"]
noncomputable def IM:List aG->Bool
 | .ref _::r=>IM r
 | l=>l==IL
noncomputable def veOver(K:Frag)(C:aK):Bool:=(clsIn K C).any λcd=>IM cd.mro
theorem Zbw{l:List aG}(h:IM l=aC):(∀a,refuseLoop a "__setattr__" l=pure ())/\l.contains (.type "object")=aC/\l.isEmpty=aB:=by
 induction l with
 | nil=>exact absurd h (by decide)
 | cons x r ih=>
  by_cases q:∃c,x = .ref c
  ·obtain⟨c,rfl⟩:=q;have:=ih h;exact⟨λa=>by rw[refuseLoop_ref];exact this.1 a,by rw[fM,this.2.1,ip],rfl⟩
  ·have e:x::r=IL:=by
    have h':(x::r==IL)=aC:=by cases x<;>first | exact h | exact absurd ⟨_,rfl⟩ q
    exact eq_of_beq h'
   rw[e];exact⟨λa=>PySem.F.store_ValueError.passes a,by decide,rfl⟩
section
variable {prog:ay} {w:b9} {A:bU} {R:nS->aM->Prop} {E:aG->aM->Prop} {s:aM} {K:Frag} {x C:aK} {ox:cg} {name:aj} {tk:Tok} {v:aG}
theorem EJ{D:Option cg}(X:K.In s.heap)(I:InstAt s.heap x ox C D)(t:veOver K C=aC)(q:takerIn K C name=ag aA)
  (h:∀b,av (model prog w) A.in1 (storeInOwnDict (.ref x) (.ref C) (.str name tk) name v b)
   (λi g=>match i with | .done f=>R (.ok f) g | .again c'=>c'.quiet=aC/\gY (model prog w) A c' R g) (λe g=>R (.error e) g) s) :
  gY (model prog w) A (.call (.builtin "object.__setattr__") ⟨[.ref x,.str name tk,v],[]⟩) R s:=by
 have d:=PySem.F.store_object;obtain⟨o,j,y⟩:=any_some t;obtain⟨k,o2,l⟩:=Zbw y;have sub:Looks (model prog w) s.heap (n9 (.ref x) (.type "object")) aC:=I.type.andThen (looks_mroIn X (by unfold mroIn;rw[j,aV,oY (by rw[l];decide),o2]));refine gA d.slot.plain d.entry (@check_slot (model prog w) _ _ s "object.__setattr__" "object" "__setattr__" (.ref x) [.str name tk,v] [] _ d.kind d.split sub (d.args (.ref x) (.str name tk) v) ?_);obtain⟨c,p,u⟩:=Option.bind_eq_some_iff.mp q;have n:Looks (model prog w) s.heap (mroOf (.ref C)) o.mro:=(looks_clsIn X j).andThen .now
 have m:Looks (model prog w) s.heap (storeTaker? c) aA:=by
  cases c with
  | none=>exact .now
  | some a=>
   obtain⟨b,z,B⟩:=gz.mp u;refine(looks_takesIn X z).andThen ?_
   cases b with
   | false=>exact .now
   | true=>cases B
 rw[osa_eq,refuse_eq];refine aI (aI (I.type.here (aI (n.here ?_))));rw[k];refine a9 (aI (I.type.here (aI ((looks_findIn X p).here (aI (m.here ?_))))));exact h _
theorem EK{Q:Unit->aM->Prop}(X:K.In s.heap)(l:s.heap.get? x=ag ox)(m:ox.cls = .ref C)(k:notCls ox=aC)(hd:ox.dict=aA)(hs:findIn K (.ref C) "__setattr__" = ag (ag (.builtin "object.__setattr__")))
  (R:veOver K C=aC) (P:takerIn K C name=ag aA) (S:(clsIn K C).any (·.hasDict)=aC)
  (hq:∀h' tk' dx,(∀b o,b≠x->s.heap.get? b=ag o->h'.get? b=ag o)->h'.get? x=ag { ox with dict:=ag dx }->s.heap.objs.size<=dx->dx≠x->h'.Ns1 dx (λy=>if y=name then ag v else aA)->Q () { s with heap:=h',toks:=tk' }) :
  av (model prog w) A (setAttr (.ref x) name v) Q E s:=by
 have I:InstAt s.heap x ox C aA:=⟨l,m,k,by rw[hd];trivial⟩;refine set_plain X I hs ?_;have U:=X;refine EJ U I R P λb=>?_;obtain⟨cd,Y,F⟩:=any_some S;obtain⟨a,g,d,t,os⟩:=s;obtain⟨oc,W,h,n⟩:=ox;subst m hd;have nc:∀c,h≠.cls c:=λc z=>by subst z;simp[notCls] at k
 have i:=az (aP l);have f:(a.push { cls:=.type "dict",data:=.dict #[] }).get? x=ag ⟨.ref C,aA,h,n⟩:=aH _ l;refine aI (a9 (aI (aI (wpAny_loadPart l (aI ((looks_clsIn X Y) _ _ _ _ (λ_ _ e=>e) ?_))))));rw[F]
 dsimp only
 rw[oY (by decide),oY (by simp[typeHasDict])];split
 ·rename_i N;exact absurd rfl (nc _)
 refine aI (wpAny_alloc' ?_);refine aI (wpAny_update' f ?_);refine a9 ?_
 have H:((a.push { cls:=.type "dict",data:=.dict #[] }).update x λo=>{ cls:=o.cls,dict:=ag a.objs.size,data:=o.data,slots:=o.slots }).get? a.objs.size
   = ag { cls:=.type "dict",data:=.dict #[] }:=
  (lM _ _ _ _ i.symm).trans (mY rfl rfl)
 have q:((a.push { cls:=.type "dict",data:=.dict #[] }).update x λo=>{ cls:=o.cls,dict:=ag a.objs.size,data:=o.data,slots:=o.slots }).Ns a.objs.size (λ_=>aA):=
  ⟨_,#[],_,H,rfl,λe Z=>absurd Z (by simp),λ_=>rfl⟩
 refine aI (a9 (aI (wpAny_nsSet1 (bR.Ns1.of_empty q) λh' j p=>?_)));obtain⟨oD,O,T,J,G,u⟩:=j.count (Within.cons name v Within.nil);refine aI (wpAny_lookBehind J (by rw[G];exact pastItsLine_dict (bO u (by simp))) ?_);refine a9 ?_;have D:h'.get? x=ag { cls:=.ref C,dict:=ag a.objs.size,data:=h,slots:=n }:=?_
 ·exact hq h' _ a.objs.size (λb ob L M=>(p.2 b (az (aP M))).trans ((lM _ _ _ _ L).trans (aH _ M))) D (aa _) i.symm j
 ·refine(p.2 x i).trans (cw _ f ?_);have B:=(bR.get?_some_iff.mp l).2;cases h<;>first | rfl | exact B
end
section
variable {prog:ay} {w:b9} {A:bU} {E:aG->aM->Prop} {h:bR} {g:Array mI} {d:Drawn} {t:Nat} {os:OsState}
variable {nm q:aj} {C N:aK} {bs bm bmB:List aG} {hdct:Bool} {sn:List aj} {sub:List aG} {ab:Bool} {col:Option Bool} {dd:Option aK} {k0 k1 k2 k3 k5:Option aG} {B newId initId:String}
abbrev Fo(C:aK)(t:aK):cg:={ cls:=.ref C,data:=.fields #[.ref t,.none,.none,.none,.bool aB,.none] }
theorem EL{e f:aK}{v:aG}{Q:aG->aM->Prop}(F:gD B newId initId bmB)(T:mX h bmB bm)(j:h.get? C=ag (dH nm q C N bs bm hdct sn sub ab col dd k0 k1 k2 k3 k5 newId))
  (a:h.get? e=ag (Fo C f)) (k:∀h',(∀b o,b≠e->h.get? b=ag o->h'.get? b=ag o)->h'.get? e=ag (Fo C h.objs.size)->h'.get? h.objs.size=ag { cls:=.type "tuple",data:=.seq #[v] }->Q .none ⟨h',g,d,t,os⟩) :
  av (model prog w) A (call (.builtin initId) [.ref e,v]) Q E ⟨h,g,d,t,os⟩:=by
 refine g9 (gA F.init.plain F.initEntry (wpAny_check_init_subT F T j a rfl ?_))
 wp_walk
 have c:=az (aP a);refine k _ (λb o i q=>?_) ?_ ?_
 ·rw[cA _ _ i.symm];exact aH _ q
 ·rw[cw _ (aH _ a) rfl];rfl
 ·rw[cA _ _ c];exact mY rfl rfl
end
end VX
namespace VX
open PySem PySem.Spec PyProof.Rows L2
theorem EM(is:List Int):kU (is.map fO)=is.map λi=>kG (toString i):=by
 induction is with
 | nil=>rfl
 | cons i r ih=>rw[ak,kU,ih];rfl
theorem Lh{is:List Int}(h:∀i∈is,i.natAbs.log2<1920):lz (is.map fO)=aC:=by
 induction is with
 | nil=>rfl
 | cons i r ih=>
  rw[ak,lz,ih λj a=>h j (by simp[a])];simp[PyData.showable,h i (by simp)]
theorem IP(is:List Int):jZ (is.map fO)=aB:=by
 induction is with
 | nil=>rfl
 | cons i r ih=>rw[ak,jZ,ih];rfl
theorem Mk{h:bR}:∀{is:List Int}{us:List aG},Vals (is.map V.int) us->ReadsAll h us (is.map fO) []
 | [],_,.nil=>.nil
 | i::r,_,.cons h1 h2=>by obtain⟨t,rfl⟩:=h1;exact ReadsAll.cons (as:=[]) (bs:=[]) (.int i t) (Mk h2)
theorem EN(is:List Int):nE (is.map fO)<=1:=by
 induction is with
 | nil=>decide
 | cons i r ih=>
  rw[ak,nE];simp[oP];omega
end VX
namespace VX
open PySem PySem.Spec PyProof.Rows L2 VL
abbrev XR:=ZG->Option aj
noncomputable def tFX(K:aE)(O:List Nat)(fx:XR)(E:XK):TS:=λ_ U H=>∃H0 fps s n,Rel K O H0 fps s U H/\fx s=ag n/\∀C H',dD K bX n=ag (ag (.ref C))->Same H0 H'->E (.ref C) aA H'
noncomputable def VX(X:Cx)(O:List Nat)(E:XK)(st:ba)(fx:XR):Prop:=PS X st (tFX X.K O fx E)
section
variable {X:Cx} {O W:List Nat} {E:XK} {C:aK} {bmB:List aG} {B newId initId:String} {x y:aj} {np o7 pos p1 p2 p3:da} {jj k:Nat} {e:bB} {f:XE}
variable {st:ba} {o6 a b:List ba} {c:bB} {fc:XT} {f1 g1:XR} {fs:XS}
theorem EO{t:TS}(b:PS X st t)(c:∀D D' U H,t D U H->t D' U H):PSs X (st::o6) (λ_ U H=>t { nx:=λ_ _=>False,rt:=λ_ _=>False } U H):=by
 intro a s U H D I h;refine iM (Yf (b a s U H { nx:=λ_ _=>False,rt:=λ_ _=>False } I h) λf s1 q=>?_)
 cases f with
 | next=>obtain⟨_,_,_,z⟩:=q;exact z.elim
 | ret u=>obtain⟨_,_,_,_,_,z⟩:=q;exact z.elim
 | brk=>obtain⟨_,_,_,z⟩:=q;exact z.elim
 | cont=>obtain⟨_,_,_,z⟩:=q;exact z.elim
end
structure CalX(P:ay)(w:b9)(K:aE)(mg:aj->Option aG)(base:bR)(x:aj)(ps:List aj)(sp:Sp)(k:Nat):Prop where
 ex:∃f fd,mg x=ag (.ref f)/\dw K (.ref f)=aC/\Binds K fd ps []/\Tr P w K mg base (CX1 P w) k f fd ps sp
section
variable {X:Cx} {o4:List (aK×cg)} {U:L2.St} {H:Hp} {s:aM}
theorem ER{A:bU}{E:aG->aM->Prop}{i:Nat}{n:aj}{J:da}{Q:Unit->aM->Prop}(I:Inv X o4 U H s)(R:X.N.Nodup)(x:X.N[i]?=ag n)(B:X.env.scope.names.lookup n=ag .local)
  (h:∀s',Inv X o4 (U.set i aA) H s'->Q () s'):av (model X.prog X.w) A (do bindName X.env n .none;kh X.env n J) Q E s:=by
 refine aI (wpAny_bindName (Vo I R x (.inl B) (v:=.non) rfl (λs1 a=>?_) (.inr B)));refine iP ?_;have l:(X.env.scope.kind==.class || (X.env.scope.kind==.module&&X.env.locals != X.env.globals))=aB:=by rw[I.ok.kind];rfl
 have g:i<U.length:=by rw[I.len];exact(aS.mp x).1
 obtain⟨m,hn,S⟩:=id a.loc;obtain⟨u,ru,lk⟩:=S i n .non x (by rw[fJ g]) (.inl B);have t:X.env.kindOf n=ag .local:=B
 have hv:m n=ag u:=by
  rcases lk with⟨_,z⟩ | ⟨z,_⟩
  ·exact z
  ·rw[t] at z;rcases z with z | z<;>cases z
 have cne:=a.cne;refine wpAny_unbindName_local t hn hv l λh' u' F hs=>h _ ?_;refine⟨a.ok,a.os,a.bare,⟨λb o e n M w=>?_,λb o e n M w=>?_,a.base.free,λb o e w=>?_,a.base.tups,a.base.frzs,a.base.tbls⟩,⟨_,F,λj y P f C Y=>?_⟩,λy c e=>?_,a.free,a.freeC,λp W=>?_,λb ob e=>?_,by have:=a.len;simpa using this⟩
 ·exact(hs.2 b (az (aZ (aP e) a.ok.above))).trans (a.base.keep b o e n M w)
 ·obtain⟨T,f⟩:=a.base.slot b o e n M w;exact⟨T,(hs.2 b (az (aZ (aP e) a.ok.above))).trans f⟩
 ·obtain⟨o',f⟩:=a.base.there b o e w;exact⟨o',(hs.2 b (az (aZ (aP e) a.ok.above))).trans f⟩
 ·by_cases G:j=i
  ·subst G;rw[fJ g] at C;cases C
  ·have L:(U.set i (ag V.non))[j]?=ag (ag P):=by rw[dY (bP G)] at C ⊢;exact C
   obtain⟨Z,r2,q⟩:=S j y P f L Y;refine⟨Z,r2,?_⟩;rcases q with⟨k,e⟩ | ⟨k,c,e,z⟩
   ·refine .inl ⟨k,?_⟩;have:y≠n:=λe=>G (Pr R f (e▸x));simp[this,e]
   ·exact .inr ⟨k,c,e,z.sameBut hs (cne y c e)⟩
 ·obtain⟨N,z⟩:=a.cell y c e;exact⟨N,z.sameBut hs (cne y c e)⟩
 ·obtain⟨e,n,ne,nf,d⟩:=a.pin p W;exact⟨(hs.2 p.1 ne).trans e,n,ne,nf,d⟩
 ·refine(a.hok b ob e).stay (λc N D q=>(hs.2 c ?_).trans q) (λ_ q=>q) (λ_ _ q=>q) λ_ _ q=>q;rintro rfl;have O:=a.free;rcases D with rfl | D
  ·rw[O] at e;cases e
  ·rw[O] at D;cases D
abbrev Cx.mark(X:Cx)(e:aK):Cx:={ X with A:=X.A.mark (ag (.ref e)),calm:=aB,xe:=λ_ _=>False }
theorem K7{e:aK}(I:Inv X o4 U H s):Inv (Cx.mark X e) o4 U H s:=
 ⟨⟨I.ok.mod,I.ok.kind,I.ok.glob,I.ok.blt,I.ok.above,I.ok.inj,I.ok.has,I.ok.cab,(λz=>by cases z),I.ok.frames,I.ok.stk,I.ok.exf,I.ok.bs,I.ok.bsz,I.ok.noex,I.ok.exfs,I.ok.funs,I.ok.frf,I.ok.tab,I.ok.cod⟩,I.os,I.bare,I.base,I.loc,I.cell,I.free,I.freeC,I.pin,I.hok,I.len⟩
theorem IQ{e:aK}(ok:X.Ok)(I:Inv (Cx.mark X e) o4 U H s):Inv X o4 U H s:=
 ⟨ok,I.os,I.bare,I.base,I.loc,I.cell,I.free,I.freeC,I.pin,I.hok,I.len⟩
noncomputable def Off(X:Cx)(o4:List (aK×cg))(b:aK):Prop:=X.s₀.heap.get? b=aA/\b≠X.env.locals/\(∀x c,X.env.cells.lookup x=ag c->c≠b)/\∀p∈X.pn++o4,p.1≠b
theorem Li{b:aK}(I:Inv X o4 U H s)(e:X.ex=[])(h:s.heap.get? b=aA):Off X o4 b:=by
 refine⟨?_,λz=>?_,λx c g z=>?_,λp f z=>?_⟩
 ·cases r:X.s₀.heap.get? b with
  | none=>rfl
  | some o=>
   obtain⟨i,d⟩:=I.base.there b o r (by rw[e];simp);rw[h] at d;cases d
 ·obtain⟨m,⟨o,_,_,a,_⟩,_⟩:=I.loc;rw[z,a] at h;cases h
 ·obtain⟨v,o,a,_⟩:=I.cell x c g;rw[z] at a;rw[a] at h;cases h
 ·have:=(I.pin p f).1;rw[z] at this;rw[this] at h;cases h
theorem Lj{ch:List aK}{h':bR}(I:Inv X o4 U H s)(hx:X.ex=[])(A:X.env.frame=ag X.env.locals)(l:Eff ((X.env::X.outer).filterMap (·.frame)) ch s.heap h')(t:∀b∈ch,H b=aA/\Off X o4 b)(C:X.stack=X.env::X.outer):Inv X o4 U H { s with heap:=h' }:=by
 have hf:=λb a=>by have:=I.stkFree b;rw[C] at this;exact this a
 have lt:∀b o,X.s₀.heap.get? b=ag o->b∉ch:=λb o z a=>by rw[(t b a).2.1] at z;cases z
 have nL:∀b o,X.s₀.heap.get? b=ag o->b≠X.env.locals:=λb o z a=>by subst a;exact bu _ (aZ (aP z) I.ok.above)
 have i:∀b,b≠X.env.locals->(b∈(X.env::X.outer).filterMap (·.frame)↔b∈X.fs):=λb z=>by rw[jb A,aX];exact⟨λh=>h.elim (λq=>absurd q z) λq=>q,.inr⟩
 have any:=λb o q a=>by
  by_cases z:b∈(X.env::X.outer).filterMap (·.frame)
  ·exact l.slot b o q a z
  ·exact⟨o.slots,l.keep b o q a z⟩
 obtain⟨m,⟨oL,es,ep,B,rL⟩,T⟩:=id I.loc;have u:=λz=>(t _ z).2.2.1 rfl;obtain⟨Y,M⟩:=any _ _ B u;have f:∀c v,(∀b∈ch,c≠b)->s.heap.IsCell c v->h'.IsCell c v:=λc v E ⟨o,W,hd⟩=>by obtain⟨N,q⟩:=any c o W λz=>E c z rfl;exact⟨_,q,hd⟩
 have cne:=λx c q b a=>(t b a).2.2.2.1 x c q;refine⟨I.ok,I.os,I.bare,⟨λb o e n a g=>?_,λb o e n a g=>?_,I.base.free,λb o e g=>?_,I.base.tups,I.base.frzs,I.base.tbls⟩,⟨m,⟨_,es,ep,M,rL⟩,λj y S P O R=>?_⟩,λy c e=>?_,I.free,I.freeC,λp F=>?_,Fj I.hok l (λb a=>(t b a).1) hf,I.len⟩
 ·exact l.keep b o (I.base.keep b o e n a g) (lt b o e) λz=>a ((i b (nL b o e)).mp z)
 ·obtain⟨N,w⟩:=I.base.slot b o e n a g;obtain⟨D,J⟩:=l.slot b _ w (lt b o e) ((i b (nL b o e)).mpr a);exact⟨D,J⟩
 ·obtain⟨L,w⟩:=I.base.there b o e g;exact l.there b L w
 ·obtain⟨Z,r',q⟩:=T j y S P O R;refine⟨Z,r',?_⟩;rcases q with q | ⟨k,c,e,z⟩
  ·exact .inl q
  ·exact .inr ⟨k,c,e,f c _ (cne y c e) z⟩
 ·obtain⟨Q,z⟩:=I.cell y c e;exact⟨Q,f c _ (cne y c e) z⟩
 ·obtain⟨e,n,ne,G,d⟩:=I.pin p F;exact⟨l.keep p.1 p.2 e (λz=>(t _ z).2.2.2.2 p F rfl) (λz=>G ((i p.1 ne).mp z)),n,ne,G,d⟩
theorem Ml{e:aK}{g:cg}(I:Inv X o4 U H s)(f:s.heap.get? e=ag g)(i:H e=aA)(a:Off X o4 e):Inv X o4 U (upd H e (.frz g (.own e))) s:=by
 have ne:∀b u,H b=ag u->b≠e:=λb u q z=>by rw[z,i] at q;cases q
 refine⟨I.ok,I.os,I.bare,⟨I.base.keep,I.base.slot,λb o q n j=>?_,I.base.there,λb xs q=>?_,λb o u q=>?_,λb k q=>?_⟩,I.loc,I.cell,?_,λx c q=>?_,λp d=>?_,λb u q=>?_,I.len⟩
 ·rw[upd_ne (λz=>by rw[z,a.1] at q;cases q)];exact I.base.free b o q n j
 ·have:=I.base.tups b xs q;rw[upd_ne (ne _ _ this)];exact this
 ·have:=I.base.frzs b o u q;rw[upd_ne (ne _ _ this)];exact this
 ·obtain⟨more,z⟩:=I.base.tbls b k q;exact⟨more,by rw[upd_ne (ne _ _ z)];exact z⟩
 ·rw[upd_ne (bP a.2.1)];exact I.free
 ·rw[upd_ne (a.2.2.1 x c q)];exact I.freeC x c q
 ·obtain⟨h,n,r⟩:=I.pin p d;exact⟨h,by rw[upd_ne (a.2.2.2 p d)];exact n,r⟩
 ·by_cases z:b=e
  ·subst z;rw[Zl] at q;cases q;exact⟨f,_,f⟩
  ·rw[upd_ne z] at q;exact(I.hok b u q).stay (λ_ _ _ r=>r) (λc r=>by rw[upd_ne (ne _ _ r)];exact r) (λc xs r=>by rw[upd_ne (ne _ _ r)];exact r) λc u r=>by rw[upd_ne (ne _ _ r)];exact r
end
section
variable {M:mx} {A:bU} {E:aG->aM->Prop}
variable {nm q nm' q':aj} {C N Cb N':aK} {bs bm bs' bm':List aG} {hdct hdct':Bool} {sn sn':List aj} {sub sub':List aG} {ab ab':Bool} {col col':Option Bool} {dd dd':Option aK} {k0 k1 k2 k3 k5 j0 j1 j2 j3 j5:Option aG} {newId newId':String}
theorem K8{h:bR}{g:Array mI}{d:Drawn}{t:Nat}{os:OsState}{e:aK}{m:cg}{Q:Bool->aM->Prop}
  (l:h.get? C=ag (dH nm q C N bs bm hdct sn sub ab col dd k0 k1 k2 k3 k5 newId)) (j:h.get? Cb=ag (dH nm' q' Cb N' bs' bm' hdct' sn' sub' ab' col' dd' j0 j1 j2 j3 j5 newId')) (k:h.get? e=ag m) (a:m.cls = .ref C) (b:bm'.contains (.type "BaseException")=aC)
  (i:Q ((dN C::bm).contains (.ref Cb)) ⟨h,g,d,t,os⟩):av M A (excMatches (.ref e) (.ref Cb)) Q E ⟨h,g,d,t,os⟩:=by
 have c:(dN Cb::bm').contains (.type "BaseException")=aC:=by rw[fM,b,ip]
 have f:=tc_notTuple
 cases hcC:(dN C::bm).contains (.ref Cb) with
 | true=>
  rw[hcC] at i
  repeat (first | (with_reducible refine cG k ?_;rw[a]) | with_reducible refine cG j ?_ | (with_reducible refine cu j ?_;rw[c]) | (with_reducible refine cu l ?_;rw[hcC]) | wp_step)
  exact i
 | false=>
  rw[hcC] at i
  repeat (first | (with_reducible refine cG k ?_;rw[a]) | with_reducible refine cG j ?_ | (with_reducible refine cu j ?_;rw[c]) | (with_reducible refine cu l ?_;rw[hcC]) | wp_step)
  exact i
end
noncomputable def belowIn(K:aE)(C Cb:aK):Bool:=match K.lookup C with
 | some ⟨_,_,.cls cd,_⟩=>cd.mro.contains (.ref Cb)
 | _=>aB
theorem Bm{K:aE}{h:bR}{C a:aK}{nm c:aj}{N:aK}{bs b:List aG}{hdct:Bool}{sn:List aj}{sub:List aG}{ab:Bool}{col:Option Bool}{dd:Option aK}{k0 k1 k2 k3 k5:Option aG}{newId:String}(X:K.In h)(e:belowIn K C a=aC)
  (d:h.get? C=ag (dH nm c C N bs b hdct sn sub ab col dd k0 k1 k2 k3 k5 newId)):(dN C::b).contains (.ref a)=aC:=by
 unfold belowIn at e;split at e
 ·rename_i f;have:=X _ _ f;rw[d] at this;cases this;exact e
 ·cases e
section
variable {X:Cx} {o4:List (aK×cg)} {U:L2.St} {H:Hp} {s:aM} {e T C Cb:aK} {dd:Option aK} {cx n:aj} {np pos:da} {b₀:ba} {suite:List ba} {o6:List gW} {ts:TS} {D:Yz} {i:Nat}
noncomputable def Bn(i:Nat)(D:Yz):Yz:={ nx:=λU H=>D.nx (U.set i aA) H,rt:=D.rt,bk:=λU H=>D.bk (U.set i aA) H,ct:=λU H=>D.ct (U.set i aA) H }
theorem Zlt(I:Inv X o4 U H s)(W:X.ex=[])(a:X.stack=X.env::X.outer)(h:X.env.frame=ag X.env.locals)(x:EI s.heap e (.ref C) dd T .none)(hH:H e=aA)(hHT:H T=aA)(A:Off X o4 e)(oT:Off X o4 T)
  (hN:X.N.Nodup) (hi:X.N[i]?=ag n) (hk:X.env.scope.names.lookup n=ag .local) (hg:Gl X cx) (hm:X.mg cx=ag (.ref Cb)) (hC:el X.K C "BaseException" = aC) (hB:el X.K Cb "BaseException" = aC) (J:belowIn X.K C Cb=aC)
  (hs:PSs (Cx.mark X e) (b₀::suite) ts) (q:∀A:cg,A.cls = .ref C->A.dict=dd->(∃vs,A.data = .fields vs)->ts (Bn i D) (U.set i (ag (.ref e))) (upd H e (.frz A (.own e))))
  (hdb:(cx==("__debug__" : aj))=aB:=by decide) :
  av (model X.prog X.w) X.A (jF (.ref e) X.env) (λ_ E=>av (model X.prog X.w) X.A (setFlight (.ref e) aA) (λ_ g=>
   av (model X.prog X.w) X.A (handleBy (.ref e) X.env (.ExceptHandler (ag (.Name cx np)) (ag n) (b₀::suite) pos::o6)) (SP X o4 D) X.xe g) X.xe E) X.xe s:=by
 have m:=I.stack;rw[a] at m;have o:=I.ok.frames;rw[a] at o;refine Zem o m h x λh1 T' O x1 e1=>?_
 have I1:=Lj I W h e1 (λb J=>by
  rcases aX.mp J with z | z
  ·rw[z];exact⟨hH,A⟩
  ·rw[aN.mp z];exact⟨hHT,oT⟩) a
 have Z:=Li I W (dX O);have F:=I.hok.fresh O;have P:∀b∈[T'],H b=aA/\Off X o4 b:=λb J=>by rw[aN.mp J];exact⟨F,Z⟩
 refine OB x1 (fs:=(X.env::X.outer).filterMap (·.frame)) λh2 x2 e2 _=>?_;have G:=Lj I1 W h e2 P a;refine wpAny_handleBy_cons (codeAny_handlers_test ?_) (by intro z;cases z);have I2m:Inv (Cx.mark X e) o4 U H { s with heap:=h2 }:=K7 G;refine Wg I2m hg hm ?_ hdb;obtain⟨nm,qn,N,bs,bm,hdct,sn,sub,ab,col,dc,k0,k1,k2,k3,k5,nid,L,_,_⟩:=i8 G.kIn hC;obtain⟨nm',qn',N',bs',bm',hdct',sn',sub',ab',col',dc',j0,j1,j2,j3,j5,nid',hBo,t,_⟩:=i8 G.kIn hB;obtain⟨ob,vs,oT2,tsx,heo,Q,hdd,hdat,_⟩:=id x2;refine K8 L hBo heo Q t ?_;rw[Bm G.kIn J L];refine codeAny_handlers_suite_as ?_;refine OB x2 (fs:=(X.env::X.outer).filterMap (·.frame)) λh3 x3 e3 _=>?_;have I3:=Lj G W h e3 P a;obtain⟨ob3,vs3,oT3,ts3,M,w,R,p,_⟩:=id x3;have I4:=Ml I3 M hH A;refine Vo (X:=Cx.mark X e) (K7 I4) hN hi (.inl hk) (v:=.ref e) rfl (λs5 I5=>?_) (.inr hk);refine bW (hs o4 s5 _ _ (Bn i D) I5 (q ob3 w R ⟨_,p⟩)) (λf l Y=>?_) λ_ _ z=>z.elim
 have S:∀c d l,Inv (Cx.mark X e) o4 c d l->(∀B,Inv X o4 (c.set i aA) d B->SP X o4 D f B)->av (model X.prog X.w) X.A (do bindName X.env n .none;kh X.env n pos) (λ_ g=>SP X o4 D f g) X.xe l:=λc d l j k=>
  ER (IQ I.ok j) hN hi hk k
 cases f with
 | next=>
  obtain⟨c,d,j,z⟩:=Y;exact S c d l j λB y=>⟨_,_,y,z⟩
 | ret u=>
  obtain⟨v,c,d,j,r6,z⟩:=Y;exact S c d l j λB y=>⟨v,_,_,y,r6,z⟩
 | brk=>
  obtain⟨c,d,j,z⟩:=Y;exact S c d l j λB y=>⟨_,_,y,z⟩
 | cont=>
  obtain⟨c,d,j,z⟩:=Y;exact S c d l j λB y=>⟨_,_,y,z⟩
end
noncomputable def Zjn(i:Nat):Out->Out
 | .nx s=>.nx (s.set i aA)
 | .bk s=>.bk (s.set i aA)
 | .ct s=>.ct (s.set i aA)
 | .rt l=>.rt l
theorem OC{K:aE}{O:List Nat}{m H:Hp}{fps:Nat->List aK}{s:ZG}{U:RJ}{i:Nat}(d:i∉O)(r:Rel K O m fps s U H):Rel K O m (λj=>if j=i then [] else fps j) (s.set i aA) (U.set i aA) H:=by
 refine⟨r.same,by rw[cR,cR];exact r.len,λj a e=>?_,λj h=>?_,λj c=>?_,λj c p g=>?_,λj c k n p g=>?_⟩
 ·by_cases b:j=i
  ·subst b;rw[bS] at e;simp at e
  ·rw[dY (bP b)] at e ⊢;rw[oY b];exact r.is j a e
 ·by_cases b:j=i
  ·rw[oX b]
  ·rw[oY b];refine r.emp j λl z=>h l ?_;rw[dY (bP b)];exact z
 ·have b:j≠i:=λz=>d (z▸c);simp only[oY b];exact r.nd j c
 ·have b:j≠i:=λz=>d (z▸c);simp only[oY b] at g;exact r.own j c p g
 ·have b:j≠i:=λz=>d (z▸c);simp only[oY b] at g;by_cases f:k=i
  ·rw[oX f];simp
  ·rw[oY f];exact r.dis j c k n p g
end VX
namespace VX
open PySem PySem.W PySem.Spec PyProof.Rows L2
noncomputable def exiIn(K:Frag)(C:aK)(bmB:List aG)(newId:String)(fI:aK):Bool:=
 match K.lookup C with
 | some ⟨.type "type",_,.cls cd,sl⟩=>
  match cd.mro,sl.toList with
  | .ref C'::bm,[_,_,_,_,ag (.builtin n),_]=>C'==C&&n==newId&&!cd.hasDel&&tailIn K bmB bm&&nsOkIn K cd.ns&&nsIn K cd.ns "__init__"==ag (ag (.ref fI))
  | _,_=>aB
 | _=>aB
theorem Zjo{K:Frag}{h:bR}{N:aK}{m:aj->Option aG}{n:aj}{v:aG}(X:K.In h)(G:h.Ns N m)(e:nsIn K N n=ag (ag v)):m n=ag v:=by
 obtain⟨o,f,ep,b,hd,_,i⟩:=G;unfold nsIn at e;split at e
 ·rename_i c d a k j q;have z:=X _ _ q;rw[b] at z;cases z;cases hd;rw[<-i n];split at e
  ·rename_i l g;cases e;show oO _ f n=_;unfold oO;rw[<-jJ,g];rfl
  ·split at e
   ·cases e
   ·cases e
 ·cases e
theorem Fp{K:Frag}{h:bR}{C fI:aK}{a:List aG}{newId:String}(X:K.In h)(q:exiIn K C a newId fI=aC) :
  ∃d N nm e bs hdct sn sub ab col dd k0 k1 k2 k3 k5 mN,h.get? C=ag (dH nm e C N bs d hdct sn sub ab col dd k0 k1 k2 k3 k5 newId)/\h.Ns N mN/\mN "__init__" = ag (.ref fI)/\mX h a d:=by
 unfold exiIn at q;split at q
 ·rename_i dd m i s;split at q
  ·rename_i t d k0 k1 k2 k3 n k5 k hs;simp only[bC,beq_iff_eq,mZ] at q;obtain⟨⟨⟨⟨⟨rfl,rfl⟩,b⟩,o⟩,c⟩,f⟩:=q;obtain⟨nm,bs,p,j,e,hd,sn,sub,ab,col,QC⟩:=m;subst k b;have g:i = #[k0,k1,k2,k3,ag (.builtin n),k5]:=by obtain⟨l⟩:=i;simp only at hs;rw[hs]
   subst g;refine⟨d,j,nm,e,bs,hd,sn,sub,ab,col,dd,k0,k1,k2,k3,k5,_,X _ _ s,.of_isNs (isNs_of_in X c),?_,tail_of_in X o⟩;exact Zjo X (.of_isNs (isNs_of_in X c)) f
  ·cases q
 ·cases q
noncomputable def S9(C e t:aK):bR->Prop:=λh=>h.get? e=ag (Fo C t)
noncomputable def Uh(C e t dx:aK):bR->Prop:=λh=>h.get? e=ag { Fo C t with dict:=ag dx }
structure BInit(K:Frag)(Cb:aK)(initId:String):Prop where
 ga:specialIn K (.ref Cb) "__getattribute__" = ag (ag (.builtin "type.__getattribute__"))
 rd:readsIn K Cb (.type "type")=aC
 fc:findCls K (.ref Cb) (.type "type") "__init__" = ag (.val (.builtin initId))
section
variable {X:Cx} {x:aj} {np ap o7 pos:da} {a b o value:bB} {t:TA} {ta tv:TE} {C Cb fI:aK} {bmB:List aG} {B newId initId:String} {f:aj}
theorem Bo{pl:Sem Bool}(F:gD B newId initId bmB)(u:BInit X.K Cb initId)(M:exiIn X.K C bmB newId fI=aC)(R:Gl X x)(P:X.mg x=ag (.ref Cb))(Y:handedIn (.builtin initId)=aC)(S:PA X [a,b] t)
  (n:(x==("__debug__" : aj))=aB:=by decide) (m:(ck o7 (aO [b] X.env)).any (·.1)=aB:=by rfl) (hs:aO [a,b] X.env=(aB,eval a X.env)::aO [b] X.env:=by rfl)
  (T:eval (.Call (.Attribute (.Name x np) "__init__" ap) [a,b] [] o7) X.env=(do
   let G <-eval (.Name x np) X.env
   mJ ap.atName
   let(f,first) <-holding [G] (getMethod G "__init__" pl)
   callWith o7 f first (ck o7 (aO [a,b] X.env)) (nU o7 (kb [] X.env))):=by rfl) :
  PE X (.Call (.Attribute (.Name x np) "__init__" ap) [a,b] [] o7) (λU H Q=>t U H λvs D=>∃e v E,vs=[.ref e,v]/\D e=ag (.ext (S9 C e E))/\∀t1,Q .non (upd D e (.ext (S9 C e t1)))):=by
 intro o4 s U H Q I h;refine PySem.W.methodCall_KW (Wg I R P ?_ n) T;refine PySem.W.method_cls I.kIn u.ga (PySem.W.cls_value I.kIn u.rd u.fc Y ?_);have L:=I.kept (t':=s.toks+1) λ_ _ q=>q;have y:=S o7 o4 _ U H _ L h;rw[hs] at y ⊢;refine kC (by show(aB || (ck o7 (aO [b] X.env)).any (·.1))=aB;rw[m]<;>rfl) (iS ?_);refine Yf y λO s2 ⟨vs,H2,l,r2,e,v,E,ev,J,q⟩=>?_;subst ev
 obtain⟨c,j,rfl,rfl,rv⟩:∃c j,O=[c,j]/\c=dN e/\RelV v j:=by
  cases r2 with
  | cons w A=>cases A with
   | cons h3 h4=>cases h4;exact⟨_,_,rfl,w,h3⟩
 obtain⟨bm,N,nm,qn,bs,hdct,sn,sub,ab,col,dd,k0,k1,k2,k3,k5,mN,p,hN,hi,Z⟩:=Fp l.kIn M;obtain⟨hx,_,_⟩:=(l.hok e _ J);obtain⟨W,g,d,tk,os⟩:=s2;refine EL F Z p hx λh' kp i e2=>?_;refine⟨.non,_,l.write (o:=.ext (S9 C e W.objs.size)) (by rw[J];trivial) (.inl rfl) kp ⟨_,i⟩ ⟨i,⟨_,i⟩,λw A z k=>k _ z⟩,rfl,q _⟩
theorem Zbx(hC:exiIn X.K C bmB newId fI=aC)(E:findIn X.K (.ref C) "__setattr__" = ag (ag (.builtin "object.__setattr__")))(G:veOver X.K C=aC)(S:takerIn X.K C f=ag aA)(hd:(clsIn X.K C).any (·.hasDict)=aC)(B:X.ex=[])
  (Q:PE X o ta) (Y:PE X value tv) (hs:eK value (ag (.Attribute o f np)) pos.line X.env=pure aB:=by rfl) :
  PS X (.Assign [.Attribute o f np] value pos) (λD U H=>tv U H λy A=>ta U A λz d=>∃e g,z = .ref e/\d e=ag (.ext (S9 C e g))/\
   ∀a c u,RelV y u->d a=aA->a≠e->VL.NsO c f u->D.nx U (upd (upd d a (.frz c (.own a))) e (.ext (Uh C e g a)))):=by
 intro L s U H D I h;refine plainObj_wpAny_Assign_Attribute (Yf (Y L s U H _ I h) λu s1 ⟨y,A,I1,O,q⟩=>Yf (Q L s1 U A _ I1 q) λov s2 ⟨z,d,n,P,e,g,T,J,q2⟩=>?_) hs;subst T;obtain rfl:=P;obtain⟨hx,_,_⟩:=(n.hok e _ J);refine EK n.kIn hx rfl rfl rfl E G S hd λh' x a kp t j i Z=>?_;obtain⟨c,es,ep,ho,m,w,v,W⟩:=id Z;have l:=n.hok.fresh j;have N:VL.NsO c f u:=λG b z=>⟨c,es,ep,z,m,w,v,W⟩;have R:=n.write (t':=x) (o:=.ext (Uh C e g a)) (by rw[J];trivial) (.inl rfl) kp ⟨_,t⟩ ⟨t,⟨_,t⟩,λh1 h2 z k=>k _ z⟩;have p:upd d e (.ext (Uh C e g a)) a=aA:=by rw[upd_ne i];exact l
 have off:=Li n B (dX j);have F:=Ml R (ho) p off
 have M:upd (upd d e (.ext (Uh C e g a))) a (.frz c (.own a))=upd (upd d a (.frz c (.own a))) e (.ext (Uh C e g a)):=by
  funext b;unfold upd;by_cases z:b=a
  ·rw[oX z,oY (λy=>i (z.symm.trans y)),oX z]
  ·rw[oY z];by_cases y:b=e
   ·rw[oX y,oX y]
   ·rw[oY y,oY y,oY z]
 rw[M] at F;exact⟨U,_,F,q2 a c u O l i N⟩
end
end VX
namespace VX
open PySem PySem.Spec PyProof.Rows L2
theorem K9{m:Nat}:∀{ts:List aj},(∀t∈ts,t.length<=m)->piled ts<=ts.length*(m+2)
 | [],_=>by simp[piled]
 | t::r,h=>by have c:=K9 (m:=m) (ts:=r) λu a=>h u (by simp[a]);have b:=h t (by simp);rw[bK,Nat.add_mul,piled_cons];omega
theorem Zby{m:Nat}{ts:List aj}(h:∀t∈ts,t.length<=m):(aj.join ", " ts).length<=ts.length*(m+2):=by
 by_cases q:ts=[]
 ·subst q;exact eY _
 ·have:=join_length_add ts q;have:=K9 h;omega
theorem Lk{m:Nat}{ts:List aj}(h:∀t∈ts,t.length<=m):(tupleText ts).length<=3+ts.length*(m+2):=by
 unfold tupleText;rw[fA,fA];have:=Zby h;have b:(kG "(").length=1:=by decide
 have a:(kG (if(ts.length==1)=aC then ",)" else ")" : String)).length<=2:=by split<;>decide
 omega
noncomputable def OD(H:Hp)(v:V):Prop:=v = .non\/(∃i:Int,v = .int i/\i.natAbs.log2<1920)\/∃(a:aK) (is:List Int),v = .ref a/\H a=ag (.tup (is.map V.int))/\is.length<=100/\∀i∈is,i.natAbs.log2<1920
section
variable {X:Cx} {k:Nat} {e:bB} {te:TE} {y:aj} {p1 p2 p3:da} {jj:Nat}
noncomputable def Zeo(te:TE):TE:=λU H Q=>te U H λv H1=>OD H1 v/\∀z,Q (.str z) H1
end
end VX
namespace VX
open PySem PySem.W PySem.Spec PyProof.Rows L2 VL
noncomputable def spI(C:aK)(f:aj):Sp:=λvs H Q _=>vs.length=2/\∃e v t0,vs=[.ref e,v]/\H e=ag (.ext (S9 C e t0))/\OD H v/\
 ∀t1 dx od u,RelV v u->H dx=aA->dx≠e->NsO od f u->Q .non (upd (upd H dx (.frz od (.own dx))) e (.ext (Uh C e t1 dx)))
noncomputable def Zjp(C:aK)(f:aj):TS:=
 Zig (Kj (λU H Q=>Tz (TV 0) (Tz (Zeo (TV 1)) Kl) U H λvs H1=>∃e v t0,vs=[.ref e,v]/\H1 e=ag (.ext (S9 C e t0))/\∀t1,Q .non (upd H1 e (.ext (S9 C e t1)))))
  (λD U H=>TV 1 U H λy H1=>TV 0 U H1 λz H2=>∃e t1,z = .ref e/\H2 e=ag (.ext (S9 C e t1))/\
   ∀dx od u,RelV y u->H2 dx=aA->dx≠e->NsO od f u->D.nx U (upd (upd H2 dx (.frz od (.own dx))) e (.ext (Uh C e t1 dx))))
theorem ES{C:aK}{f a b:aj}{vs:List V}{H:Hp}{Q:VK}{E:XK}(h:spI C f vs H Q E):Zjp C f { nx:=λ_ n=>Q .non n,rt:=Q } (start [a,b] vs) H:=by
 obtain⟨_,e,v,o,rfl,p,m,q⟩:=h;refine⟨.ref e,rfl,v,rfl,m,λz=>⟨e,.str z,o,rfl,p,λg=>?_⟩⟩;refine⟨v,rfl,.ref e,rfl,e,g,rfl,Zl,λd j u s hd i l=>?_⟩;rw[upd_ne i] at hd;have:=q g d j u s hd i l
 have k:upd (upd (upd H e (.ext (S9 C e g))) d (.frz j (.own d))) e (.ext (Uh C e g d))=upd (upd H d (.frz j (.own d))) e (.ext (Uh C e g d)):=by
  funext c;unfold upd;by_cases y:c=e
  ·rw[oX y,oX y]
  ·rw[oY y,oY y,oY y]
 rw[k];exact this
noncomputable def Ja(H:Hp)(e:aK):Hp:=λb=>if b=e then aA else H b
theorem Zbz{X:Cx}{g:List (aK×cg)}{U:L2.St}{H:Hp}{s:aM}{e:aK}{φ:bR->Prop}(I:Inv X g U H s)(k:H e=ag (.ext φ)):Inv X g U (Ja H e) s:=by
 have ne:∀b u,H b=ag u->(∀ψ,u≠.ext ψ)->Ja H e b=ag u:=λb u q n=>by unfold Ja;rw[oY (λz=>by rw[z,k] at q;cases q;exact n _ rfl)];exact q
 have f:∀b,H b=aA->Ja H e b=aA:=λb q=>by
  unfold Ja;split
  ·rfl
  ·exact q
 refine⟨I.ok,I.os,I.bare,⟨λb o q n d a=>?_,λb o q n d a=>?_,λb o q n a=>f b (I.base.free b o q n a),I.base.there,λb xs q=>ne b _ (I.base.tups b xs q) (λ_ z=>nomatch z),λb o u q=>ne b _ (I.base.frzs b o u q) (λ_ z=>nomatch z),λb j q=>?_⟩,I.loc,I.cell,f _ I.free,λx c q=>f c (I.freeC x c q),λp i=>?_,λb u q=>?_,I.len⟩
 ·exact I.base.keep b o q n d a
 ·exact I.base.slot b o q n d a
 ·obtain⟨more,z⟩:=I.base.tbls b j q;exact⟨more,ne b _ z λ_ z=>nomatch z⟩
 ·obtain⟨h,n,r⟩:=I.pin p i;exact⟨h,f _ n,r⟩
 ·have d:H b=ag u:=by
   unfold Ja at q;split at q
   ·cases q
   ·exact q
  exact(I.hok b u d).stay (λ_ _ _ r=>r) (λc r=>ne c _ r λ_ z=>nomatch z) (λc xs r=>ne c _ r λ_ z=>nomatch z) λc u r=>ne c _ r λ_ z=>nomatch z
structure Zb0(P:ay)(w:b9)(K:Frag)(mg:aj->Option aG)(base:bR)(C:aK)(f:aj)(bmB:List aG)(newId:String):Prop where
 ex:∃fI fd oI,exiIn K C bmB newId fI=aC/\K.lookup fI=ag oI/\oI.cls = .type "function"/\Binds K fd ["self",f] []/\Tr P w K mg base MN 1 fI fd ["self",f] (spI C f)
structure New(X:Cx)(E:XK):Prop where
 go:∀{o4:List (aK×cg)}{U:L2.St}{H:Hp}{s:aM}{e:aK}{cls:aG}{dd:Option aK},Inv X o4 U H s->Bj s.heap e cls dd->X.s₀.heap.get? e=aA->H e=aA->E cls dd H->X.xe (.ref e) s
section
variable {X:Cx} {E:XK} {C:aK} {bmB:List aG} {B newId initId:String} {x f:aj} {np o7 pos:da} {a:bB} {ta:TE}
theorem ET(F:gD B newId initId bmB)(CF:Zb0 X.prog X.w X.K X.mg X.base C f bmB newId)(hr:Room 2 X.A)(hg:Gl X x)(hm:X.mg x=ag (.ref C))(A:X.calm=aC)(DX:New X E)(ha:PE X a ta)
  (S:(x==("__debug__" : aj))=aB:=by decide) (he:aO [a] X.env=(aB,eval a X.env)::aO [] X.env:=by rfl) :
  PS X (.Raise (ag (.Call (.Name x np) [a] [] o7)) aA pos) (λ_ U H=>ta U H λv i=>OD i v/\∀g j u,RelV v u->i g=aA->NsO j f u->E (.ref C) (ag g) (upd i g (.frz j (.own g)))):=by
 intro o4 s U H D I h;obtain⟨fI,fd,oI,hq,Y,Q,hb,FO⟩:=CF.ex;have X0:X.K.In X.base:=I.ok.mod.kin;obtain⟨T,N,nm,Z,bs,hdct,sn,sub,ab,col,dd,k0,k1,k2,k3,k5,mN,hC,hN,hi,TL⟩:=Fp X0 hq;refine V7 (nm:=nm) (q:=Z) (N:=N) (bs:=bs) (hdct:=hdct) (sn:=sn) (sub:=sub) (ab:=ab) (col:=col) (dd:=dd) (k0:=k0) (k1:=k1) (k2:=k2) (k3:=k3) (k5:=k5) F (mN:=mN) (fI:=fI) (oI:=oI) (TL.hasType F.hasBase) (I.ok.hd A) (by rw[he];rfl) hi Q (Wg I hg hm ⟨rfl,?_⟩ S);have pa:PA X [a] (Tz ta Kl):=ZY ha YF (hs:=he)
 have L:av (model X.prog X.w) X.A (spliced (ck o7 (aO [a] X.env))) (λO d=>O.length<=sizeLine/\d.heap.get? C=ag (dH nm Z C N bs T hdct sn sub ab col dd k0 k1 k2 k3 k5 newId)/\d.heap.Ns N mN/\mX d.heap bmB T/\d.heap.get? fI=ag oI/\
    ∀h',(∀b o,d.heap.get? b=ag o->h'.get? b=ag o)->h'.get? (d.heap.objs.size+1)=ag { cls:=.ref C,data:=.fields #[.ref d.heap.objs.size,.none,.none,.none,.bool aB,.none] }->
     av (model X.prog X.w) (X.A.under (.builtin "type.__call__" ⟨.ref C::O,[]⟩)) (call (.ref fI) (.ref (d.heap.objs.size+1)::O)) (λr m=>r = .none/\∃t g,m.heap.get? C=ag (dH nm Z C N bs T hdct sn sub ab col dd k0 k1 k2 k3 k5 newId)/\
      m.heap.get? (d.heap.objs.size+1)=ag { cls:=.ref C,dict:=g,data:=.fields #[.ref t,.none,.none,.none,.bool aB,.none] }/\X.xe (.ref (d.heap.objs.size+1)) m) X.xe { d with heap:=h' }) X.xe s:=by
  refine Yf (pa o7 o4 s U H (λvs i=>match vs with | [v]=>OD i v/\∀g j u,RelV v u->i g=aA->NsO j f u->E (.ref C) (ag g) (upd i g (.frz j (.own g))) | _=>False) I h) λO d ⟨vs,i,p,r,q⟩=>?_
  obtain⟨v,rfl⟩:∃v,vs=[v]:=by
   match vs,q with
   | [v],_=>exact⟨v,rfl⟩
  obtain⟨hs,hE⟩:OD i v/\∀g j u,RelV v u->i g=aA->NsO j f u->E (.ref C) (ag g) (upd i g (.frz j (.own g))):=q;obtain⟨u,rfl,ru⟩:=Ue r;refine⟨by show 1<=_;decide,p.bk _ _ hC,hN.keeps p.bk,TL.keeps p.bk,p.bk _ _ (X0 _ _ Y),λh' kp P=>?_⟩;generalize hea:d.heap.objs.size+1=e at P ⊢;have J:d.heap.objs.size<=e:=by omega
  have n:i e=aA:=p.hok.fresh J;have W:Inv X o4 U (upd i e (.ext (S9 C e d.heap.objs.size))) { d with heap:=h' }:=p.laid (t':=d.toks) kp J ⟨P,⟨_,P⟩,λh1 M z k=>k _ z⟩
  have hs':OD (upd i e (.ext (S9 C e d.heap.objs.size))) v:=by
   rcases hs with z | z | ⟨c,is,z1,z2,z3⟩
   ·exact .inl z
   ·exact .inr (.inl z)
   ·exact .inr (.inr ⟨c,is,z1,by rw[upd_ne (Zn z2 n)];exact z2,z3⟩)
  have r2:Vals [V.ref e,v] [dN e,u]:=.cons rfl (.cons ru .nil);let QF:VK:=λr H'=>r = .non/\∃w g j G,RelV v G/\i g=aA/\g≠e/\NsO j f G/\H'=upd (upd (upd i e (.ext (S9 C e d.heap.objs.size))) g (.frz j (.own g))) e (.ext (Uh C e w g));have hsp:spI C f [V.ref e,v] (upd i e (.ext (S9 C e d.heap.objs.size))) QF E0:=⟨rfl,e,v,_,rfl,Zl,hs',λw g j G h1 M h3 h4=>⟨rfl,w,g,j,G,h1,by rw[upd_ne h3] at M;exact M,h3,h4,rfl⟩⟩;refine g9 (fK (FO.run _ X.stack _ _ ⟨[.ref e,u],[]⟩ [.ref e,u] [V.ref e,v] QF E0 (hr.make C [u] []) (W.env0.make C [u] []) (hb _ [.ref e,u] W.kIn rfl) r2 hsp) λrr s' l=>?_)
  cases rr with
  | error ee=>exact bw l
  | ok fl=>
   cases fl with
   | next=>exact bw l
   | brk=>exact bw l
   | cont=>exact bw l
   | ret u2=>
    obtain⟨v2,H',R,rv,ev,w,g,j,G,q1,q2,q3,q4,rfl⟩:=W.after l;subst ev;obtain⟨ho,_,_⟩:=(show ObjOk X.prog X.w _ s'.heap e (.ext (Uh C e w g)) from R.hok e _ Zl);have I4:=Zbz R (e:=e) Zl
    have eH:Ja (upd (upd (upd i e (.ext (S9 C e d.heap.objs.size))) g (.frz j (.own g))) e (.ext (Uh C e w g))) e=upd i g (.frz j (.own g)):=by
     funext c;unfold Ja upd;by_cases y:c=e
     ·rw[oX y,oY (λz=>q3 (z.symm.trans y)),y,n]
     ·rw[oY y,oY y,oY y]
    rw[eH] at I4;refine⟨rv,w,ag g,R.bk _ _ hC,ho,?_⟩;refine DX.go I4 ⟨_,_,ho,rfl,rfl,rfl,rfl⟩ ?_ ?_ (hE g j G q1 q2 q4)
    ·cases z:X.s₀.heap.get? e with
     | none=>rfl
     | some o=>
      exact absurd (aZ (aP z) p.sz) (by omega)
    ·rw[upd_ne (bP q3)];exact n
 rw[he] at L ⊢;exact iS (bW L (λO d M=>⟨rfl,M⟩) λ_ _ z=>z)
end
end VX
namespace VX
open PySem PySem.Spec PyProof.Rows L2 VL
abbrev XF:=ZG->Option (aj×PV)
noncomputable def GoY(K:aE)(E:XK)(H0:Hp)(n:aj)(l:PV):Prop:=∀C dx od u z H',dD K bX n=ag (ag (.ref C))->Same H0 H'->H' dx=ag (.frz od (.own dx))->NsO od (Wi n) u->RelV z u->Is K H' l z []->E (.ref C) (ag dx) H'
noncomputable def tFY(K:aE)(O:List Nat)(fy:XF)(E:XK):TS:=λ_ U H=>∃H0 fps s n l,Rel K O H0 fps s U H/\fy s=ag (n,l)/\GoY K E H0 n l
noncomputable def VY(X:Cx)(O:List Nat)(E:XK)(st:ba)(fy:XF):Prop:=PS X st (tFY X.K O fy E)
noncomputable def VYs(X:Cx)(O:List Nat)(E:XK)(st:List ba)(fy:XF):Prop:=PSs X st (tFY X.K O fy E)
noncomputable def Jb:PV->Bool
 | .non=>aC
 | .int i=>decide (i.natAbs.log2<1920)
 | .tup l=>match Yj l with
  | some is=>decide (is.length<=100)&&is.all λi=>decide (i.natAbs.log2<1920)
  | none=>aB
 | _=>aB
theorem Bp{K:aE}{H:Hp}{l:PV}{v:V}{e:List aK}(h:Is K H l v e)(g:Jb l=aC):OD H v/\e=[]:=by
 cases l with
 | non=>exact⟨.inl h.non_inv.1,h.non_inv.2⟩
 | int i=>exact⟨.inr (.inl ⟨i,h.int_inv.1,of_decide_eq_true g⟩),h.int_inv.2⟩
 | tup l=>
  have a:(match Yj l with | some is=>decide (is.length<=100)&&is.all λi=>decide (i.natAbs.log2<1920) | none=>aB)=aC:=g;split at a
  ·rename_i is d;have:=Z7 d;subst this;obtain⟨p,xs,rfl,f,c⟩:=h.tup_inv;obtain⟨rfl,rfl⟩:=c.iL;rw[bC] at a;exact⟨.inr (.inr ⟨p,is,rfl,f,of_decide_eq_true a.1,λi c=>of_decide_eq_true (bN.mp a.2 i c)⟩),rfl⟩
  ·cases a
 | bl b=>cases g
 | str x=>cases g
 | ty n=>cases g
 | exc n=>cases g
 | exf n l=>cases g
 | clo n l=>cases g
 | lst l=>cases g
 | cst l=>cases g
 | dK ks l=>cases g
 | dT ks l=>cases g
noncomputable def RW(n:aj)(f:XE):XF:=λs=>(f s).bind λl=>if Jb l=aC then ag (n,l) else aA
noncomputable def yIf(fc:XT)(f g:XF):XF:=λs=>(fc s).bind λc=>if c=aC then f s else g s
noncomputable def Jc(f1:XF)(f:XS)(g:XF):XF:=λs=>match f1 s with
 | some c=>ag c
 | none=>(match f s with
  | some (.nx s')=>g s'
  | _=>aA)
noncomputable def yNo:XF:=λ_=>aA
section
variable {X:Cx} {O W:List Nat} {E:XK} {C:aK} {bmB:List aG} {B newId initId:String} {x:aj} {np o7 pos:da} {e:bB} {f:XE}
theorem Bq(F:gD B newId initId bmB)(g:Zb0 X.prog X.w X.K X.mg X.base C (Wi x) bmB newId)(o:Room 2 X.A)(k:Gl X x)(j:X.mg x=ag (.ref C))(d:dD X.K bX x=ag (ag (.ref C)))(a:X.calm=aC)(p:New X E)(w:VE X e f)
  (c:(x==("__debug__" : aj))=aB:=by decide) (b:aO [e] X.env=(aB,eval e X.env)::aO [] X.env:=by rfl) :
  VY X O E (.Raise (ag (.Call (.Name x np) [e] [] o7)) aA pos) (RW x f):=
 PS.imp (ET F g o k j a p w c b) λD U H ⟨N,fps,s,n,l,r,e,q⟩=>by
  obtain⟨M,A,e⟩:=Zd e;split at e
  ·rename_i hs;cases e;refine⟨λ_=>False,s,l,λ_ z=>z.elim,r.env,A,λv J L m i _=>?_⟩;obtain⟨t,rfl⟩:=Bp i hs;refine⟨t,λy G u I hd h=>q C y G u v _ d ((r.same.trans m).trans (Same.new hd _)) Zl h I (i.mono (Same.new hd _))⟩
  ·cases e
variable {st:ba} {o6 a b:List ba} {c:bB} {fc:XT} {f1 g1:XF} {fs:XS}
theorem vy_no:VY X O E st yNo:=λa s U H D I ⟨_,_,_,_,_,_,e,_⟩=>by cases e
theorem Br:VYs X O E o6 yNo:=λa s U H D I ⟨_,_,_,_,_,_,e,_⟩=>by cases e
theorem Zjq(i:VT X c fc)(g:VYs X O E a f1)(j:VYs X O E b g1):VY X O E (.If c a b pos) (yIf fc f1 g1):=PS.imp (Zd1 i g j) λD U H ⟨f,fps,s,n,l,r,e,q⟩=>by
 obtain⟨d,h,e⟩:=Zd e;refine⟨λ_=>False,s,d,λ_ z=>z.elim,r.env,h,λk s1=>?_⟩
 cases d with
 | true=>rw[oX rfl] at e ⊢;exact⟨f,fps,s,n,l,r.grow s1,e,q⟩
 | false=>rw[oY bx] at e ⊢;exact⟨f,fps,s,n,l,r.grow s1,e,q⟩
theorem Fq(h:VY X O E st f1):VYs X O E [st] f1:=ME h
theorem Bs(g:VY X O E st f1)(hs:VS X O W st fs)(h:VYs X O E o6 g1):VYs X O E (st::o6) (Jc f1 fs g1):=by
 intro d s U H D I ⟨a,fps,f,n,l,r,e,q⟩;unfold Jc at e;split at e
 ·rename_i c k;cases e;exact EO g (λ_ _ _ _ z=>z) d s U H D I ⟨a,fps,f,_,_,r,k,q⟩
 ·split at e
  ·rename_i b i;refine Sq hs h d s U H D I ⟨a,fps,f,.nx b,r,i,λj o p m _=>?_⟩;exact⟨a,j,b,n,l,m,e,q⟩
  ·cases e
end
noncomputable def spY(K:aE)(R:List PV->Option (aj×PV))(n:Nat):Sp:=λvs H _ E=>vs.length=n/\∃ls fp nm l,Iss K H ls vs fp/\R ls=ag (nm,l)/\GoY K E H nm l
noncomputable def fnY(m:Nat)(fy:XF):List PV->Option (aj×PV):=λls=>fy (ZK m ls)
section
variable {K:aE} {P:ay} {w:b9} {mg:aj->Option aG} {base:bR}
open Classical in
theorem Zgw{N:List aj}{O:List Nat}{n:Nat}{d:XF}{vs:List V}{H:Hp}{Q:VK}{E:XK}{D:Yz}(t:∀i∈O,n<=i)(h:spY K (fnY N.length d) n vs H Q E):tFY K O d E D (L2.start N vs) H:=by
 obtain⟨G,ls,w,nm,x,g,e,q⟩:=h;obtain⟨B,fps,s,j,r,b,k⟩:=M4 (N:=N) (n:=n) (O:=O) (W:=[]) (f:=λs=>if s=ZK N.length ls then ag (.rt .non) else aA) (vs:=vs) (H:=H) (Q:=λ_ a=>Same H a) (E:=λ_ _ _=>True) t ⟨G,ls,w,.non,g,by unfold YL;simp[Oa],λ_ a _ c _ _ _=>c⟩;simp only at b;split at b
 ·rename_i hs;cases b;subst hs;exact⟨B,fps,_,nm,x,r,e,λC F I u z a A c m o y l=>q C F I u z a A (k .non [] a c Is.non cF λp v=>by simp at v) m o y l⟩
 ·cases b
theorem def_y{x:aj}{st:ba}{N e:List aj}{k n:Nat}{O:List Nat}(m:Nat)(q:XF)(D:Def K mg x st)(S:Zq N e (Zg st))
  (B:∀(kV d o:aG)(p:Option aK)(b ct:aG)(us:List aG),us.length=e.length->gx (cV x x (Yy st) (Z2 st) (Zg st) .none kV d o p b ct) ⟨us,[]⟩=pure (e.zip us))
  (y:e.length=n) (j:N.length=m) (u:∀i∈O,n<=i)
  (c:∀(fa:aK)(b:aG)(A:bU)(a:List jR)(s:aM)(H:Hp)(E:XK),Room k (A.deeper (gh x (Zg st) s.heap.objs.size fa b))->VYs (Su (CX1 P w) P w K mg base N x (Zg st) fa b A a s H E) O E (Z2 st) q) :
  CalX P w K mg base x e (spY K (fnY m q) n) (k+1):=by
 subst j;obtain⟨f,t,j,F⟩:=D.ex;refine⟨f,t,j,F.kp,F.binds B,?_⟩;obtain⟨G,I,kV,d,o,p,b,ct,z,rfl,C,g⟩:=F.ex;exact YZ C g S (λvs H Q E h=>by rw[y];exact h.1) λA a s H vs Q E v l=>⟨_,c f b A a s H E v,Zgw u l⟩
end
noncomputable def Jd(R:List PV->Option (aj×PV))(fs:List XE)(i:Nat)(f:XS):XS:=λs=>(SG fs s).bind λls=>(R ls).bind λnl=>(f (s.set i (ag (.exf nl.1 nl.2)))).map (Zjn i)
section
variable {X:Cx} {O W:List Nat} {k n i:Nat} {x cx nm:aj} {ps:List aj} {R:List PV->Option (aj×PV)} {e:bB} {es:List bB} {fs:List XE} {p cp ep np hp pos:da} {b₀:ba} {suite:List ba} {f:XS} {Cb:aK} {o6:List gW}
theorem Zb1(CX:CalX X.prog X.w X.K X.mg X.base x ps (spY X.K R n) k)(hr:Room k X.A)(hg:Gl X x)(ha:VA X.nox (e::es) fs)(hx:X.ex=[])(hst:X.stack=X.env::X.outer)(hfr:X.env.frame=ag X.env.locals)
  (hN:X.N.Nodup) (hi:X.N[i]?=ag nm) (hk:X.env.scope.names.lookup nm=ag .local) (hgc:Gl X cx) (hmc:X.mg cx=ag (.ref Cb)) (hB:el X.K Cb "BaseException" = aC)
  (hR:∀ls m l,R ls=ag (m,l)->∃C,dD X.K bX m=ag (ag (.ref C))/\el X.K C "BaseException" = aC/\belowIn X.K C Cb=aC)
  (hs:∀e,VSs (Cx.mark X e) O W (b₀::suite) f) (t:i∉O) (hsw:eK (.Call (.Name x p) (e::es) [] cp) aA ep.line X.env=pure aB:=by rfl) (hn:fs.length=n:=by rfl)
  (hdb:(x==("__debug__" : aj))=aB:=by decide) (L:(cx==("__debug__" : aj))=aB:=by decide) (he:aO (e::es) X.env=(aB,eval e X.env)::aO es X.env:=by rfl) (hpl:(ck cp (aO es X.env)).any (·.1)=aB:=by rfl) :
  VS X O (i::W) (.Try [.Expr (.Call (.Name x p) (e::es) [] cp) ep] (.ExceptHandler (ag (.Name cx np)) (ag nm) (b₀::suite) hp::o6) [] [] pos) (Jd R fs i f):=by
 intro o4 s U H D I ⟨H0,fps,sp,out,r,Y,ok⟩;obtain⟨ls,e2,Y⟩:=Zd Y;obtain⟨⟨m,lv⟩,e3,Y⟩:=Zd Y;obtain⟨o1,e4,rfl⟩:=map_some Y;obtain⟨C,hns,hC,hb⟩:=hR ls m lv e3;obtain⟨fa,fd,hmx,hkp,hbd,F⟩:=CX.ex;refine wpAny_Try_except (iM (ka ?_ I.quiet hsw));refine cX (Wg I hg hmx ?_ hdb);refine gg I.ok.mod.kin hkp ?_ he hpl;refine bW (ha cp o4 s U H (λvs B=>Same H B/\∃P,Iss X.K B ls vs P) (I.wish _) ⟨λ_=>False,sp,ls,λ_ z=>z.elim,r.env,e2,λvs B P s1 i1 _=>⟨s1,P,i1⟩⟩) (λus s1 ⟨vs,B,y,rv,sm,P,i1⟩=>?_) λ_ _ z=>z.elim;have y:=y.unwish;have Q:vs.length=n:=by rw[i1.len,W8 e2,hn]
 have hsp:spY X.K R n vs B (λ_ _=>False) (λZ dd d=>Z = .ref C/\∃E J u z,dd=ag E/\d E=ag (.frz J (.own E))/\NsO J (Wi m) u/\RelV z u/\Is X.K d lv z []/\Same B d):=⟨Q,ls,P,m,lv,i1,e3,λC' E J u z d hc sm a1 a2 a3 a4=>⟨by rw[hns] at hc;cases hc;rfl,E,J,u,z,rfl,a1,a2,a3,a4,sm⟩⟩;have hl:(us++[]).length=ps.length:=by rw[cL,<-rv.length,Q];have:=F.len _ _ _ _ hsp;omega
 have hbb:=hbd s1 us y.kIn hl;rw[cL] at hbb;refine⟨y.kIn,g9 (fK (F.run X.A X.stack s1 B ⟨us,[]⟩ us vs _ _ hr y.env0 hbb rv hsp) λres w S=>?_)⟩
 cases res with
 | ok fl=>
  cases fl with
  | ret u=>obtain⟨_,_,_,_,_,_,_,z⟩:=S;exact z.elim
  | next=>exact bw S
  | brk=>exact bw S
  | cont=>exact bw S
 | error v=>
  obtain⟨ea,Z,dd,d,rfl,hos,hgn,u,hok,⟨T,xx,hH,hHT,he0,hT0⟩,rfl,E,J,u',z',rfl,b1,b2,b3,b4,sm1⟩:=S;have I2:=y.call' hos u hok hgn λb hb=>nomatch hb;refine Zlt I2 hx hst hfr xx hH hHT (Li y hx he0) (Li y hx hT0) hN hi hk hgc hmc hC hB hb (hs ea) (λoe h1 h2 h3=>?_) L;have sm2:Same H (upd d ea (.frz oe (.own ea))):=λb o q=>by have q':=sm1 b o (sm b o q);rw[upd_ne (Zn q' hH)];exact q'
  have M:Same d (upd d ea (.frz oe (.own ea))):=Same.new hH _;have iE:Is X.K (upd d ea (.frz oe (.own ea))) (.exf m lv) (.ref ea) []:=by simp only[Is];exact⟨⟨ea,oe,ea,C,E,J,u',z',rfl,Zl,h1,hns,h2,h3,M _ _ b1,b2,b3,b4.mono M⟩,trivial⟩
  have hlt:i<sp.length:=by have:=(aS.mp hi).1;rw[r.len,I.len];exact this
  have r2:=(r.grow sm2).set iE (λz=>absurd z t) (λk _ _ p hp=>by simp at hp);refine⟨H0,_,_,o1,r2,e4,?_⟩;have A:∀(g:Nat->List aK)(c:RJ)(a:Hp)(w:ZG),(∀j,j∉W->c[j]?=(U.set i (ag (V.ref ea)))[j]?/\Kep (g j) (RM fps sp.length i [] j))->∀j,j∉i::W->(c.set i aA)[j]?=U[j]?/\Kep (if j=i then [] else g j) (fps j):=λg c a w h j hj=>by have G:j≠i:=λz=>hj (by rw[z];exact .head _);obtain⟨a1,a2⟩:=h j λz=>hj (.tail _ z);rw[dY (bP G)] at a1 ⊢;rw[Ya G] at a2;rw[oY G];exact⟨a1,a2⟩
  cases o1 with
  | nx w=>exact λg c a N k'=>ok _ _ _ (OC t N) (A g c a w k')
  | bk w=>exact λg c a N k'=>ok _ _ _ (OC t N) (A g c a w k')
  | ct w=>exact λg c a N k'=>ok _ _ _ (OC t N) (A g c a w k')
  | rt l=>exact ok
end
structure Zjr(K:aE)(C:aK):Prop where
 ga:bg K (.ref C) "__getattribute__" = ag (ag (.builtin "BaseException.__getattribute__"))
 gr:bg K (.ref C) "__getattr__" = ag aA
 cl:bg K (.ref C) "__class__" = ag (ag (.builtin "object.__class__"))
 mr:j7 K C (.type "object")=ag aC
 kt:el K C "BaseException" = aC
section
variable {prog:ay} {w:b9} {A:bU} {E:aG->aM->Prop} {K:aE} {a C:aK}
theorem exc_classD{s:aM}{Q:Option aG->aM->Prop}(X:K.In s.heap){o:cg}{e:Option cg}(I:fD s.heap a o C e)
  (L:bg K (.ref C) "__getattribute__" = ag (ag (.builtin "BaseException.__getattribute__")))
  (B:bg K (.ref C) "__getattr__" = ag aA) (D:bg K (.ref C) "__class__" = ag (ag (.builtin "object.__class__"))) (H:j7 K C (.type "object")=ag aC) (z:el K C "BaseException" = aC)
  (h:Q (ag (.ref C)) { s with toks:=s.toks+1 }):av (model prog w) A (getAttr? (.ref a) "__class__") Q E s:=by
 obtain⟨f,g,d,t,os⟩:=s;have I:fD f a o C e:=I;have m:=I.at_;have n:=I.cls;have O:=I.type (M:=model prog w);have x:=dZ (M:=model prog w) X L;unfold getAttr? getAttrBy? getAttrBy;refine aI (wpAny_mkText (aI (lU (dW (aI (O.at (aI (x.at ?_))))))));have l:=dZ (M:=model prog w) X B;have v:=dZ (M:=model prog w) X D;show av (model prog w) A (i9 (.ref a) (.str "__class__" t) (.ref C) (.builtin "BaseException.__getattribute__") aB aB) _ _ _;have S:=F.attr_ValueError.ga.bind (.ref a);unfold i9
 repeat (any_goals (first | assumption | wp_step | (refine aI (l.at ?_)) | (refine l.at ?_)))
 obtain⟨nm,q,N,bs,p,hdct,sn,sub,ab,col,u,k0,k1,k2,k3,k5,i,j,c,_⟩:=i8 X z;have j:f.get? C=ag (dH nm q C N bs p hdct sn sub ab col u k0 k1 k2 k3 k5 i):=j;have k:(dN C::p).contains (.type "BaseException")=aC:=by rw[fM,c,ip]
 have P:=I.type (M:=model prog w);show gY (model prog w) A (.call (.builtin "BaseException.__getattribute__") ⟨[.ref a,.str "__class__" t],[]⟩) _ ⟨f,g,d,t+1,os⟩;refine gA F.attr_ValueError.ga.plain F.entry_bexc_ga ?_;have y:builtinKind "BaseException.__getattribute__" = ag .slot:=by decide +kernel
 have b:splitId "BaseException.__getattribute__" = ag ("BaseException","__getattribute__"):=by decide +kernel
 have R:=F.args_bexc_ga (.ref a) (.str "__class__" t);simp only[checkBuiltinCall,y,b];refine aI ?_;unfold n9
 repeat (first | (with_reducible refine cG m ?_;rw[n]) | (with_reducible refine cu j ?_;rw[k]) | wp_step)
 refine v.at ?_;have U:=PySem.W.KF.type_class;have T:=F.slot_gs_get.lookup;have W:=F.slot_gs_set.lookup
 repeat (any_goals (first | assumption | (with_reducible refine cG m ?_;rw[n]) | wp_step))
 have J:K.In (⟨f,g,d,t+1,os⟩:aM).heap:=X;have G:fD (⟨f,g,d,t+1,os⟩:aM).heap a o C e:=I;refine PySem.W.class_get J G H ?_
 repeat (any_goals (first | assumption | wp_step))
theorem IS{s:aM}{Q:aG->aM->Prop}{f:aj}{n:ClassData}{v:aG}(X:K.In s.heap){o:cg}{e:Option cg}(I:fD s.heap a o C e)
  (R:bg K (.ref C) "__getattribute__" = ag (ag (.builtin "BaseException.__getattribute__")))
  (G:bg K (.ref C) "__getattr__" = ag aA) (H:bg K (.ref C) f=ag aA) (O:jc K C=ag n) (gw:oE n e f=ag (ag v)) (D:el K C "BaseException" = aC) (J:mq v=aC)
  (h:Q v { s with toks:=s.toks+1 }):av (model prog w) A (getAttr (.ref a) f aC) Q E s:=by
 obtain⟨l,g,d,t,os⟩:=s;have I:fD l a o C e:=I;have L:=I.at_;have P:=I.cls;have S:=I.type (M:=model prog w);have y:=dZ (M:=model prog w) X R;unfold getAttr getAttrBy;refine aI (wpAny_mkText (dW (aI (S.at (aI (y.at ?_))))));have m:=dZ (M:=model prog w) X G;have x:=dZ (M:=model prog w) X H;have z:=PySem.W.looks_own (M:=model prog w) X I O gw;show av (model prog w) A (i9 (.ref a) (.str f t) (.ref C) (.builtin "BaseException.__getattribute__") aC aC) _ _ _;have U:=F.attr_ValueError.ga.bind (.ref a);unfold i9
 repeat (any_goals (first | assumption | wp_step | (refine aI (m.at ?_)) | (refine m.at ?_)))
 obtain⟨nm,q,N,bs,p,hdct,sn,sub,ab,col,u,k0,k1,k2,k3,k5,i,j,c,_⟩:=i8 X D;have j:l.get? C=ag (dH nm q C N bs p hdct sn sub ab col u k0 k1 k2 k3 k5 i):=j;have k:(dN C::p).contains (.type "BaseException")=aC:=by rw[fM,c,ip]
 show gY (model prog w) A (.call (.builtin "BaseException.__getattribute__") ⟨[.ref a,.str f t],[]⟩) _ ⟨l,g,d,t+1,os⟩;refine gA F.attr_ValueError.ga.plain F.entry_bexc_ga ?_;have B:builtinKind "BaseException.__getattribute__" = ag .slot:=by decide +kernel
 have b:splitId "BaseException.__getattribute__" = ag ("BaseException","__getattribute__"):=by decide +kernel
 have T:=F.args_bexc_ga (.ref a) (.str f t);simp only[checkBuiltinCall,B,b];refine aI ?_;unfold n9
 repeat (first | (with_reducible refine cG L ?_;rw[P]) | (with_reducible refine cu j ?_;rw[k]) | wp_step)
 refine x.at ?_;refine aI (a9 (aI (a9 ?_)));show av _ _ (iJ (.ref a) f aA aA) _ _ _;unfold iJ;refine aI (z.at ?_);refine aI (lj (a9 ?_));refine a9 ?_;show av (model prog w) A (handedOut v) Q E _;rw[PySem.W.handedOut_of J];exact a9 h
end
noncomputable def eIsF(tb:aj->Option Bool)(f:XE):XE:=λs=>match f s with
 | some (.exf n _)=>(tb n).map PV.bl
 | _=>aA
theorem Zb2{X:Cx}{g:List (aK×cg)}{U:L2.St}{H:Hp}{s:aM}{a b x C:aK}{o d:cg}{vs:Array aG}(I:Inv X g U H s)(e:H a=ag (.frz o (.own x)))(h:o.cls = .ref C)(hd:o.dict=ag b)(f:o.data = .fields vs)(c:H b=ag (.frz d (.own b))) :
  fD s.heap a o C (ag d):=⟨(I.hok a _ e).1,h,by unfold PySem.W.notCls;rw[f],by rw[hd];exact(I.hok b _ c).1⟩
section
variable {X:Cx} {e:bB} {f:XE} {cx:aj} {p p2 pos:da} {tb:aj->Option Bool} {c:aG} {cv:V}
structure Zgx(K:aE)(n:aj)(C:aK):Prop where
 ns:dD K bX n=ag (ag (.ref C))
 ec:Zjr K C
 nf:bg K (.ref C) (Wi n)=ag aA
 hd:(jc K C).any (·.hasDict)=aC
noncomputable def Je(n:aj)(f:XE):XE:=λs=>match f s with
 | some (.exf m l)=>if m=n/\Jb l=aC then ag l else aA
 | _=>aA
theorem Zb3{b:cg}{f:aj}{u:aG}{d:bR}{i:aK}(h:NsO b f u)(e:d.get? i=ag b):gv f b=ag (ag u):=by
 obtain⟨o,g,ep,c,j,_,_,l⟩:=h d i e;rw[e] at c;cases c;have k:=(l f).trans (oX rfl);have a:oO (λn v=>v.isStr n) g f=ag u:=k;unfold oO at a;rw[<-jJ] at a;unfold gv;rw[j]
 dsimp only
 cases q:g.toList.find? (λx=>x.key.isStr f) with
 | none=>rw[q] at a;cases a
 | some en=>rw[q] at a;cases a;rfl
theorem IT{z:V}{u:aG}(r:RelV z u):mq u=aC:=by cases z<;>simp only[L2.RelV] at r<;>first | (obtain⟨t,rfl⟩:=r;rfl) | (subst r;rfl)
theorem Zb4{n:aj}{C:aK}(F:Zgx X.K n C)(T:VE X e f)(S:j6 e (Wi n) X.env (eval e X.env)=eval e X.env:=by rfl):VE X (.Attribute e (Wi n) pos) (Je n f):=by
 intro W s U H Q I h;obtain⟨L,Y,l,hd,env,a,k⟩:=h;unfold Je at a;split at a
 ·rename_i m lv R;split at a
  ·rename_i E;cases a;obtain⟨rfl,hg⟩:=E
   refine Zan S (Yf (T W s U H (λv b=>Same H b/\Is X.K b (.exf m l) v []) I ⟨L,Y,.exf m l,hd,env,R,λv b O s1 g n1=>⟨s1,by
    have:O=[]:=by simp only[Is] at g;exact g.2
    rw[<-this];exact g⟩⟩) λu s1 ⟨v,b,i,Z,G,g⟩=>?_)
   obtain⟨⟨ea,o,x,C',M,od,u',z,rfl,N,y,c,w,⟨vs,P⟩,d,D,A,B⟩,_⟩:=g;rw[F.ns] at c;cases c;obtain rfl:=Z;obtain⟨cd,j,t⟩:=PySem.W.any_some F.hd
   refine IS i.kIn (Zb2 i N y w P d) F.ec.ga F.ec.gr F.nf j (by
    unfold oE;rw[oX t];exact Zb3 D (i.hok M _ d).1) F.ec.kt (IT A) ?_
   exact⟨z,b,i.kept λ_ _ q=>q,A,k z b [] G B λp J=>by simp at J⟩
  ·cases a
 ·cases a
end
section
variable {M:mx} {A:bU} {E:aG->aM->Prop} {s:aM} {env:jR} {L e T:aK} {cls fl:aG} {dd:Option aK} {Q:Unit->aM->Prop}
theorem Zjs(i:env.frame=ag L)(x:EI s.heap e cls dd T (eF L))(h:Q () s):av M A (jF (.ref e) env) Q E s:=by obtain⟨l,vs,k,ts,c,m,d,hd,j,g,f,a,b⟩:=x;unfold jF;simp only[i];refine aI (cD c hd j ?_);refine aI (cD f a b ?_);rw[oX (by simp)];exact a9 h
end
section
variable {X:Cx} {E:XK}
noncomputable def Zer(X:Cx)(E:XK):aG->aM->Prop:=λv s'=>∃(o4:List (aK×cg)) (U:L2.St) (H:Hp) (s:aM) (e:aK) (cls:aG) (dd:Option aK),v = .ref e/\Inv X o4 U H s/\X.s₀.heap.get? e=aA/\H e=aA/\E cls dd H/\
 ((s'=s/\Bj s.heap e cls dd)\/∃h' T,s'={ s with heap:=h' }/\s.heap.objs.size<=T/\EI h' e cls dd T (eF X.env.locals)/\Eff ((X.env::X.outer).filterMap (·.frame)) [e,T] s.heap h')
theorem Jf(D:IK X E){v:aG}{j:aM}(h:Zer X E v j):X.xe v j:=by
 obtain⟨p,U,H,s,e,n,dd,rfl,I,d,c,q,⟨rfl,x⟩ | ⟨h',T,rfl,i,x,m⟩⟩:=h
 ·exact Zgv D I x d c q
 ·rw[D.xe];refine aI (Zjs D.fr x ?_);refine OB x (fs:=(X.env::X.outer).filterMap (·.frame)) λo l k _=>?_;have g:=dX (bO I.sz i);have a:=I.hok.fresh i
  exact RV D I g d c a (λb f=>by
   rcases aX.mp f with z | z
   ·rw[z];exact⟨c,d⟩
   ·rw[aN.mp z];exact⟨a,g⟩) l (m.trans (k.mono λb f=>by simp[f])) q
abbrev Cx.rdy(X:Cx)(E:XK):Cx:=X.wish (Zer X E)
theorem Zb5:New (Cx.rdy X E) E:=⟨λ{d U H s e c dd} I x a b q=>⟨d,U,H,s,e,c,dd,rfl,I.unwish,a,b,q,.inl ⟨rfl,x⟩⟩⟩
theorem PSs.rdy{st:List ba}{t:TS}(D:IK X E)(h:PSs (Cx.rdy X E) st t):PSs X st t:=λb s U H c I a=>
 bW (h b s U H c (I.wish _) a) (λ_ _ q=>q.unwish) λv d z=>Jf D z
end
section
variable {K:aE} {P:ay} {w:b9} {mg:aj->Option aG} {base:bR}
theorem def_yr{x:aj}{st:ba}{N d:List aj}{k n:Nat}{O:List Nat}(m:Nat)(f:XF)(D:Def K mg x st)(S:Zq N d (Zg st))
  (o:∀(kV doc pm:aG)(an:Option aK)(b ct:aG)(us:List aG),us.length=d.length->gx (cV x x (Yy st) (Z2 st) (Zg st) .none kV doc pm an b ct) ⟨us,[]⟩=pure (d.zip us))
  (l:d.length=n) (g:N.length=m) (h:∀i∈O,n<=i)
  (c:∀(e:aK)(b:aG)(A:bU)(a:List jR)(s:aM)(H:Hp)(E:XK),Room k (A.deeper (gh x (Zg st) s.heap.objs.size e b))->VYs (Cx.rdy (Su (CX1 P w) P w K mg base N x (Zg st) e b A a s H E) E) O E (Z2 st) f) :
  CalX P w K mg base x d (spY K (fnY m f) n) (k+1):=def_y m f D S o l g h λe b A a s H E j=>PSs.rdy Fm (c e b A a s H E j)
end
section
variable {X:Cx} {O W:List Nat} {k n i:Nat} {x y cx nm:aj} {ps:List aj} {R:List PV->Option aj} {e:bB} {es:List bB} {fs:List XE} {p py cp ep np hp pos:da} {b₀:ba} {suite:List ba} {f:XS} {Cb:aK} {o6:List gW}
theorem Zb6{a:List ba}{e:gW}{hs:List gW}(g:VSs X.nox O W a f):VS X O W (.Try a (e::hs) [] [] pos) f:=by
 intro j s U H D I h;refine wpAny_Try_except (bW (g j s U H D (I.wish _) h) (λi s1 q=>?_) λ_ _ z=>z.elim)
 cases i with
 | next=>
  obtain⟨b,c,d,z⟩:=q;exact gX ⟨b,c,d.unwish,z⟩
 | ret u=>
  obtain⟨v,b,c,d,r,z⟩:=q;exact⟨v,b,c,d.unwish,r,z⟩
 | brk=>
  obtain⟨b,c,d,z⟩:=q;exact⟨b,c,d.unwish,z⟩
 | cont=>
  obtain⟨b,c,d,z⟩:=q;exact⟨b,c,d.unwish,z⟩
noncomputable def sOr(f g:XS):XS:=λs=>match f s with
 | some o=>ag o
 | none=>g s
theorem Zju{st:ba}{g:XS}{b a:List Nat}(m:VS X O b st f)(n:VS X O a st g):VS X O (b++a) st (sOr f g):=by
 intro h s U H D I ⟨d,fps,i,l,r,e,k⟩;have s1:∀j,j∉b++a->j∉b:=λj c z=>c (bA _ z);have s2:∀j,j∉b++a->j∉a:=λj c z=>c (aq _ z);unfold sOr at e;split at e
 ·rename_i o p;cases e;exact m h s U H D I ⟨d,fps,i,_,r,p,k.same (λj _=>⟨rfl,Kep.refl _⟩) s1⟩
 ·exact n h s U H D I ⟨d,fps,i,_,r,e,k.same (λj _=>⟨rfl,Kep.refl _⟩) s2⟩
end
noncomputable def nms:List aj:=["NoWeb","Apart","NoText","NoOrder","TooMany","NotSettled","NoTree","NoTotal","NoEnds","NoRow","NoName"]
abbrev veT:List aG:=[.type "ValueError",.type "Exception",.type "BaseException",.type "object"]
noncomputable def Zjv(i:Nat):ba->ba
 | .ClassDef _ _ _ b _ _ _ _ _ _ _=>b.getD i (.Pass ⟨0,0,0,0⟩)
 | s=>s
structure QF(nm:aj)(P:ay)(w:b9)(K:aE)(mg:aj->Option aG)(base:bR)(C Cb:aK):Prop where
 no:dD K bX nm=ag (ag (.ref C))
 mgo:mg nm=ag (.ref C)
 cf:Zb0 P w K mg base C (Wi nm) veT "ValueError.__new__"
 fl:Zgx K nm C
 bl:belowIn K C Cb=aC
 cls:∀cx∈nms,∃D,mg cx=ag (.ref D)/\cz K (.ref C) (.ref D)=ag (decide (cx=nm))
 ve:cz K (.ref C) (.type "ValueError")=ag aC
noncomputable def sEx(f:XE):XS:=λs=>(f s).map λ_=>.nx s
theorem Zes{X:Cx}{O:List Nat}{e:bB}{f:XE}{a:da}(h:VE X e f)(hs:eK e aA a.line X.env=pure aB:=by rfl):VS X O [] (.Expr e a) (sEx f):=PS.imp (YH h hs) λD U H ⟨m,fps,s,b,r,e,k⟩=>by obtain⟨l,d,rfl⟩:=map_some e;exact⟨λ_=>False,s,l,λ_ z=>z.elim,r.env,d,λv g i c is _=>k fps U g (r.grow c) λj _=>⟨rfl,Kep.refl _⟩⟩
noncomputable def TQ(n0:aj)(fy:XF):Prop:=∀s m l,fy s=ag (m,l)->m=n0
section
variable {n0:aj}
theorem Jg{n:aj}{f:XE}(h:n=n0):TQ n0 (RW n f):=λs m l e=>by
 obtain⟨a,_,e⟩:=Zd e;split at e
 ·cases e;exact h
 ·cases e
theorem Jh:TQ n0 yNo:=λs m l e=>nomatch e
theorem Bt{b:XT}{f g:XF}(d:TQ n0 f)(a:TQ n0 g):TQ n0 (yIf b f g):=λs m l e=>by
 obtain⟨c,_,e⟩:=Zd e;split at e
 ·exact d s m l e
 ·exact a s m l e
theorem EU{f1:XF}{f:XS}{g:XF}(b:TQ n0 f1)(a:TQ n0 g):TQ n0 (Jc f1 f g):=λs m l e=>by
 unfold Jc at e;split at e
 ·rename_i c d;cases e;exact b s m l d
 ·split at e
  ·exact a _ m l e
  ·cases e
theorem Ji{m:Nat}{a:XF}(h:TQ n0 a):∀ls n l,fnY m a ls=ag (n,l)->n=n0:=λls n l e=>h _ n l e
end
noncomputable def Mm(R:List PV->Option (aj×PV))(fs:List XE):XF:=λs=>(SG fs s).bind R
section
variable {X:Cx} {O W:List Nat} {E:XK} {k n:Nat} {x:aj} {ps:List aj} {R:List PV->Option (aj×PV)} {e:bB} {es:List bB} {fs:List XE} {p cp ep:da}
theorem Zb7(CX:CalX X.prog X.w X.K X.mg X.base x ps (spY X.K R n) k)(hr:Room k X.A)(S:Gl X x)(T:VA X.nox (e::es) fs)(DX:IK X E)
  (A:eK (.Call (.Name x p) (e::es) [] cp) aA ep.line X.env=pure aB:=by rfl) (hn:fs.length=n:=by rfl)
  (B:(x==("__debug__" : aj))=aB:=by decide) (he:aO (e::es) X.env=(aB,eval e X.env)::aO es X.env:=by rfl) (y:(ck cp (aO es X.env)).any (·.1)=aB:=by rfl) :
  VY X O E (.Expr (.Call (.Name x p) (e::es) [] cp) ep) (Mm R fs):=by
 intro L s U H D I ⟨H0,fps,sp,m,lv,r,Z,q⟩;obtain⟨ls,J,e3⟩:=Zd Z;obtain⟨fa,fd,G,l,w,F⟩:=CX.ex;refine ka ?_ I.quiet A;refine cX (Wg I S G ?_ B);refine gg I.ok.mod.kin l ?_ he y;refine bW (T cp L s U H (λvs a=>Same H a/\∃d,Iss X.K a ls vs d) (I.wish _) ⟨λ_=>False,sp,ls,λ_ z=>z.elim,r.env,J,λvs a d s1 j _=>⟨s1,d,j⟩⟩) (λi s1 ⟨vs,a,b,M,W,d,j⟩=>?_) λ_ _ z=>z.elim;have b:=b.unwish;have g:vs.length=n:=by rw[j.len,W8 J,hn]
 have f:spY X.K R n vs a (λ_ _=>False) E:=⟨g,ls,d,m,lv,j,e3,λC dx N u z H' hc t Y a2 a3 Q=>q C dx N u z H' hc (r.same.trans (W.trans t)) Y a2 a3 Q⟩;have hl:(i++[]).length=ps.length:=by rw[cL,<-M.length,g];have:=F.len _ _ _ _ f;omega
 have h:=w s1 i b.kIn hl;rw[cL] at h;refine⟨b.kIn,g9 (fK (F.run X.A X.stack s1 a ⟨i,[]⟩ i vs _ _ hr b.env0 h M f) λo P c=>?_)⟩
 cases o with
 | ok fl=>
  cases fl with
  | ret u=>obtain⟨_,_,_,_,_,_,_,z⟩:=c;exact z.elim
  | next=>exact bw c
  | brk=>exact bw c
  | cont=>exact bw c
 | error v=>exact Zbv DX (λ_ _ _ z=>z) L U a s1 v P b c
theorem IU{a:aj}(h:∀ls m l,R ls=ag (m,l)->m=a):TQ a (Mm R fs):=λs m l e=>by obtain⟨ls,_,e⟩:=Zd e;exact h ls m l e
end
end VX
namespace PW
open PySem L2 VL
noncomputable def Bu:XS:=(Zm (Zu 1 (X9 []))
  (Zm (YN [1] (Z8 [Zc ZZ [Za 0]]) (.one 2) (YN [1] (Va [Zk Z6 (Za 2) (eC (.int 1)),Zc ZZ [Za 0]]) (.one 3) (Wm 1 (Zt 1 [2,3] (Z8 [Zk ZJ (Zk ZJ (Za 0) (Za 2)) (Za 3)]) (.one 0) ZD (eP (Wk [Za 1,Za 2]))))))
  (ZO (Za 1))))
noncomputable def Ra:List PV->Option PV:=YL 4 Bu
noncomputable def EV:XS:=(Zm (Zu 2 (Zk IC (X9 [eC (.int 0)]) (Zc ZZ [Za 0])))
  (Zm (YN [2] (Ts (Za 1)) (.one 3) (T6 2 (Za 3) (Zk Z6 (Zk ZJ (Za 2) (Za 3)) (eC (.int 1)))))
  (ZO (eP (Zc ZV [Za 2])))))
noncomputable def Ta:List PV->Option PV:=YL 4 EV
noncomputable def Jj:XS:=(Zm (Zu 2 (Zc Ra [Za 0]))
  (ZO (Zt 1 [2,1] (Z8 [Zc ZZ [Za 2]]) (.one 0) (xB (Zk (Nw aC) (Za 0) (Za 2))) (eP (Zk ZJ (Za 1) (Za 0))))))
noncomputable def Vf:List PV->Option PV:=YL 3 Jj
end PW
namespace VX
open PySem PySem.Spec PyProof.Rows L2
section
variable {X:Cx} {k:Nat} {e:bB} {te:TE} {y y2:aj} {p1 p2 p3 p4:da} {jj j2:Nat}
theorem Bv(E:Room k X.A)(Z:PE X e te)(hy:y.length<=1000:=by decide)(O:y2.length<=1000:=by decide):PE X (.JoinedStr [.Constant (.str y) jj p1,.FormattedValue e (-1) aA p2,.Constant (.str y2) j2 p4] p3) (Zeo te):=by
 intro f s U H Q I h;refine wpAny_JoinedStr ?_;refine Yf (DU f s U H (λv j=>v = .str y/\j=H) I ⟨rfl,rfl⟩) λu s1 ⟨v,j,Y,r,C,B⟩=>?_;subst C B;obtain⟨t,rfl⟩:=r;have D:(jm++y).length=y.length:=by rw[fA];show 0+_=_;omega
 have sz:(2000:Nat)+200000<=sizeLine:=by decide
 refine⟨y,t,rfl,by omega,?_⟩;refine wpAny_FormattedValue_plain ?_;refine Yf (Z f s1 U j _ Y h) λu s2 ⟨v,l,w,r,P,q⟩=>?_
 have d:∀(x:aj)(p:aM),x.length<=200000->Inv X f U l p->av (model X.prog X.w) X.A (eval (.Constant (.str y2) j2 p4) X.env) (λv A=>∃(b:aj) (F:Tok),v=oG b F/\(jm++y++x++b).length<=sizeLine/\(jm++y++x++b).length<=sizeLine/\EP X f U Q (.str (jm++y++x++b) A.toks) { A with toks:=A.toks+1 }) X.xe p:=λx p R g=>by
  refine Yf (DU f p U l (λv j=>v = .str y2/\j=l) g ⟨rfl,rfl⟩) λu A ⟨v,H3,L,r,C,B⟩=>?_;subst C B;obtain⟨W,rfl⟩:=r;refine⟨y2,W,rfl,?_,?_,.str _,_,L.tok _,⟨_,rfl⟩,q _⟩
  ·rw[fA,fA,D];omega
  ·rw[fA,fA,D];omega
 have c:∀(x:aj),x.length<=200000->(jm++y++x).length<=sizeLine:=λx R=>by rw[fA,D];omega
 rcases P with rfl | ⟨i,rfl,o⟩ | ⟨a,is,rfl,M,hl,hs⟩
 ·obtain rfl:=r;refine wpAny_formatField_none ?_;have g:=w.kept (t':=s2.toks+1+1) λ_ _ z=>z;exact⟨"None",_,rfl,c _ (by decide),d "None" _ (by decide) g⟩
 ·obtain⟨F,rfl⟩:=r;refine formatField_int_small o ?_;have:=mC (by decide) o;exact⟨toString i,_,rfl,c _ (by rw[iK];omega),d (toString i) _ (by rw[iK];omega) (w.tok _)⟩
 ·obtain rfl:=r;obtain⟨_,oW,rv,ob,S,T,n,hd⟩:=(w.hok a _ M);have G:Reads s2.heap (.ref a) (.tuple (is.map fO)) []:=.tuple S T hd (Mk (by simpa using rv))
  have sl:(oQ (is.map fO)).shown.length<=3+is.length*(1930+2):=by
   show(tupleText (kU (is.map fO))).length<=_;rw[EM];have:=Lk (ts:=is.map λi=>kG (toString i)) (m:=1930) λt N=>by obtain⟨i,o,rfl⟩:=bJ.mp N;have:=mC (by decide) (hs i o);rw[iK];omega
   rwa [aL] at this
  have hu:=E.un;have dp:=EN is
  refine formatField_of_reads G (Lh hs) (λz=>by rw[show(oQ (is.map fO)).hasDict=jZ (is.map fO) from rfl,IP] at z;cases z) E.gd (by
   simp only[oP];omega) (λ_ _ z=>z) (λh' u tk J=>?_) (by omega)
  have g:Inv X f U l { s2 with heap:=h',toks:=tk }:=w.kept J;exact⟨_,u,rfl,c _ (by omega),d _ _ (by omega) g⟩
end
end VX
namespace VX
open PySem PySem.Spec PyProof.Rows L2 VL
structure QFL(nm:aj)(P:ay)(w:b9)(K:aE)(mg:aj->Option aG)(base:bR)(C:aK):Prop where
 no:dD K bX nm=ag (ag (.ref C))
 mgo:mg nm=ag (.ref C)
 cf:Zb0 P w K mg base C (Wi nm) veT "ValueError.__new__"
 fl:Zgx K nm C
structure Q7(nmC:aj)(P:ay)(wo:b9)(K:aE)(mg:aj->Option aG)(base:bR)(C Cb:aK):Prop where
 f:QFL nmC P wo K mg base C
 sb:belowIn K C C=aC
section
variable {X:Cx} {O W:List Nat} {nmC:aj} {C Cb:aK} {k n i:Nat} {x y nm:aj} {ps:List aj} {R:List PV->Option (aj×PV)} {e:bB} {es:List bB} {fs:List XE} {p py cp ep np hp pos:da} {b₀:ba} {suite:List ba} {f:XS} {o6:List gW}
theorem Bw(Q:Q7 nmC X.prog X.w X.K X.mg X.base C Cb)(z:CalX X.prog X.w X.K X.mg X.base x ps (spY X.K R n) k)(s:∀ls m l,R ls=ag (m,l)->m=nmC)(y:Room k X.A)(v:Gl X x)(w:VA X.nox (e::es) fs)(B:X.ex=[])(d:X.stack=X.env::X.outer)(b:X.env.frame=ag X.env.locals)
  (D:X.N.Nodup) (t:X.N[i]?=ag nm) (u:X.env.scope.names.lookup nm=ag .local) (c:Gl X nmC)
  (hs:∀e,VSs (Cx.mark X e) O W (b₀::suite) f) (j:i∉O) (o:eK (.Call (.Name x p) (e::es) [] cp) aA ep.line X.env=pure aB:=by rfl) (A:fs.length=n:=by rfl)
  (q:(x==("__debug__" : aj))=aB:=by decide) (a:(nmC==("__debug__" : aj))=aB:=by decide) (E:aO (e::es) X.env=(aB,eval e X.env)::aO es X.env:=by rfl) (g:(ck cp (aO es X.env)).any (·.1)=aB:=by rfl) :
  VS X O (i::W) (.Try [.Expr (.Call (.Name x p) (e::es) [] cp) ep] (.ExceptHandler (ag (.Name nmC np)) (ag nm) (b₀::suite) hp::o6) [] [] pos) (Jd R fs i f):=
 Zb1 z y v w B d b D t u c Q.f.mgo Q.f.fl.ec.kt (λls m l h=>by
  obtain rfl:=s ls m l h;exact⟨C,Q.f.no,Q.f.fl.ec.kt,Q.sb⟩) hs j o A q a E g
end
end VX
namespace VL
open PySem PySem.Spec PyProof.Rows
noncomputable def Zb8(N:List Int)(k:Int):List Int:=if k∈N then N else N++[k]
end VL
namespace VL
open PySem PySem.Spec PyProof.Rows L2
noncomputable def Zb9(K:aE):V->List V->Hp->VK->Prop:=λx vs H Q=>∃(p:aK) (ns:List Int) (k:Int),x = .ref p/\vs=[.int k]/\SqL K H p (ns.map V.int)/\Q (.int ((ns.count k:Nat):Int)) H
noncomputable def eqK(k:Int):aG->Bool
 | .int c _=>c==k
 | _=>aB
theorem OE:∀{ns:List Int}{oW:List aG},Vals (ns.map V.int) oW->∀k:Int,oW.countP (eqK k)=ns.count k
 | [],oW,r,k=>by cases r;rfl
 | n::ns,oW,r,k=>by
  rw[ak] at r
  cases r with
  | cons r1 r2=>
   obtain⟨t,rfl⟩:=r1;rw[List.countP_cons,OE r2 k,fT];rfl
theorem EW{X:Cx}:MtR X "list.count" (Zb9 X.K):=by
 intro N s U H x vs v J Q I C G h;obtain⟨p,m,k,rfl,rfl,E,q⟩:=h;cases C;obtain⟨u,rfl,b⟩:=Ue G;obtain⟨t,rfl⟩:=b;obtain⟨d,r,pl,O⟩:=I.list E;obtain⟨o,n,f,D,hd,hs⟩:=pl;obtain⟨B,dd,c,l⟩:=o;subst D hd hs;refine fg F.slot_list_count ⟨_,f,rfl⟩ F.entry_list_count (F.args_list_count_2 _ _) (SeqAt.list_countAt p d.toArray n aA l (.int k t) (eqK k)) ⟨f,λy z=>?_,?_⟩
 ·have a:y∈d:=by simpa using z
  obtain⟨j,w,e⟩:=cq a;have A:=r.length;rw[aL] at A;obtain⟨L,g,b⟩:=r.get (i:=j) (x:=.int m[j]) (by simp);obtain⟨M,rfl⟩:=b;rw[aJ w,e] at g;cases g;exact lu _ _ _ _
 ·rw[OE r k];exact⟨.int _,H,I.tok _,⟨_,rfl⟩,q⟩
noncomputable def Tb:PV->PV->Option PV
 | .lst l,.int k=>(Yj l).map λns=>PV.int ((ns.count k:Nat):Int)
 | _,_=>aA
section
variable {X:Cx} {o e:bB} {fo fe:XE} {apos o7:da}
theorem Mn(B:VE X o fo)(D:VE X e fe)
  (c:j6 o "count" X.env (eval o X.env)=eval o X.env:=by rfl)
  (d:((ck o7 (aO [e] X.env)).all (λx=>!x.1)&&(nU o7 (kb [] X.env)).all (λx=>x.1.isSome)
   &&decide (([e]:List bB).length+([]:List nM).length+(if([]:List nM).isEmpty then 0 else 1)<30))=aC:=by rfl)
  (b:(apos.endLine==o7.line)=aC:=by rfl) (hs:aO [e] X.env=(aB,eval e X.env)::aO [] X.env:=by rfl) (a:(ck o7 (aO [] X.env)).any (·.1)=aB:=by rfl) :
  VE X (.Call (.Attribute o "count" apos) [e] [] o7) (Zk Tb fo fe):=
 PE.imp (Vp F.plainAttrs_list F.slot_list_count F.type_list_count EW B (VN D MW hs) c d b hs a) λU H Q ⟨g,s,l,hd,env,e,k⟩=>by
  obtain⟨j,N,u,t,e⟩:=Vr e;refine⟨g,s,j,hd,env,u,λv M L s1 E O=>?_⟩;unfold Tb at e;split at e
  ·obtain⟨n,A,rfl⟩:=map_some e;have h:=Z7 A;subst h;obtain⟨p,xs,C,rfl,f,m,_⟩:=E.lst_inv;obtain⟨rfl,rfl⟩:=m.iL;refine⟨.inl ⟨rfl,_,.inl (.inl f)⟩,g,s,[_],λq G=>Same.mut s1 (hd q G),env.mono s1,by show(fe s).bind _=_;rw[t];rfl,λvs I C s2 i J=>?_⟩;obtain⟨w,rfl,y⟩:=i.one_inv;obtain⟨rfl,_⟩:=y.int_inv;exact⟨p,n,_,rfl,rfl,.inl (.inl (s2 _ _ f)),k _ _ [] (s1.trans s2) (Is.int _) λr z=>by simp at z⟩
  ·cases e
end
theorem Inv.freezeL{X:Cx}{h:List (aK×cg)}{U:RJ}{H:Hp}{s:aM}{d:aK}{xs:List V}{o:cg}(I:L2.Inv X h U H s)(hd:H d=ag (.lst xs))(i:s.heap.get? d=ag o) :
  L2.Inv X h U (upd H d (.frz o (.lst xs))) s:=by
 have ne:∀b u,H b=ag u->(∀k,u≠.lst k)->b≠d:=λb u q n z=>by rw[z,hd] at q;exact n _ (bG q).symm
 have j:∀b,H b=aA->b≠d:=λb q z=>by rw[z,hd] at q;cases q
 have un:Un X.fs [] H (upd H d (.frz o (.lst xs))) s.heap s.heap:=
  ⟨λb o q _ _ _=>q,λb o q _ _ _=>⟨o.slots,q⟩,λb o q n _=>by rw[upd_ne (j b n)];exact n,λb o q _=>⟨o,q⟩,
   λb xs q=>by rw[upd_ne (ne b _ q λ_ z=>nomatch z)];exact q,λb o u q=>by rw[upd_ne (ne b _ q λ_ z=>nomatch z)];exact q,λb l q=>⟨#[],by rw[upd_ne (ne b _ q λ_ z=>nomatch z),q];simp⟩⟩
 have f:HOk X.prog X.w (upd H d (.frz o (.lst xs))) s.heap:=λb u q=>by
  have a:∀c y,H c=ag (.own y)->upd H d (.frz o (.lst xs)) c=ag (.own y):=λc y z=>by rw[upd_ne (ne c _ z λ_ z=>nomatch z)];exact z
  have e:∀c xs',H c=ag (.tup xs')->upd H d (.frz o (.lst xs)) c=ag (.tup xs'):=λc y z=>by rw[upd_ne (ne c _ z λ_ z=>nomatch z)];exact z
  by_cases g:b=d
  ·subst g;rw[Zl] at q;cases q;exact⟨i,(I.hok b _ hd).stay (λ_ _ _ z=>z) (λc z=>a c _ z) e λc u z=>by rw[upd_ne (ne c _ z λ_ z=>nomatch z)];exact z⟩
  ·rw[upd_ne g] at q;exact(I.hok b u q).stay (λ_ _ _ z=>z) (λc z=>a c _ z) e λc u z=>by rw[upd_ne (ne c _ z λ_ z=>nomatch z)];exact z
 have:=I.un (t':=s.toks) un f;exact this
noncomputable def EX(f:XE):XE:=λs=>(f s).bind λl=>match l with
 | .lst m=>(Yj m).map λns=>.cst (iL ns)
 | _=>aA
theorem IV{X:Cx}{e:bB}{f:XE}(h:VM X e f):VE X e (EX f):=by
 intro G s U H Q I ⟨N,st,l,hd,env,F,k⟩;obtain⟨m,A,i⟩:=Zd (F)
 cases m with
 | lst ms=>
  obtain⟨g,C,B⟩:=map_some (i);subst B;have t:=Z7 C;subst t;refine Yf (h G s U H (λv d=>∃p,v = .ref p/\d p=ag (.lst (g.map V.int))/\Same H d/\H p=aA) I ⟨st,.lst (iL g),env.free,A,λv O P c is M y=>?_⟩) λu s1 ⟨v,d,j,J,p,D,a,c,E⟩=>?_
  ·obtain⟨p,xs,R,rfl,a,x,rfl⟩:=is.lst_inv;obtain⟨rfl,rfl⟩:=x.iL;exact⟨p,rfl,a,c,(y p (by simp)).1⟩
  ·subst D;obtain⟨z,L,n,r,S,e⟩:=j.lstM a;refine⟨.ref p,_,Inv.freezeL j a e,J,k _ _ [] (λb o q=>?_) ?_ (by simp)⟩
   ·rw[upd_ne (λw=>by rw[w,E] at q;cases q)];exact c b o q
   ·unfold Is;exact⟨p,_,rfl,.inl ⟨_,Zl⟩,Iss.ofInts _⟩
 | _=>cases i
noncomputable def Zjx(K:aE):R2:=λx y H Q=>∃l b xs zs,x = .ref l/\y = .ref b/\SqL K H l xs/\SqL K H b zs/\xs.length+zs.length<=sizeLine/\∀p,H p=aA->Q (.ref p) (upd H p (.lst (xs++zs)))
theorem Zca{X:Cx}:Sm X (dj .Add) (Zjx X.K):=by
 intro O s U H x y v u Q I D p h;obtain⟨l,b,xs,J,rfl,rfl,B,G,P,q⟩:=h;cases D;cases p;obtain⟨e,r,pl,z⟩:=I.list B;obtain⟨a,o,g,L⟩:=I.list G;obtain⟨⟨C,dd,j,M⟩,n,m,F,hd,hs⟩:=pl;obtain⟨⟨k,w,data2,E⟩,t,c,f,d,i⟩:=g;have N:=r.length;have A:=o.length;subst F hd hs f d i;refine jx ⟨_,m,rfl⟩ ⟨_,c,rfl⟩ noFill_list_add seq_list_add PySem.F.slot_list_add PySem.F.entry_list_add (PySem.F.args_list_add_2 _ _) (list_addW l b e.toArray a.toArray n t _ _ _ _ (by rw[aT,aT];omega)) ⟨m,c,?_⟩;have ea:e.toArray++a.toArray=(e++a).toArray:=by simp
 rw[ea];exact⟨.ref _,_,I.lnew (r.append o) (by rw[aY];omega),rfl,q _ I.fresh⟩
noncomputable def Bx:PV->PV->Option PV
 | .cst m,.lst n=>(Yj m).bind λns=>(Yj n).bind λms=>if ns.length+ms.length<=10000 then ag (.lst (iL (ns++ms))) else aA
 | _,_=>aA
theorem Zcb{X:Cx}{a b:bB}{j fb:XE}{d:da}(w:VE X a j)(F:VM X b fb):VM X (.BinOp a .Add b d) (Zk Bx j fb):=PE.imp (Gq Zca w F) λU H Q ⟨s,l,env,e,k⟩=>by
 obtain⟨g,i,A,v,e⟩:=Vr e;refine⟨λ_=>False,s,g,λ_ z=>z.elim,env,A,λx P f1 s1 G _=>⟨s,i,env.mono s1,v,λy L R s2 t S O=>?_⟩⟩
 cases g with
 | cst m=>cases i with
  | lst n=>
   obtain⟨M,o,e⟩:=Zd (e);obtain⟨N,J,e⟩:=Zd e;split at e
   case isFalse=>cases e
   rename_i I;cases e;have:=Z7 o;subst this;have:=Z7 J;subst this;obtain⟨p,xs,rfl,B,u⟩:=G.cst_inv;obtain⟨C,T,E,rfl,c,f,rfl⟩:=t.lst_inv;obtain⟨rfl,rfl⟩:=u.iL;obtain⟨rfl,rfl⟩:=f.iL;refine⟨p,C,_,_,rfl,rfl,(B.tr (Same.tk2 s2)).sq,.inl (.inl c),by simp only[aL];exact cO (lt_size I),λq h=>?_⟩;refine k _ _ [q] (s1.trans (s2.trans (Same.new h _))) ?_ (by simp) λr D=>?_
   ·rw[<-bM];exact Is.lst Zl (Iss.ofInts _)
   ·rw[aN.mp D];exact⟨Same.off (s1.trans s2) h,by rw[Zl];exact bY⟩
  | _=>cases e
 | _=>cases e
noncomputable def By(fk fv:XE):XE:=λs=>(fk s).bind λk=>(fv s).bind λv=>(M1 k).bind λkt=>if ZT v=aC then ag (.dK [kt] [v]) else aA
theorem Bz{X:Cx}{e f:bB}{g:da}{i fv:XE}(A:VE X e i)(E:VE X f fv):VM X (.Dict [ag e] [f] g) (By i fv):=PE.imp (Za0 (Ck A E Zaz) rfl rfl (λz=>nomatch z) (by simp)) λU H Q ⟨s,l,env,e,k⟩ p d=>by
 obtain⟨kk,B,e⟩:=Zd e;obtain⟨v,C,e⟩:=Zd e;obtain⟨j,D,e⟩:=Zd e;split at e
 case isFalse=>cases e
 rename_i pl;cases e;have c:Same H (upd H p (.dK [])):=Same.new d _;refine⟨λ_=>False,s,kk,λ_ z=>z.elim,env.mono c,B,λz G F s1 o _=>⟨λ_=>False,s,v,λ_ z=>z.elim,env.mono (c.trans s1),C,λy h I s2 n _=>?_⟩⟩;obtain⟨rfl,rfl⟩:=Q4 D o;have w:=Is.pure _ _ _ pl n;subst w;have b:=s1.trans s2;have m:=b _ _ Zl;refine⟨m,[(j,y)],rfl,by simp,?_⟩;have x:Uq (h p):=by rw[m];exact bY
 have t:Same H (upd h p (.dK [(j,y)])):=λq u a=>by
  have ne:q≠p:=λz=>by rw[z,d] at a;cases a
  rw[upd_ne ne];exact b q u (c q u a)
 refine k (.ref p) _ [p] t (Is.dK Zl rfl ?_) (by simp) λq a=>?_
 ·exact Iss.one (Is.tr (TK.upd' x) _ _ _ (λq a=>by simp at a) n)
 ·rw[aN.mp a];exact⟨d,by rw[Zl];exact bY⟩
end VL
namespace L2
open PySem PySem.Spec PyProof.Rows
noncomputable def YV(X:Cx)(N':List aj)(scope:du)(cl:List (aj×aK))(C:aK)(s:aM)(H:Hp)(ex:List aK):Cx:=
 { X with N:=N',s₀:=s,H₀:=H,env:=jo scope cl C X.env,outer:=X.stack,ex:=ex,fn:=λ_=>aC,pn:=[],xe:=λ_ _=>False }
theorem Y3{x y:aj}{a c:aK}(h:([(x,a)]:List (aj×aK)).lookup y=ag c):c=a:=by grind
theorem Vg{x y:aj}{a c:aK}(h:([(x,a)]:List (aj×aK)).lookup y=ag c):y=x:=by grind
structure Vv(scope:du)(x:aj):Prop where
 kind:scope.kind = .function
 cf:∀n,mh n scope.names []=[(x,n)]
 pc:∀h,pushCells h scope.names=h.push { cls:=.type "cell",data:=.cell aA }
 nofree:∀y∈scope.names,y.2≠.free
 cells:∀y∈scope.names,y.2 = .cell->y.1=x
 names:∀y∈scope.names,y.2 = .local->scope.names.lookup y.1=ag .local
theorem BA{M:mx}{A:bU}{E:aG->aM->Prop}{s:aM}{b:du}{a:aK}{d:aj}{c:jR}{x:aj}{Q:jR->aM->Prop}(S:Vv b x)
  (i:Q (newEnv b s.heap.objs.size a [(x,s.heap.objs.size+1)] d aA .none (ag c) jG) { s with heap:=(s.heap.push { cls:=.type "dict",data:=.dict #[] }).push { cls:=.type "cell",data:=.cell aA } }) :
  av M A (jM b a [] [] d aA .none (ag c)) Q E s:=by
 simp only[jM,lg,if_true];refine aI (wpAny_alloc ?_);refine aI (wpAny_layCells _ (λh f g=>by cases hkc:f==dm<;>simp[hkc]) _ _ _ _ ?_);refine aI (a9 (a9 ?_));have e:(s.heap.push { cls:=.type "dict",data:=.dict #[] }).objs.size=s.heap.objs.size+1:=cS ..;rw[S.pc];simp only[S.cf,e];exact i
section
variable {X:Cx} {tg oV iter:bB} {o9:List bB} {scope:du} {pos:da} {x:aj} {wi:TI} {g:TG} {tt:TT} {te:TE}
theorem EY{H:List (aK×cg)}{U:St}{g:Hp}{s2:aM}{s:List aK}{h₁:bR}{tk:Nat}{C:aK}(S:Vv scope x)(a:Inv X H U g s2)(D:∀b∈s,VF X H g b)(l:∀b∈s,b<s2.heap.objs.size)
  (j:s2.heap.objs.size<=C) (E:h₁.Ns C λ_=>aA) (B:h₁.IsCell (C+1) aA) (q:∀b o,s2.heap.get? b=ag o->h₁.get? b=ag o) :
  Inv (YV X [x] scope [(x,C+1)] C s2 g s) [] (Z4 1 [] U) g { s2 with heap:=h₁,toks:=tk }:=by
 have A:=a.stkSub
 have t:(YV X [x] scope [(x,C+1)] C s2 g s).Ok:=by
  refine⟨a.ok.mod,S.kind,a.ok.glob,a.ok.blt,j,λy z c F f=>(Vg F).trans (Vg f).symm,λy w=>?_,λy c _ e=>?_,a.ok.hd,a.ok.frames,.inl rfl,λb d=>⟨?_,λy c e=>?_⟩,a.bs,?_,λb o e d=>?_,λb d z=>?_,a.stack,a.stkFree,a.ok.tab.un a.base,λ_ z=>absurd rfl z⟩
  ·have w:=w
   have I:y=x:=by
    have:∃k',(relabel scope X.env).names.lookup y=ag k'/\(k' = .cell\/k' = .free):=by
     rcases w with h | h
     ·exact⟨_,h,.inl rfl⟩
     ·exact⟨_,h,.inr rfl⟩
    obtain⟨k',e,u⟩:=this;obtain⟨k,G⟩:=Wh e;have J:=Xi (env:=X.env) G;have e:(scope.names.map λ(n,k)=>if(k==bj&&X.env.scope.kind==.function&&X.env.kindOf n==ag .cell) then(n,dm) else(n,k)).lookup y=ag k':=e;rw[J] at e;have m:=cU G
    cases k with
    | free=>exact absurd rfl (S.nofree _ m)
    | cell=>exact S.cells _ m rfl
    | _=>simp at e;subst e;rcases u with z | z<;>cases z
   refine⟨C+1,?_⟩;show([(x,C+1)]:List (aj×aK)).lookup y=_;rw[I];simp[bZ]
  ·show s2.heap.objs.size<=c;rw[Y3 e];exact iG j
  ·exact az (aZ (l b d) j)
  ·rw[Y3 e];exact dk (aZ (l b d) (iG j))
  ·exact bO a.ok.bsz a.sz
  ·rcases(D b d).2.2.2.1 with z | z
   ·exact a.ok.noex b o e z
   ·exact absurd (aZ (aP (a.ok.bs b o e).1) z) (bu _)
  ·rcases aX.mp (A b z) with e | e
   ·exact(D b d).2.1 e
   ·exact(D b d).2.2.1 e
 refine⟨t,rfl,a.bare,Un.kept q,⟨_,E,λi y v F f M=>?_⟩,λy c e=>?_,a.hok.fresh j,λy c e=>?_,λp L=>absurd (show p∈([]:List (aK×cg)) from L) (by simp),a.hok.kept q,rfl⟩
 ·have f:=f
  cases i with
  | zero=>cases f
  | succ i=>cases f
 ·rw[Y3 e];exact⟨_,B⟩
 ·rw[Y3 e];exact a.hok.fresh (by omega)
theorem Jk{F:List (aK×cg)}{U:St}{l:Hp}{s2:aM}{I:List aK}{O:aK}{P:Nat->bR->Prop}{J:It}{Fin:List V->Hp->Prop}{Y:aG->aK->nS->aM->Prop}{E:aG->aM->Prop}
  (h:X.calm=aC) (S:Vv scope x)
  (hg:∀cl C s H ex,PG (YV X [x] scope cl C s H ex) tg g) (ht:∀cl C s H ex,Ij (YV X [x] scope cl C s H ex) o9 tt) (he:∀cl C s H ex,PE (YV X [x] scope cl C s H ex) oV te)
  (Q:Inv X F U l s2) (T:MF X.prog X.w X.K tg J I O P) (w:P 0 s2.heap) (R:∀b∈I,VF X F l b)
  {W:Nat->Nat->List V->Hp->Prop} {m0:Nat} (w0:W 0 m0 [] l)
  (turn:∀i m ys H,W i m ys H->ys.length<=sizeLine/\
   ((J.stop i H/\Fin ys H)\/
    (J.go i H/\∃N:List V->Hp->Prop,(∀ys' H',N ys' H'->∃m',m'<m/\W (i+1) m' ys' H')/\
     ∀x H',J.yld i H x H'->g x (Z4 1 [] U) H' λU2 l=>U2.drop 1=(Z4 1 [] U).drop 1/\tt U2 l λb Z=>if b=aC then te U2 Z λy H4=>N (ys++[y]) H4 else N ys Z)))
  (L:∀(D C:aK)(oC:cg)(m:aj->Option aG)(s':aM)(H':Hp)(ys:List V),Inv X (F++[(C,oC)]) U (upd H' D (.lst ys)) s'->s'.heap.get? C=ag oC->s'.heap.Ns C m->VF X F (upd H' D (.lst ys)) C->H' D=aA->Fin ys H'->Y (.ref D) C (.ok .next) s') :
  av (model X.prog X.w) X.A (newList []) (λacc A=>av (model X.prog X.w) X.A (jM scope X.env.globals [] [] X.env.qual aA .none (ag X.env)) (λf p=>
   gY (model X.prog X.w) X.A (.compStart (.ListComp oV [⟨tg,iter,o9,0⟩] scope pos) 0 (.ref O) acc { f with scope:=relabel scope X.env }) (Y acc f.locals) p) E A) E s2:=by
 have t:∀b∈I,b<s2.heap.objs.size:=λb B=>by obtain⟨o,e,_⟩:=T.obj 0 s2.heap w b B;exact aP e
 refine dI (BA S ?_)
 dsimp only
 generalize j:s2.heap.push { cls:=.type "list",dict:=aA,data:=.seq ([]:List aG).toArray }=G2;have G:G2.objs.size=s2.heap.objs.size+1:=by rw[<-j,cS]
 have a:=(bR.Ns.new G2 (.type "dict")).push { cls:=.type "cell",data:=.cell aA };generalize d:(G2.push { cls:=.type "dict",data:=.dict #[] }).push { cls:=.type "cell",data:=.cell aA }=h₁ at a ⊢;have ext:∀b o,G2.get? b=ag o->h₁.get? b=ag o:=λb o e=>d▸aH _ (aH _ e);have v:h₁.IsCell (G2.objs.size+1) aA:=by refine⟨{ cls:=.type "cell",data:=.cell aA },?_,rfl⟩;rw[<-d,show G2.objs.size+1=(G2.push { cls:=.type "dict",data:=.dict #[] }).objs.size from(cS ..).symm];exact af _ rfl
 generalize hCC:G2.objs.size=C at a G v ⊢;generalize k:s2.heap.objs.size=D at G ⊢;have hDC:D≠C:=by omega
 have M:∀b,b<s2.heap.objs.size->b≠C/\b≠D:=λb B=>by rw[k] at B;exact⟨az (by omega),az B⟩
 have n:∀b o,s2.heap.get? b=ag o->h₁.get? b=ag o:=λb o e=>ext b o (j▸aH _ e)
 have u:h₁.get? D=ag { cls:=.type "list",data:=.seq ([]:List aG).toArray 0 }:=by
  have e0:G2.get? D=ag { cls:=.type "list",data:=.seq ([]:List aG).toArray 0 }:=by rw[<-j,<-k];exact af _ rfl
  exact ext _ _ e0
 have I0:=λtk=>EY (tk:=tk) S Q R t (C:=C) (by omega) a v n;refine NV (s2:=s2) (h₁:=h₁) (fv:=λ_=>aC) (N:=[x]) (C:=C) (D:=D) (cl:=[(x,C+1)]) (kk:=1) (ix:=[]) h (hg _ _ _ _ _) (ht _ _ _ _ _) (he _ _ _ _ _) Q T w R w0 turn L t G k n u I0 λy c e z=>?_;have q:C+1=D:=(Y3 e).symm.trans z;omega
theorem BB(d:X.calm=aC)(u:PI X tg iter wi)(S:Vv scope x)
  (F:∀cl C s H ex,PG (YV X [x] scope cl C s H ex) tg g) (L:∀cl C s H ex,Ij (YV X [x] scope cl C s H ex) o9 tt) (Z:∀cl C s H ex,PE (YV X [x] scope cl C s H ex) oV te)
  (hs:∀x,bq iter X.env x=pure x:=by intro _;rfl):PE X (.ListComp oV [⟨tg,iter,o9,0⟩] scope pos) (PF 1 [] wi g tt te):=by
 intro o4 s U H Q I h
 have f:jL scope X.env=pure []:=by
  rw[Vm (λy j hf=>absurd hf (S.nofree y j))]
  have M:∀(l:List (aj×eV)),(∀y∈l,y.2≠.free)->WA X.env.cells l []=[]:=by
   intro l
   induction l with
   | nil=>intro _;rfl
   | cons a l ih=>
    intro h;obtain⟨n,k⟩:=a;have B:(k==bj)=aB:=by simpa using h (n,k) ao
    show WA X.env.cells l (if(k==bj)=aC then _ else [])=[];rw[oY (by rw[B];exact bx)];exact ih λy j=>h y (aR _ j)
  rw[M _ S.nofree]
 refine gU rfl hs f S.kind S.names (Yf (u o4 s U H _ I h) λv s1 A=>Yf A λw s2 G=>?_);obtain⟨it,fp,tn,J,H2,e,P,T,p,R,W,⟨m0,Y⟩,turn⟩:=G;subst e;refine Jk d S F L Z P T p R Y turn ?_;intro D C oC m s' N ys t E O c z q;refine⟨m,O,λh' i=>⟨.ref D,upd N D (.lst ys),?_,rfl,q D z⟩⟩;exact(t.unpinned).turned (λb o hb e=>i.extBut b o hb e) c.1 c.2.1 c.2.2.2.1 c.2.2.2.2.1 c.2.2.2.2.2
end
end L2
namespace VL
open PySem PySem.Spec PyProof.Rows L2
section
variable {X:Cx} {tg oV iter:bB} {o9:List bB} {scope:du} {pos:da} {fi:XL} {T:Tgt} {ft:XT} {fe:XE}
theorem BC(x:aj)(b:X.calm=aC)(g:VI X tg iter fi)(S:Vv scope x)
  (c:∀cl C s H a,PG (YV X [x] scope cl C s H a) tg (gT X.K T)) (e:∀cl C s H a,VTs (YV X [x] scope cl C s H a) o9 ft) (d:∀cl C s H a,VE (YV X [x] scope cl C s H a) oV fe)
  (f:∀i∈T.slots,i<1:=by decide) (hs:∀x,bq iter X.env x=pure x:=by intro _;rfl):VE X (.ListComp oV [⟨tg,iter,o9,0⟩] scope pos) (Zt 1 [] fi T ft fe):=
 PE.imp (BB b g S c (λcl C s H a=>(show Ij (YV X [x] scope cl C s H a) o9 (KA X.K ft) from e cl C s H a)) (λcl C s H a=>(show PE (YV X [x] scope cl C s H a) oV (tF X.K fe) from d cl C s H a)) hs) (GQ f)
end
section
variable {X:Cx} {x:aj} {ps:List aj} {k:Nat} {p pos:da}
theorem BD{D:List PV->Option PV}(C:Xd X.prog X.w X.K X.mg X.base x ps (Y0 X.K D 0) k)(o:Room k X.A)(m:Gl X x)
  (g:(x==("__debug__" : aj))=aB:=by decide):VM X (.Call (.Name x p) [] [] pos) (Zc D []):=by
 obtain⟨f,y,a,b,c,d⟩:=C.ex;refine PE.imp (Cd d o m a b c .nil Zeb g) λU H Q ⟨s,l,env,e,q⟩=>?_;obtain⟨ls,n,j⟩:=Zd e;cases n;exact⟨rfl,[],[],l,.nil,j,λv h u s2 i w t=>q v h u s2 i w t⟩
end
variable {K:aE}
noncomputable def OF(H:Hp)(e:aK):Hp:=λb=>if b=e then aA else H b
theorem Ll{H:Hp}{e:aK}:OF H e e=aA:=by unfold OF;rw[oX rfl]
theorem Xz{H:Hp}{e b:aK}(h:b≠e):OF H e b=H b:=by unfold OF;rw[oY h]
theorem Tc{H:Hp}{e b:aK}(h:H b=aA):OF H e b=aA:=by
 unfold OF;split
 ·rfl
 ·exact h
theorem Zcc{H:Hp}{e b:aK}{o:HO}(h:OF H e b=ag o):b≠e/\H b=ag o:=by
 unfold OF at h;split at h
 ·cases h
 ·rename_i n;exact⟨n,h⟩
theorem WI{H:Hp}{e b:aK}{o u:HO}(a:H e=ag o)(c:H b=ag u)(d:u≠o):b≠e:=by grind
section
variable {P:ay} {w:b9} {H H':Hp} {h h':bR} {e:aK} {eo:cg} {fs:List aK}
theorem BE(x:HOk P w H h)(c:H e=ag (.frz eo (.own 1))):HOk P w (OF H e) h:=λa o d=>by
 obtain⟨ne,d⟩:=Zcc d
 exact(x a o d).stay (λ_ _ _ q=>q) (λb q=>by rw[Xz (WI c q (by nofun))];exact q) (λb xs q=>by rw[Xz (WI c q (by nofun))];exact q)
  λb u q=>by rw[Xz (WI c q (by simp))];exact q
theorem Fs(x:HOk P w H h)(a:H e=aA)(d:h.get? e=ag eo):HOk P w (upd H e (.frz eo (.own 1))) h:=λb u q=>by
 by_cases z:b=e
 ·subst z;rw[Zl] at q;cases q;exact⟨d,_,d⟩
 ·rw[upd_ne z] at q;exact(x b u q).stay (λ_ _ _ r=>r) (λc r=>by rw[upd_ne (Zn r a)];exact r) (λc xs r=>by rw[upd_ne (Zn r a)];exact r) λc v r=>by rw[upd_ne (Zn r a)];exact r
theorem TabsH.rm{mg:aj->Option aG}{base:bR}(t:TabsH K mg base H)(d:H e=ag (.frz eo (.own 1))):TabsH K mg base (OF H e):=λq c i j=>by obtain⟨Pt,b,tk,f,a,h,g⟩:=t q c i j;exact⟨Pt,b,tk,f,by rw[Xz (WI d a (by nofun))];exact a,h,g⟩
theorem TabsH.add{mg:aj->Option aG}{base:bR}(t:TabsH K mg base H)(d:H e=aA):TabsH K mg base (upd H e (.frz eo (.own 1))):=λq c i j=>by obtain⟨Pt,b,tk,f,a,h,g⟩:=t q c i j;exact⟨Pt,b,tk,f,by rw[upd_ne (Zn a d)];exact a,h,g⟩
theorem Zcd(u:Un fs [] (OF H e) H' h h')(a:H e=ag (.frz eo (.own 1)))(c:H' e=aA):Un fs [] H (upd H' e (.frz eo (.own 1))) h h' where
 keep b o q n hf hx:=u.keep b o q (Tc n) hf hx
 slot b o q n hf hx:=u.slot b o q (Tc n) hf hx
 free b o q n hx:=by rw[upd_ne (λz=>by rw[z,a] at n;cases n)];exact u.free b o q (Tc n) hx
 there:=u.there
 tups b xs q:=by have ne:=WI a q (by nofun);rw[upd_ne ne];exact u.tups b xs (by rw[Xz ne];exact q)
 frzs b o v q:=by
  by_cases z:b=e
  ·subst z;rw[a] at q;cases q;exact Zl
  ·rw[upd_ne z];exact u.frzs b o v (by rw[Xz z];exact q)
 tbls b ps q:=by have ne:=WI a q (by nofun);obtain⟨more,z⟩:=u.tbls b ps (by rw[Xz ne];exact q);exact⟨more,by rw[upd_ne ne];exact z⟩
theorem Zgy(u:Un fs [] (upd H e (.frz eo (.own 1))) H' h h')(d:H e=aA)(j:h.get? e=ag eo)(l:e∉fs)(f:HOk P w H' h'):Un fs [] H (OF H' e) h h':=by
 have g:=u.frzs e eo _ Zl;have i:=(f e _ g).1;refine⟨λb o q n c a=>?_,λb o q n c a=>?_,λb o q n a=>?_,u.there,λb xs q=>?_,λb o v q=>?_,λb k q=>?_⟩
 ·by_cases z:b=e
  ·subst z;rw[j] at q;cases q;exact i
  ·exact u.keep b o q (by rw[upd_ne z];exact n) c a
 ·have z:b≠e:=λz=>l (z▸c);exact u.slot b o q (by rw[upd_ne z];exact n) c a
 ·by_cases z:b=e
  ·subst z;exact Ll
  ·exact Tc (u.free b o q (by rw[upd_ne z];exact n) a)
 ·have z:=Zn q d;rw[Xz z];exact u.tups b xs (by rw[upd_ne z];exact q)
 ·have z:=Zn q d;rw[Xz z];exact u.frzs b o v (by rw[upd_ne z];exact q)
 ·have z:=Zn q d;obtain⟨more,y⟩:=u.tbls b k (by rw[upd_ne z];exact q);exact⟨more,by rw[Xz z];exact y⟩
end
mutual
def YG:PV->Bool
 | .non=>aC
 | .bl _=>aC
 | .int _=>aC
 | .str _=>aC
 | .ty _=>aC
 | .exc _=>aB
 | .exf _ _=>aB
 | .clo _ _=>aB
 | .tup l=>Xs l
 | .lst l=>Xs l
 | .cst l=>Xs l
 | .dK _ l=>Xs l
 | .dT _ l=>Xs l
def Xs:List PV->Bool
 | []=>aC
 | x::r=>YG x&&Xs r
end
theorem Rd.rm{H:Hp}{e:aK}{b:cg}(a:H e=ag (.frz b (.own 1))){p:aK}{u:HO}(c:u≠.own 1)(d:∀o v,u≠.frz o v)(r:Rd H p u):Rd (OF H e) p u:=by
 rcases r with r | ⟨o,r⟩
 ·exact .inl (by rw[Xz (WI a r (d _ _))];exact r)
 ·exact .inr ⟨o,by rw[Xz (WI a r (by intro z;cases z;exact c rfl))];exact r⟩
mutual
theorem Is.rm{H:Hp}{e:aK}{k:cg}(b:H e=ag (.frz k (.own 1))):∀(l:PV)(v:V)(fp:List aK),YG l=aC->Is K H l v fp->Is K (OF H e) l v fp
 | .non,_,_,_,h=>by simpa only[Is] using h
 | .bl _,_,_,_,h=>by simpa only[Is] using h
 | .int _,_,_,_,h=>by simpa only[Is] using h
 | .str _,_,_,_,h=>by simpa only[Is] using h
 | .ty _,_,_,_,h=>by simpa only[Is] using h
 | .exc _,_,_,hp,_=>by simp[YG] at hp
 | .exf _ _,_,_,hp,_=>by simp[YG] at hp
 | .clo _ _,_,_,hp,_=>by simp[YG] at hp
 | .tup l,v,fp,hp,h=>by simp only[Is] at h ⊢;obtain⟨p,xs,c,a,d⟩:=h;exact⟨p,xs,c,by rw[Xz (WI b a (by nofun))];exact a,Iss.rm b l xs fp (by simpa only[YG] using hp) d⟩
 | .lst l,v,fp,hp,h=>by simp only[Is] at h ⊢;obtain⟨p,xs,f,c,a,d,g⟩:=h;exact⟨p,xs,f,c,by rw[Xz (WI b a (by nofun))];exact a,Iss.rm b l xs f (by simpa only[YG] using hp) d,g⟩
 | .cst l,v,fp,hp,h=>by
  simp only[Is] at h ⊢;obtain⟨p,xs,c,a,d⟩:=h;refine⟨p,xs,c,?_,Iss.rm b l xs fp (by simpa only[YG] using hp) d⟩;rcases a with⟨o,a⟩ | a
  ·exact .inl ⟨o,by rw[Xz (WI b a (by intro z;cases z))];exact a⟩
  ·exact .inr a
 | .dK ks l,v,fp,hp,h=>by simp only[Is] at h ⊢;obtain⟨p,j,f,c,a,i,d,g⟩:=h;exact⟨p,j,f,c,Rd.rm b (λz=>HO.noConfusion z) (λ_ _ z=>HO.noConfusion z) a,i,Iss.rm b l _ f (by simpa only[YG] using hp) d,g⟩
 | .dT ks l,v,fp,hp,h=>by simp only[Is] at h ⊢;obtain⟨p,j,f,c,a,i,d,g⟩:=h;exact⟨p,j,f,c,Rd.rm b (λz=>HO.noConfusion z) (λ_ _ z=>HO.noConfusion z) a,i,Iss.rm b l _ f (by simpa only[YG] using hp) d,g⟩
theorem Iss.rm{H:Hp}{e:aK}{b:cg}(a:H e=ag (.frz b (.own 1))):∀(l:List PV)(xs:List V)(fp:List aK),Xs l=aC->Iss K H l xs fp->Iss K (OF H e) l xs fp
 | [],_,_,_,h=>by simpa only[Iss] using h
 | l::ls,xs,fp,hp,h=>by simp only[Xs,bC] at hp;obtain⟨x,r,f1,g,f,i,d,c⟩:=h.inv;subst f c;exact Iss.cons (Is.rm a l x f1 hp.1 i) (Iss.rm a ls r g hp.2 d)
end
structure OG(N ps:List aj)(L:Nv):Prop where
 kind:L.scope.kind = .function
 co:L.scope.isCoroutine=aB
 gen:L.scope.isGenerator=aB
 nocell:∀y∈L.scope.names,y.2≠.cell
 nd:N.Nodup
 eq:N=ps++[L.free]
 par:∀x∈ps,L.scope.names.lookup x=ag .local
 fre:L.scope.names.lookup L.free=ag .free
 one:∀y∈L.scope.names,y.2 = .free->y.1=L.free
 qn:QN L.qual=aB
noncomputable def BF(P:ay)(w:b9)(K:aE)(mg:aj->Option aG)(base:bR)(N:List aj)(L:Nv)(f c e:aK)(A:bU)(outer:List jR)(s:aM)(H:Hp):Cx where
 prog:=P
 w:=w
 K:=K
 mg:=mg
 base:=base
 A:=A.deeper (kH L.qual L.scope s.heap.objs.size f (.ref c) [(L.free,e)])
 N:=N
 s₀:=s
 H₀:=H
 env:=kH L.qual L.scope s.heap.objs.size f (.ref c) [(L.free,e)]
 outer:=outer
 stack:=kH L.qual L.scope s.heap.objs.size f (.ref c) [(L.free,e)]::outer
 ex:=[]
 calm:=aC
 fn:=λ_=>aB
 pn:=[]
 xe:=λ_ _=>False
theorem BG:∀{b:List aj}{a:List aG}{i:Nat}{x:aj}{u:aG},b.Nodup->b[i]?=ag x->a[i]?=ag u->(b.zip a).reverse.lookup x=ag u:=by
 intro b
 induction b with
 | nil=>intro a i x u _ h _;simp at h
 | cons p r ih=>
  intro a i x u d e c
  cases a with
  | nil=>simp at c
  | cons v a=>
   rw[dU,List.reverse_cons,List.lookup_append]
   cases i with
   | zero=>
    have g:p=x:=by simpa using e
    have f:v=u:=by simpa using c
    subst g f
    have nm:(r.zip a).reverse.lookup p=aA:=by
     rw[List.lookup_eq_none_iff];intro q j;have:=(gZ (List.mem_reverse.mp j)).1
     first
      | (intro z;rw[<-z] at this;exact(aw.mp d).1 this)
      | (simp;intro z;rw[<-z] at this;exact(aw.mp d).1 this)
    rw[nm];simp[bZ]
   | succ i=>
    rw[ih (aw.mp d).2 (by simpa using e) (by simpa using c)];rfl
end VL
namespace VL
open PySem PySem.Spec PyProof.Rows L2
variable {K:aE}
section
variable {P:ay} {w:b9} {mg:aj->Option aG} {base:bR}
theorem Zce{N C:List aj}{L:Nv}{f c e:aK}{A:bU}{d:List jR}{s:aM}{H:Hp}{G:List aG}{vs:List V}{x:V}{u:aG}{h₁:bR}{tk:Nat}
  (S:OG N C L) (hd:A.handled=aA) (k:Env0 P w K mg base A d s H) (hl:vs.length=C.length) (r:Vals vs G) (Z:H e=aA) (W:s.heap.IsCell e (ag u)) (U:RelV x u)
  (D:h₁.Ns s.heap.objs.size (λy=>(C.zip G).reverse.lookup y)) (t:∀b o,s.heap.get? b=ag o->h₁.get? b=ag o) :
  Inv (BF P w K mg base N L f c e A d s H) [] (vs.map ag++[ag x]) H { s with heap:=h₁,toks:=tk }:=by
 have l:∀b:aK,b∉(BF P w K mg base N L f c e A d s H).ex:=λb z=>absurd (show b∈([]:List aK) from z) (by simp);have E:C.Nodup:=by have:=S.nd;rw[S.eq] at this;exact(dJ.mp this).1
 have B:=W.keeps t
 refine⟨⟨k.mod,S.kind,rfl,rfl,aa _,λy z a j g=>(Vg j).trans (Vg g).symm,λy m=>?_,λy a z=>(by cases z),λ_=>hd,kc k.frames,.inr ⟨rfl,rfl⟩,λb z=>absurd z (l b),k.bs,k.bsz,λb _ _=>l b,λb z=>absurd z (l b),k.funs,k.frf,k.tab,λq _ J I=>?_⟩,
  rfl,k.bare,Un.kept t,⟨_,D,λi y v j g h3=>?_⟩,λy a h=>?_,k.hok.fresh (aa _),λy a h=>?_,λp Q=>absurd (show p∈([]:List (aK×cg)) from Q) (by simp),k.hok.kept t,?_⟩
 ·have m:=m;rcases m with m | m
  ·exact absurd rfl (S.nocell _ (cU m))
  ·have X:y=L.free:=S.one _ (cU m) rfl;refine⟨e,?_⟩;show([(L.free,e)]:List (aj×aK)).lookup y=_;rw[X];simp[bZ]
 ·have:=(Gs (J)).symm;rw[this,S.qn] at I;cases I
 ·have j:N[i]?=ag y:=j;rw[S.eq] at j;by_cases F:i<vs.length
  ·rw[au (by simpa using F),aU] at g;rw[au (by omega)] at j
   cases q:vs[i]? with
   | none=>rw[q] at g;cases g
   | some a=>
    rw[q] at g;cases g;obtain⟨z,hz,Y⟩:=r.get q;exact⟨z,Y,.inl ⟨S.par y (cE j),BG E j hz⟩⟩
  ·rw[bH (by simpa using F),aL] at g;rw[bH (by omega)] at j
   have O:i-vs.length=0:=by
    cases q:i-vs.length with
    | zero=>rfl
    | succ n=>rw[q] at g;simp at g
   have M:i-C.length=0:=by omega
   rw[O] at g;rw[M] at j;have T:x=v:=by simpa using g
   have R:L.free=y:=by simpa using j
   subst T R;refine⟨u,U,.inr ⟨.inr S.fre,e,?_,B⟩⟩;show([(L.free,e)]:List (aj×aK)).lookup L.free=_;simp[bZ]
 ·have h:=h;rw[Y3 h];exact⟨_,B⟩
 ·have h:=h;rw[Y3 h];exact Z
 ·show _=N.length;rw[S.eq];simp[hl]
noncomputable def spL(K:aE)(L:Nv)(f:aK)(D:PV->List PV->Option PV)(n:Nat):Sp:=λvs H Q _=>vs.length=n/\∃l ls u x fp fps r,CloAt H L (.ref f) u/\RelV x u/\Is K H l x fp/\YG l=aC/\Iss K H ls vs fps/\Xs ls=aC/\D l ls=ag r/\ZT r=aC/\
 ∀v H',Same H H'->Is K H' r v []->Q v H'
noncomputable def Ft(P:ay)(w:b9)(K:aE)(mg:aj->Option aG)(base:bR)(k:Nat)(L:Nv)(D:PV->List PV->Option PV)(n:Nat):Prop:=
 ∀(A:bU)(outer:List jR)(s:aM)(H:Hp)(f:aK)(us:List aG)(vs:List V)(Q:VK)(E:XK),Room k A->Env0 P w K mg base A outer s H->Vals vs us->spL K L f D n vs H Q E->
  gY (model P w) A (.call (.ref f) ⟨us,[]⟩) (CR MN outer P w H s Q E) s
theorem Env0.rm{A:bU}{a:List jR}{s:aM}{H:Hp}{e:aK}{f:cg}(c:Env0 P w K mg base A a s H)(d:H e=ag (.frz f (.own 1))):Env0 P w K mg base A a s (OF H e):=
 ⟨c.frames,c.mod,λb o q=>⟨(c.bs b o q).1,Tc (c.bs b o q).2⟩,c.bsz,c.funs,λb g=>Tc (c.frf b g),TabsH.rm c.tab d,BE c.hok d,c.bare⟩
theorem Zgz{N F:List aj}{L:Nv}{k n:Nat}(f:XE)(S:OG N F L)
  (O:∀(cl:List (aj×aK))(pm cdv ct:aG)(G:List aG),G.length=F.length->gx (fu "<lambda>" L.qual L.params L.body L.scope cl pm cdv ct) ⟨G,[]⟩=pure (F.zip G)) (hn:F.length=n)
  (B:∀(C c e:aK)(A:bU)(d:List jR)(s:aM)(H:Hp),Room k (A.deeper (kH L.qual L.scope s.heap.objs.size C (.ref c) [(L.free,e)]))->VE (BF P w K mg base N L C c e A d s H) L.body f) :
  Ft P w K mg base (k+1) L (λl ls=>f (ls.map ag++[ag l])) n:=by
 intro A d s H C G vs Q E hr p rv hsp;obtain⟨hl,l,ls,u,x,fp,fps,r,⟨fa',fo,c,oc,e,eo,pm,ct,hv,hf,hfo,hc,hco,h,heo⟩,rx,il,pl,is,pls,hD,pr,q⟩:=hsp;cases hv;have ho:=(p.hok C _ hf).1;have hoc:=(p.hok c _ hc).1;have U:=(p.hok e _ h).1;obtain⟨cvs,ctk,Y,hcq⟩:=hco;have M:vs.length=F.length:=by rw[hl,hn]
 have lim:=p.mod.nolimit.keeps λb o e=>(p.bs b o e).1;refine PySem.W.kla_callFunE hr.depth ho hfo S.co S.gen rfl ⟨c,oc,cvs,ctk,rfl,hoc,Y,hcq⟩ ?_;rw[O _ _ _ _ G (by rw[<-rv.length];exact M)];refine a9 (ke S.nocell (λy t=>S.par y.1 (gZ t).1) (λh₁ hns hsb=>?_) S.kind);have T:=λb o q=>hsb.extBut b o (az (aP q)) (aH _ q);refine⟨lim.keeps T,?_⟩;refine PySem.W.kla_codeExpr ?_;have e1:=Env0.rm p h;have I:=Zce (f:=C) (c:=c) (tk:=s.toks+(F.zip G).length) S hr.hd e1 M rv Ll ⟨eo,U,heo⟩ rx hns T
 have env:EnvIs K (λ_=>False) (OF H e) (ls.map ag++[ag l]) (vs.map ag++[ag x]):=⟨λi a g=>by
  have hlv:=is.len;by_cases R:i<ls.length
  ·rw[au (by simpa using R),aU] at g
   cases z:ls[i]? with
   | none=>rw[z] at g;cases g
   | some b=>
    rw[z] at g;cases g;obtain⟨v,f1,h1,h2,_⟩:=is.get z;refine⟨v,f1,?_,Is.rm h _ _ _ ?_ h2,λ_ _ z=>z⟩
    ·rw[au (by rw[aL];omega),aU,h1];rfl
    ·have all:∀(m:List PV),Xs m=aC->∀y∈m,YG y=aC:=by
      intro m
      induction m with
      | nil=>intro _ y t;simp at t
      | cons a r ih=>
       intro hm y t;simp only[Xs,bC] at hm;rcases aX.mp t with rfl | t
       ·exact hm.1
       ·exact ih hm.2 y t
     exact all ls pls _ (cE z)
  ·rw[bH (by simpa using R),aL] at g
   have z:i-ls.length=0:=by
    cases q:i-ls.length with
    | zero=>rfl
    | succ n=>rw[q] at g;simp at g
   rw[z] at g;have e3:l=a:=by simpa using g
   subst e3;refine⟨x,fp,?_,Is.rm h _ _ _ pl il,λ_ _ z=>z⟩;rw[bH (by rw[aL];omega),aL,show i-vs.length=0 by omega];rfl⟩
 refine bW (B C c e A d s (OF H e) (hr.deeper _) [] _ _ _ (λv D=>Same (OF H e) D/\∃X,Is K D r v X) I ⟨λ_=>False,_,r,λ_ z=>z.elim,env,hD,λv D X sm i _=>⟨sm,X,i⟩⟩) (λy s' hs=>?_) λ_ _ hs=>hs.elim;obtain⟨v,D,J,ry,sm,X,i⟩:=hs;have j:=J.freeC L.free e (by show([(L.free,e)]:List (aj×aK)).lookup L.free=_;simp[bZ]);have W:Un (Nx d) [] (OF H e) D s.heap s'.heap:=J.base;have enf:e∉Nx d:=λz=>by rw[p.frf e z] at h;cases h
 have Z:=W.keep e eo U Ll enf (by simp);have i2:=Is.pure _ _ _ pr i;subst i2
 have sm2:Same H (upd D e (.frz eo (.own 1))):=λb o O=>by
  by_cases z:b=e
  ·subst z;rw[h] at O;cases O;exact Zl
  ·rw[upd_ne z];exact sm b o (by rw[Xz z];exact O)
 exact⟨v,_,J.os,J.bare,Zcd W h j,Fs J.hok j Z,ry,q v _ sm2 (i.mono (Same.new j _))⟩
end
noncomputable def BH(T:Nv->PV->List PV->Option PV)(i:Nat)(fs:List XE):XE:=λs=>match s[i]? with
 | some (ag (.clo L l))=>(SG fs s).bind λls=>if(YG l&&Xs ls)=aC then(T L l ls).bind (λr=>if ZT r=aC then ag r else aA) else aA
 | _=>aA
section
variable {X:Cx} {x:aj} {k:Nat} {e:bB} {es:List bB} {fs:List XE} {p pos:da}
theorem Zg0(i:Nat){T:Nv->PV->List PV->Option PV}{n:Nat}(hN:X.N[i]?=ag x)(hv:Vis X.env.scope x)(hT:∀L,(∃l ls r,T L l ls=ag r)->Ft X.prog X.w X.K X.mg X.base k L (T L) n)(hr:Room k X.A)(ha:VA X (e::es) fs)(hn:fs.length=n:=by rfl)
  (D:(x==("__debug__" : aj))=aB:=by decide) (A:(x==("__classdict__" : aj))=aB:=by decide) (he:aO (e::es) X.env=(aB,eval e X.env)::aO es X.env:=by rfl) (C:(ck pos (aO es X.env)).any (·.1)=aB:=by rfl) :
  VM X (.Call (.Name x p) (e::es) [] pos) (BH T i fs):=by
 intro E s U H Q I ⟨st,r,env,t,q⟩;unfold BH at t;split at t
 ·rename_i L l hs;obtain⟨ls,Z,F⟩:=Zd t;split at F
  ·rename_i h;simp only[bC] at h;obtain⟨r',S,G⟩:=Zd F;split at G
   ·rename_i B;cases G;obtain⟨v,fp,N,hi,_⟩:=env.is i _ hs;have O:=hi;obtain⟨u,y,b,ry,il⟩:=O;obtain⟨f,W,c,oc,ce,eo,pm,ct,R,Y,J,_⟩:=id b;subst R;have d:∀{s1:aM}{a:Hp},Inv X E U a s1->a f=ag (.frz W (.own 0))->PySem.W.FnAt f s1.heap:=λ{s1 a} w h1=>by have:=(w.hok f _ h1).1;obtain⟨oc',od',dat,sl'⟩:=W;cases (J);exact⟨_,_,_,_,this⟩
    refine cX (Yf (DT hN hv D A E s U H (λv1 a=>v1 = .ref f/\a=H) I ⟨_,N,rfl,rfl⟩) λuf s1 ⟨v1,a,w,r1,ef,eH⟩=>?_);subst ef eH;obtain rfl:=r1;refine PySem.W.callWith_F (d w Y) (Yf (ha pos E s1 U a (λvs j=>Same a j/\∃fps,Iss X.K j ls vs fps) w ⟨λ_=>False,st,ls,λ_ z=>z.elim,env,Z,λvs j fps g o _=>⟨g,fps,o⟩⟩) λus s2 ⟨vs,j,M,rv,g,fps,o⟩=>⟨d M (g f _ Y),?_⟩) he C;refine g9 (fK (hT L ⟨l,ls,r,S⟩ X.A X.stack s2 j f us vs Q E0 hr M.env0 rv ⟨by rw[o.len,W8 Z,hn],l,ls,u,y,fp,fps,r,b.tr (Same.tk2 g),ry,il.mono g,h.1,o,h.2,S,B,λv H' P i'=>q v H' [] (g.trans P) i' cF λp h=>by simp at h⟩) λrr s' m=>?_)
    cases rr with
    | error er=>exact(m).elim
    | ok fl=>
     cases fl with
     | ret u'=>exact M.after m
     | next=>exact bw m
     | brk=>exact bw m
     | cont=>exact bw m
   ·cases G
  ·cases F
 ·cases t
end
end VL
namespace VL
open PySem PySem.Spec PyProof.Rows L2
variable {K:aE}
theorem IW{e pos':da}{c v:aG}{a b:Int}(l:List aG)(h:TriplesOk l)(d:jE e (l++[eF a,eF b,c])=ag v):jE e l=ag v\/v=c:=by
 fun_induction TriplesOk l with
 | case1=>
  simp only[nC,jE,eF] at d;split at d
  ·exact .inr (bG d).symm
  ·cases d
 | case2 a' t b' u x o6 ih=>
  simp only[mv,jE] at d ⊢;split at d
  ·rename_i f;rw[oX f];exact .inl d
  ·rename_i f;rw[oY f];exact ih h d
 | case3 l h1 h2=>exact h.elim
noncomputable def Zlw(X:Cx)(L:Nv):TE:=λ_ H Q=>∀f fo c oc e pm ct H1,Same H H1->H1 f=ag (.frz fo (.own 0))->fo.data = .func (fu "<lambda>" L.qual L.params L.body L.scope [(L.free,e)] pm (.ref c) ct)->
 H1 c=ag (.frz oc (.own 0))->J5 oc L.qual->X.env.cells.lookup L.free=ag e->Q (.ref f) H1
section
variable {X:Cx}
theorem Zg1{q:aj}{L:Nv}{f:da}(hfn:X.env.func≠aA)(hq:X.env.qual=q++".<locals>.")(N:QN q=aC)(hL:L.qual=Pp q)(P:nh L.params X.env=([],[]))
  (y:∃e,X.env.cells.lookup L.free=ag e/\jL L.scope X.env=pure [(L.free,e)]):PE X (.Lambda L.params L.body L.scope f) (Zlw X L):=by
 intro o4 s U H Q I h;obtain⟨e,Z,y⟩:=y;have j:=I.ok.cod q hfn hq N
 obtain⟨m,i⟩:∃m,X.env.code = .ref m:=by
  cases z:X.env.code with
  | ref c=>exact⟨c,rfl⟩
  | _=>rw[z] at j;simp[cy] at j
 rw[i] at j;obtain⟨Pt,ps,tk,hC,hP,Y,hB⟩:=(TabsH.un I.ok.tab I.base) q m N j;obtain⟨q',tk',ps',eq,hg,x,J⟩:=(show ObjOk X.prog X.w H s.heap Pt (.tbl ps) from I.hok Pt _ hP);rw[Y] at eq;cases eq;have E:s.heap.Ns bX X.mg:=I.mod.glob.keeps I.bk;have hgP:bX≠Pt:=λz=>by obtain⟨o,es,ep,G,hd,_⟩:=E;rw[z,hg] at G;cases G;cases hd
 have R:s.heap.BuiltinsAt X.mg Pt:=by obtain⟨bm,ob,b1,b2,b3,b4,b5,b6⟩:=hB;exact⟨bm,ob,b1,b2,b3,b4,I.bk _ _ b5,b6⟩
 have C:X.env.qual++"<lambda>" = L.qual:=by rw[hq,hL];rfl
 have fresh:∀b,s.heap.objs.size<=b->H b=aA:=λb a=>I.hok.fresh a;refine PySem.W.kla_eval P ?_;rw[C]
 cases hf:jE f ps'.toList with
 | none=>
  refine PySem.W.kla_makeFunction (mg:=X.mg) y I.ok.glob E i (hC.keeps I.bk) hg x hf hgP R λd g h' tk2 hx B T O htb=>?_;obtain⟨c2,w,vs,t,e2,hoc,hd,hv⟩:=O;cases e2;generalize p:PySem.W.kla_obj "<lambda>" L.qual L.params L.body L.scope [(L.free,e)] ((X.mg "__name__").getD .none) d g=fo;have D:fo.data = .func (fu "<lambda>" L.qual L.params L.body L.scope [(L.free,e)] ((X.mg "__name__").getD .none) (.ref d) g):=by rw[<-p]
  have hfne:h'.objs.size≠d:=dk T;have k:s.heap.objs.size<=h'.objs.size:=bO B (cO T);have nc:H d=aA:=fresh _ B;have nf:H h'.objs.size=aA:=fresh _ k;have hP1:Pt<s.heap.objs.size:=aP hg;have up:∀b o,H b=ag o->upd (upd H d (.frz w (.own 0))) h'.objs.size (.frz fo (.own 0)) b=ag o:=λb o a=>by rw[upd_ne (Zn a nf),upd_ne (Zn a nc)];exact a
  have kk:∀b o,b≠Pt->s.heap.get? b=ag o->(h'.push fo).get? b=ag o:=λb o a A=>aH _ (hx b o a A);have gP:(h'.push fo).get? Pt=ag (gC (ps'++#[eF f.line,eF f.col,.ref d])):=aH _ htb
  have un:Un X.fs [] H (upd (upd H d (.frz w (.own 0))) h'.objs.size (.frz fo (.own 0))) s.heap (h'.push fo):=by
   refine⟨λb o a n _ _=>kk b o (λz=>by rw[z,hP] at n;cases n) a,λb o a n _ _=>⟨o.slots,kk b o (λz=>by rw[z,hP] at n;cases n) a⟩,λb o a n _=>?_,λb o a _=>?_,λb xs a=>up b _ a,λb o u a=>up b _ a,λb ps a=>⟨#[],by rw[up b _ a];simp⟩⟩
   ·have S:=aP a;rw[upd_ne (az (aZ S k)),upd_ne (az (aZ S B))];exact n
   ·by_cases z:b=Pt
    ·rw[z];exact⟨_,gP⟩
    ·exact⟨o,kk b o z a⟩
  have gc:(h'.push fo).get? d=ag w:=aH _ hoc;have M:(h'.push fo).get? h'.objs.size=ag fo:=af _ (by rw[<-p];rfl);have upc:upd (upd H d (.frz w (.own 0))) h'.objs.size (.frz fo (.own 0)) d=ag (.frz w (.own 0)):=by rw[upd_ne (bP hfne),Zl]
  have F:HOk X.prog X.w (upd (upd H d (.frz w (.own 0))) h'.objs.size (.frz fo (.own 0))) (h'.push fo):=λb u a=>by
   by_cases z1:b=h'.objs.size
   ·subst z1;rw[Zl] at a;cases a;exact⟨M,_,M⟩
   ·rw[upd_ne z1] at a;by_cases z2:b=d
    ·subst z2;rw[Zl] at a;cases a;exact⟨gc,_,gc⟩
    ·rw[upd_ne z2] at a;by_cases z3:b=Pt
     ·subst z3;rw[hP] at a;cases a;refine⟨_,tk,_,Y,gP,?_,λW v l=>?_⟩
      ·rw[gJ];exact TriplesOk_snoc _ _ _ _ x
      ·rw[gJ] at l;rcases IW (pos':=W) _ x l with l | l
       ·obtain⟨c3,o3,G,e2,e3⟩:=J W v l;exact⟨c3,o3,G,up _ _ e2,e3⟩
       ·exact⟨d,w,l,upc,vs,t,hd,by rw[<-hL];exact hv⟩
     ·exact(I.hok b u a).stay (λb' o hb' q=>kk b' o (by
       rcases hb' with z | z
       ·rw[z];exact z3
       ·exact λz'=>by rw[z',hP] at z;cases z) q) (λb' q=>up _ _ q) (λb' xs q=>up _ _ q) λb' u' q=>up _ _ q
  have I1:=I.un (t':=tk2) un F;exact⟨.ref h'.objs.size,_,I1,rfl,h _ fo d w e _ g _ up Zl D upc ⟨vs,t,hd,hv⟩ Z⟩
 | some cv=>
  obtain⟨d,w,G,hc1,hc2⟩:=J f cv hf;subst G;refine PySem.W.kla_makeFunctionHit (mg:=X.mg) y I.ok.glob E i (hC.keeps I.bk) hg x hf R λg h' tk2 hk k=>?_;generalize p:({ cls:=.type "function",data:=.func (fu "<lambda>" L.qual L.params L.body L.scope [(L.free,e)] ((X.mg "__name__").getD .none) (.ref d) g) }:cg)=fo;have D:fo.data = .func (fu "<lambda>" L.qual L.params L.body L.scope [(L.free,e)] ((X.mg "__name__").getD .none) (.ref d) g):=by rw[<-p]
  have nf:H h'.objs.size=aA:=fresh _ k;have up:∀b o,H b=ag o->upd H h'.objs.size (.frz fo (.own 0)) b=ag o:=λb o a=>by rw[upd_ne (Zn a nf)];exact a
  have kk:∀b o,s.heap.get? b=ag o->(h'.push fo).get? b=ag o:=λb o A=>aH _ (hk b o A);have M:(h'.push fo).get? h'.objs.size=ag fo:=af _ (by rw[<-p];rfl);have un:Un X.fs [] H (upd H h'.objs.size (.frz fo (.own 0))) s.heap (h'.push fo):=Un.laid kk k nf;have F:HOk X.prog X.w (upd H h'.objs.size (.frz fo (.own 0))) (h'.push fo):=I.hok.laid kk k ⟨M,_,M⟩;have I1:=I.un (t':=tk2) un F;exact⟨.ref h'.objs.size,_,I1,rfl,h _ fo d w e _ g _ up Zl D (up _ _ hc1) (by rw[hL];exact hc2) Z⟩
end
section
variable {X:Cx} {x:aj} {ps:List aj} {sp:Sp} {k:Nat} {e:bB} {es:List bB} {t:TA} {p pos:da}
noncomputable def Zg2(X:Cx)(i:Nat)(y:aj)(sp:Sp)(t:TA):TE:=λU H Q=>t U H λvs H1=>∀ce eo u v,X.env.cells.lookup y=ag ce->H1 ce=aA->U[i]?=ag (ag v)->RelV v u->eo.data = .cell (ag u)->
 ∃Q':VK,sp vs (upd H1 ce (.frz eo (.own 1))) Q' E0/\∀z H',H' ce=ag (.frz eo (.own 1))->Q' z H'->Q z (OF H' ce)
theorem BJ(C:Xd X.prog X.w X.K X.mg X.base x ps sp k)(hr:Room k X.A)(hg:Gl X x)(i:Nat){y:aj}(hN:X.N[i]?=ag y)(Y:X.env.scope.names.lookup y=ag .cell)(M:X.fn y=aC)(hU:∀U H Q,t U H Q->∃v,U[i]?=ag (ag v))(ha:PA X (e::es) t)
  (T:(x==("__debug__" : aj))=aB:=by decide) (he:aO (e::es) X.env=(aB,eval e X.env)::aO es X.env:=by rfl) (S:(ck pos (aO es X.env)).any (·.1)=aB:=by rfl) :
  PE X (.Call (.Name x p) (e::es) [] pos) (Zg2 X i y sp t):=by
 obtain⟨f,fd,hm,N,l,F⟩:=C.ex;intro o4 s U H Q I h;obtain⟨v,hv⟩:=hU U H _ h;refine cX (Wg I hg hm ?_ T);refine gg I.ok.mod.kin N (Yf (ha pos o4 s U H _ I h) λL s1 ⟨vs,H1,c,r,q⟩=>⟨c.kIn,?_⟩) he S;obtain⟨m,hns,hl⟩:=c.loc;obtain⟨u,ru,lk⟩:=hl i y v hN hv (.inr (.inl Y));rcases lk with⟨z,_⟩ | ⟨_,a,j,R,E,hd⟩
 ·have z:X.env.scope.names.lookup y=ag .local:=z;rw[Y] at z;cases z
 have g:=c.freeC y a j;obtain⟨Q',G,P⟩:=q a R u v j g hv ru hd;have D:=c.ok.cab y a M j
 have n:a∉Nx X.stack:=λz=>by
  rcases aX.mp (c.stkSub a z) with z | z
  ·exact c.cne y a j z
  ·obtain⟨_,o,ho,_⟩:=c.ok.funs.mem z;exact absurd (aZ (aP ho) D) (bu _)
 have d:=c.env0
 have e1:Env0 X.prog X.w X.K X.mg X.base X.A X.stack s1 (upd H1 a (.frz R (.own 1))):=by
  refine⟨d.frames,d.mod,λb o l=>⟨(d.bs b o l).1,?_⟩,d.bsz,d.funs,λb l=>?_,TabsH.add d.tab g,Fs d.hok g E,d.bare⟩
  ·have:b≠a:=λz=>by have:=aP l;have h2:=c.ok.bsz;rw[z] at this;exact absurd (aZ this (bO h2 D)) (bu _)
   rw[upd_ne this];exact(d.bs b o l).2
  ·have nb:b≠a:=λz=>by rw[z] at l;exact n l
   rw[upd_ne nb];exact d.frf b l
 have O:L.length=ps.length:=by rw[<-r.length];exact F.len _ _ _ _ G
 have B:=l s1 L c.kIn (by simpa using O);rw[cL] at B;refine g9 (fK (F.run X.A X.stack s1 _ ⟨L,[]⟩ L vs Q' E0 hr e1 B r G) λrr s' A=>?_)
 cases rr with
 | error er=>exact(A).elim
 | ok fl=>
  cases fl with
  | ret u'=>
   obtain⟨Z,H',os,w,un,J,rv,qq⟩:=(A);have W:=un.frzs a R _ Zl;exact c.after ⟨Z,OF H' a,os,w,Zgy un g E n J,BE J W,rv,P Z H' W qq⟩
  | next=>exact bw A
  | brk=>exact bw A
  | cont=>exact bw A
end
end VL
namespace VL
open PySem PySem.Spec PyProof.Rows L2
variable {K:aE}
noncomputable def IX(D:List PV->Option PV)(f1 f2:XE)(L:Nv)(i:Nat):XE:=λs=>(f1 s).bind λl1=>(f2 s).bind λl2=>match s[i]? with
 | some (ag l)=>(D [l1,l2,.clo L l]).bind λr=>if YG r=aC then ag r else aA
 | _=>aA
section
variable {X:Cx} {x:aj} {ps:List aj} {k:Nat} {a b:bB} {f1 f2:XE} {p pos lpos:da}
theorem BK{q:aj}{L:Nv}{D:List PV->Option PV}(C:Xd X.prog X.w X.K X.mg X.base x ps (Y0 X.K D 3) k)(hr:Room k X.A)(hg:Gl X x)(i:Nat)(hN:X.N[i]?=ag L.free)(hk:X.env.scope.names.lookup L.free=ag .cell)(I:X.fn L.free=aC)
  (h1:VE X a f1) (h2:VE X b f2) (W:X.env.func≠aA) (hq:X.env.qual=q++".<locals>.") (T:QN q=aC) (hL:L.qual=Pp q) (n:nh L.params X.env=([],[]))
  (hcl:∃e,X.env.cells.lookup L.free=ag e/\jL L.scope X.env=pure [(L.free,e)])
  (B:aO (a::b::[.Lambda L.params L.body L.scope lpos]) X.env=(aB,eval a X.env)::aO (b::[.Lambda L.params L.body L.scope lpos]) X.env) (Z:aO (b::[.Lambda L.params L.body L.scope lpos]) X.env=(aB,eval b X.env)::aO [.Lambda L.params L.body L.scope lpos] X.env)
  (S:aO [.Lambda L.params L.body L.scope lpos] X.env=(aB,eval (.Lambda L.params L.body L.scope lpos) X.env)::aO [] X.env) (N:(ck pos (aO (b::[.Lambda L.params L.body L.scope lpos]) X.env)).any (·.1)=aB)
  (O:(x==("__debug__" : aj))=aB:=by decide):VM X (.Call (.Name x p) (a::b::[.Lambda L.params L.body L.scope lpos]) [] pos) (IX D f1 f2 L i):=by
 have pa:=ZY h1 (ZY h2 (ZY (Zg1 W hq T hL n hcl) YF S) Z) B;have pa2:=PA.imp pa (t':=λU H Q=>(∃v,U[i]?=ag (ag v))/\_) λU H Q z=>z.2;refine PE.imp (BJ C hr hg i hN hk I (λU H Q z=>z.1) pa2 O B N) λU H Q ⟨s,r,env,e,qq⟩=>?_;obtain⟨l1,e1,e⟩:=Zd e;obtain⟨l2,e2,e⟩:=Zd e;split at e
 ·rename_i lc hs;obtain⟨r',hD,e⟩:=Zd e;split at e
  ·rename_i J;cases e;obtain⟨v,fpc,hv,ic,_⟩:=env.is i _ hs;refine⟨⟨v,hv⟩,λ_=>False,s,l1,λ_ z=>z.elim,env,e1,λv1 H1 fp1 s1 i1 _=>⟨λ_=>False,s,l2,λ_ z=>z.elim,env.mono s1,e2,λv2 H2 fp2 s2 i2 _=>?_⟩⟩;intro f fo c oc d pm ct E w hf Y hc hco A ce t u v' hce hn l ru hd;have m:=bG (A.symm.trans hce);subst m;rw[hv] at l;cases l;have j:Same E (upd E d (.frz t (.own 1))):=Same.new hn _;have G:Is X.K (upd E d (.frz t (.own 1))) (.clo L lc) (.ref f) fpc:=by exact⟨u,v,⟨f,fo,c,oc,d,t,pm,ct,rfl,j _ _ hf,Y,j _ _ hc,hco,Zl,hd⟩,ru,ic.mono (((s1.trans s2).trans w).trans j)⟩
   refine⟨λz h=>∃g,Same (upd E d (.frz t (.own 1))) h/\Is X.K h r z g/\g.Nodup/\∀p∈g,upd E d (.frz t (.own 1)) p=aA/\Uq (h p),?_,λz h hz ⟨g,M,R,nd,P⟩=>?_⟩
   ·exact⟨rfl,[l1,l2,.clo L lc],_,r,Iss.cons (i1.mono ((s2.trans w).trans j)) (Iss.cons (i2.mono (w.trans j)) (Iss.one G)),hD,λz h g M R nd P=>⟨g,M,R,nd,P⟩⟩
   ·have s5:Same H (OF h d):=λy o hy=>by have h3:=((s1.trans s2).trans w) y o hy;rw[Xz (Zn h3 hn)];exact M y o (j y o h3)
    refine qq z _ g s5 (Is.rm hz _ _ _ J R) nd λy hy=>?_;obtain⟨F,n2⟩:=P y hy;have ne:y≠d:=λz=>by rw[z,Zl] at F;cases F
    rw[upd_ne ne] at F;exact⟨Same.off ((s1.trans s2).trans w) F,by rw[Xz ne];exact n2⟩
  ·cases e
 ·cases e
theorem BL{q:aj}{L:Nv}{c:kz}{f:bB}{d:du}{i:Nat}{D:List PV->Option PV}(s:L.params=c)(h:L.body=f)(w:L.scope=d)(C:Xd X.prog X.w X.K X.mg X.base x ps (Y0 X.K D 3) k)(G:Room k X.A)(E:Gl X x)(H:X.N[i]?=ag L.free)(B:X.env.scope.names.lookup L.free=ag .cell)(j:X.fn L.free=aC)
  (A:VE X a f1) (F:VE X b f2) (n:X.env.func≠aA) (I:X.env.qual=q++".<locals>.") (m:QN q=aC) (z:L.qual=Pp q) (g:nh c X.env=([],[]))
  (o:∃e,X.env.cells.lookup L.free=ag e/\jL d X.env=pure [(L.free,e)])
  (u:aO (a::b::[.Lambda c f d lpos]) X.env=(aB,eval a X.env)::aO (b::[.Lambda c f d lpos]) X.env) (y:aO (b::[.Lambda c f d lpos]) X.env=(aB,eval b X.env)::aO [.Lambda c f d lpos] X.env)
  (l:aO [.Lambda c f d lpos] X.env=(aB,eval (.Lambda c f d lpos) X.env)::aO [] X.env) (t:(ck pos (aO (b::[.Lambda c f d lpos]) X.env)).any (·.1)=aB)
  (v:(x==("__debug__" : aj))=aB:=by decide):VM X (.Call (.Name x p) (a::b::[.Lambda c f d lpos]) [] pos) (IX D f1 f2 L i):=by
 subst s h w;exact BK C G E i H B j A F n I m z g o u y l t v
end
end VL
namespace VL
open PySem PySem.Spec PyProof.Rows L2
variable {K:aE}
noncomputable def Mo(K:aE):List (aj×aK×aK):=(["tree_of","still_by","made_of"]:List aj).filterMap λx=>(iQ K x).map λcp=>(x,cp)
noncomputable def Rc(K:aE)(q:ay):Bool:=
 nj K&&decide ((Mo K).map (·.2.2)).Nodup&&(Mo K).all (λr=>((recsOf q).find? (λe=>e.name==r.1)).isSome)&&
 K.all λp=>match p.2.data with
  | .fields vs=>(match vs.toList with
   | _::.str n _::_=>!(QN n) || (match iQ K n with
    | some (c,_)=>c==p.1
    | none=>aB)
   | _=>aC)
  | _=>aC
theorem EZ{x:aj}{c Pt:aK}(h:(x,c,Pt)∈Mo K):iQ K x=ag (c,Pt)/\QN x=aC:=by
 obtain⟨y,a,e⟩:=g8.mp h
 cases z:iQ K y with
 | none=>rw[z] at e;cases e
 | some cp=>
  rw[z] at e;cases e;refine⟨z,?_⟩;simp only[aX,cM,or_false] at a;rcases a with rfl | rfl | rfl<;>decide
theorem BM{x:aj}{c Pt:aK}(h:iQ K x=ag (c,Pt))(a:QN x=aC):(x,c,Pt)∈Mo K:=by
 refine g8.mpr ⟨x,?_,by rw[h];rfl⟩;unfold QN at a;simp only[kT,beq_iff_eq] at a;simp only[aX,cM,or_false];rcases a with(h | h) | h
 ·exact .inl h
 ·exact .inr (.inl h)
 ·exact .inr (.inr h)
theorem IY{q:ay}(g:Rc K q=aC){x:aj}{c:aK}(h:QN x=aC)(a:cy K (.ref c) x=aC):∃Pt,(x,c,Pt)∈Mo K:=by
 unfold Rc at g;simp only[bC] at g;have b:=g.2
 have a:(match K.lookup c with
   | some ⟨_,_,.fields vs,_⟩=>(match vs.toList with | _::.str n _::_=>n==x | _=>aB)
   | _=>aB)=aC:=a
 split at a
 ·rename_i m o vs l e;split at a
  ·rename_i y n t r f;have j:=beq_iff_eq.mp a;subst j;have d:=bN.mp b (c,_) (kI e);simp only[f,h] at d;split at d
   ·rename_i c2 k i;have:=beq_iff_eq.mp d;subst this;exact⟨k,BM i h⟩
   ·cases d
  ·cases a
 ·cases a
theorem Jl:∀{l:List (aj×aK×aK)}{x:aj}{c Pt:aK},(l.map (·.2.2)).Nodup->(x,c,Pt)∈l->l.find? (λr=>r.2.2==Pt)=ag (x,c,Pt)
 | [],_,_,_,_,h=>by simp at h
 | r::l,x,c,Pt,nd,h=>by
  rw[ak] at nd;rw[dP];rcases aX.mp h with e | h
  ·subst e;simp
  ·have:r.2.2≠Pt:=λz=>(aw.mp nd).1 (bJ.mpr ⟨_,h,z.symm⟩);have a:(r.2.2==Pt)=aB:=by simpa using this
   rw[a];exact Jl (aw.mp nd).2 h
noncomputable def IZ(l:List (aj×aK×aK))(H:Hp):Hp:=λb=>match l.find? (λr=>r.2.2==b) with
 | some r=>ag (.tbl #[.str (Pp r.1) 0])
 | none=>H b
theorem E1{l:List (aj×aK×aK)}{H:Hp}{b:aK}(h:∀r∈l,r.2.2≠b):IZ l H b=H b:=by unfold IZ;rw[fQ.mpr λr a=>by simpa using h r a]
theorem Sa(l:List (aj×aK×aK))(H:Hp)(b:aK):(∃r∈l,r.2.2=b/\IZ l H b=ag (.tbl #[.str (Pp r.1) 0]))\/((∀r∈l,r.2.2≠b)/\IZ l H b=H b):=by
 unfold IZ
 cases z:l.find? (λr=>r.2.2==b) with
 | some r=>exact .inl ⟨r,eI z,by simpa using kX z,rfl⟩
 | none=>exact .inr ⟨λr a=>by simpa using fQ.mp z r a,rfl⟩
theorem E2{P:ay}{w:b9}{mg mb:aj->Option aG}{k:Nat}{fa a:aK}{fd:eU}{x:aj}{D:List PV->Option PV}{f:aM}{vs:List aG}{G:List Int}{l:List (aj×aK×aK)}
  (KX:K.In f.heap) (Q:f.heap.Ns bX mg) (hb:f.heap.Ns jG mb) (hbb:∀x:aj,x≠"__name__"->mb x=dC x) (hlim:f.heap.NoLimit) (hg:f.gens = #[])
  (hbm:∃bm U,mg "__builtins__" = ag (.ref bm)/\bm≠jG/\f.heap.get? bm=ag U/\U.cls = .type "module"/\U.dict=ag jG/\U.data = .plain)
  (X:∀r∈l,k8 f.heap r.2.1 r.2.2/\f.heap.get? r.2.2=ag (gC #[])) (hK:nj K=aC) (hcov:∀(q:aj)(c:aK),QN q=aC->cy K (.ref c) q=aC->∃Pt,(q,c,Pt)∈l) (hnd:(l.map (·.2.2)).Nodup)
  (M:f.heap.get? a=ag { cls:=.type "list",data:=.seq vs.toArray }) (hi:jz vs G) (hl:G.length<=sizeLine) (p:Room k m6)
  (F:∀base:bR,K.In base->base.Ns bX mg->Tr P w K mg base MN k fa fd [x] (Y0 K D 1)) (N:∀(s:aM)(u:aG),mQ s fd ⟨[u],[]⟩ [(x,u)])
  (hD:D [.cst (iL G)]=ag (.bl aC)) :
  gY (model P w) m6 (.call (.ref fa) ⟨[.ref a],[]⟩) (λr A=>r = .ok (.ret (.bool aC))/\OldK f.heap A.heap/\A.os=f.os/\jX A.gens) f:=by
 have rv:=NU hi;have Y:=hi.length
 have AO:∀j:Hp,CsK K j a (G.map V.int)->(j a=aA\/(K.lookup a=aA/\∃xs,j a=ag (.frz { cls:=.type "list",data:=.seq vs.toArray } (.lst xs))/\ObjOk P w j f.heap a (.frz { cls:=.type "list",data:=.seq vs.toArray } (.lst xs))))->(∀b,b≠a->j b=aA)->
   gY (model P w) m6 (.call (.ref fa) ⟨[.ref a],[]⟩) (λr A=>r = .ok (.ret (.bool aC))/\OldK f.heap A.heap/\A.os=f.os/\jX A.gens) f:=by
  intro j hS hA hO;have na:∀r∈l,r.2.2≠a:=λr p z=>by have e:=(X r p).2;rw[z,M] at e;cases e
  generalize hH:IZ l j=H;have tb:∀r∈l,H r.2.2=ag (.tbl #[.str (Pp r.1) 0]):=λr p=>by rw[<-hH];unfold IZ;rw[Jl hnd p]
  have Ha:H a=j a:=by rw[<-hH];exact E1 na
  have free:∀{b:aK}{o:cg},f.heap.get? b=ag o->o≠gC #[]->b≠a->H b=aA:=λ{b o} e no nb=>by
   rw[<-hH];rcases Sa l j b with⟨r,p,C,_⟩ | ⟨_,C⟩
   ·have t:=(X r p).2;rw[C,e] at t;exact absurd (bG t) no
   ·rw[C];exact hO b nb
  have g:∀{b:aK}{o:cg},f.heap.get? b=ag o->H b=aA->(MD f.heap H).get? b=ag o:=λe n=>DR e n;have E:∀{b:aK}{m:aj->Option aG},f.heap.Ns b m->(MD f.heap H).Ns b m:=λ{b m} ⟨o,es,ep,e,d,r⟩=>⟨o,es,ep,g e (free e (λz=>by rw[z] at d;cases d) λz=>by rw[z,M] at e;cases e;cases d),d,r⟩
  have W:=λb o e=>g (KX b o e) (by
   by_cases z:b=a
   ·subst z;rw[Ha];rcases hA with h | ⟨h,_⟩
    ·exact h
    ·rw[e] at h;cases h
   ·refine free (KX b o e) (λz2=>?_) z;have I:=bN.mp hK (b,o) (kI e);subst z2;exact absurd (I) bx)
  have hM:Mod K mg (MD f.heap H):=⟨W,E Q,⟨mb,E hb,hbb⟩,let⟨mc,T,I⟩:=hlim;⟨mc,E T,I⟩⟩
  have hok:HOk P w H f.heap:=λb u e=>by
   rw[<-hH] at e;rcases Sa l j b with⟨r,p,C,t⟩ | ⟨hn,t⟩
   ·rw[t] at e;cases e;refine⟨Pp r.1,0,#[],rfl,?_,trivial,λpos v hv=>?_⟩
    ·rw[<-C];exact(X r p).2
    ·simp[jE] at hv
   ·rw[t] at e;by_cases z:b=a
    ·subst z;rcases hA with h | ⟨_,xs,h,ok⟩
     ·rw[h] at e;cases e
     ·rw[h] at e;cases e;obtain⟨o1,o2⟩:=ok;exact⟨o1,o2⟩
    ·rw[hO b z] at e;cases e
  have tab:TabsH K mg (MD f.heap H) H:=λq c T I=>by
   obtain⟨Pt,hm⟩:=hcov q c T I;obtain⟨⟨o,us,file,tf,R,tg,inF,Z,tt,f1,S,f3,f4,f5,f6,f7,f8,f9,f10⟩,hP⟩:=X _ hm;obtain⟨bm,U,b1,b2,J,O,b5,b6⟩:=hbm;refine⟨Pt,_,0,⟨o,us,file,tf,R,tg,inF,Z,tt,g f1 (free f1 (λz=>by rw[z] at S;cases S) λz=>?_),S,f3,f4,f5,f6,f7,f8,f9,f10⟩,tb _ hm,rfl,bm,U,b1,b2,λz=>?_,λz=>?_,g J (free J (λz=>by rw[z] at O;cases O) λz=>?_),O,b5,b6⟩
   ·rw[z,M] at f1;cases f1;injection S with S;exact absurd S (by decide)
   ·obtain⟨o',es,ep,e',hd',_⟩:=Q;rw[z,e'] at J;cases J;rw[hd'] at b6;cases b6
   ·rw[z,hP] at J;cases J;cases O
   ·rw[z,M] at J;cases J;injection O with O;exact absurd O (by decide)
  have e0:Env0 P w K mg (MD f.heap H) m6 [] f H:=⟨rfl,hM,λb o e=>Zaa e,Nat.le_of_eq (F5 _ _),trivial,λb hb=>absurd (show b∈([]:List aK) from hb) (by simp),tab,hok,.of_eq hg⟩
  have hS':CsK K H a (G.map V.int):=by
   rcases hS with⟨o,h⟩ | h
   ·exact .inl ⟨o,by rw[Ha];exact h⟩
   ·exact .inr h
  refine fK ((F _ W (E Q)).run m6 [] f H ⟨[.ref a],[]⟩ [.ref a] [.ref a] (λv _=>v = .bl aC) E0 p e0 (N f (.ref a)) (.cons rfl .nil)
   ⟨rfl,[.cst (iL G)],[],.bl aC,Iss.one (Is.cst hS' (Iss.ofInts G)),hD,λv H' fq _ i _ _=>i.bl_inv.1⟩) λr A h=>?_
  cases r with
  | error e=>exact(h).elim
  | ok fl=>
   cases fl with
   | next=>exact bw h
   | brk=>exact bw h
   | cont=>exact bw h
   | ret u=>
    obtain⟨v,H',os,bare,un,L,r',q⟩:=h;have q':=q;subst q';obtain rfl:=r'
    have key:∀b o,f.heap.get? b=ag o->A.heap.get? b=ag o\/(isCodeTable f.heap b/\o=gC #[]/\∃ps,A.heap.get? b=ag (gC ps)):=λb o e=>by
     cases z:H b with
     | none=>exact .inl (un.keep b o e z (by intro z;exact absurd (show b∈([]:List aK) from z) (by simp)) (by simp))
     | some u=>
      have B:=z;rw[<-hH] at B;rcases Sa l j b with⟨r,p,C,t⟩ | ⟨hn,t⟩
      ·rw[t] at B;cases B;obtain⟨more,z4⟩:=un.tbls b _ z;obtain⟨_,_,ps',_,e4,_⟩:=(L b _ z4);have h5:=(X r p);rw[C] at h5;refine .inr ⟨(h5.1.tab h5.2).isCodeTable,?_,ps',e4⟩;rw[e] at h5;exact bG h5.2
      ·rw[t] at B;by_cases y:b=a
       ·subst y;rcases hA with h | ⟨_,xs,h,_⟩
        ·rw[h] at B;cases B
        ·rw[h] at B;cases B;have z2:=un.frzs b _ _ z;have e1:=(hok b _ z).1;have C:=(L b _ z2).1;rw[e] at e1;cases e1;exact .inl C
       ·rw[hO b y] at B;cases B
    refine⟨rfl,⟨λb o e=>?_,λb o e=>?_⟩,os,bare⟩
    ·rcases key b o e with h | ⟨T,I,ps,h3⟩
     ·exact .inl h
     ·subst I;exact .inr (.inl ⟨T,rfl,#[],ps,rfl,by rw[Array.empty_append];exact h3⟩)
    ·rcases key b o e with h | ⟨T,I,ps,h3⟩
     ·exact⟨_,h⟩
     ·exact⟨_,h3⟩
 cases hk:K.lookup a with
 | some o=>
  have e:=KX a o hk;rw[M] at e;cases e;exact AO (λ_=>aA) (.inr ⟨_,vs.toArray,_,hk,rfl,rfl,rfl,by rw[aT,Y];exact hl,by simpa using rv⟩) (.inl rfl) λ_ _=>rfl
 | none=>
  refine AO (λb=>if b=a then ag (.frz { cls:=.type "list",data:=.seq vs.toArray } (.lst (G.map V.int))) else aA) (.inl ⟨{ cls:=.type "list",data:=.seq vs.toArray },oX rfl⟩) (.inr ⟨hk,_,oX rfl,M,?_⟩) λb hb=>oY hb;exact⟨by rw[aL];exact hl,vs,_,rv,M⟩
open PySem.W PySem.Calls in
theorem law_walkT{l:PySem.W.OpenLaw}{q:ay}{m:List aj}{XP:(aj->Option aG)->bR->Prop}{U:b9->bR->Prop}{d:DefRec}{KK:Params->aE}{x:aj}{D:List PV->Option PV}(k:Nat)(hn:l.most=ag 63)(I:d.params.defaults=[])
  (hr:Room k m6) (v:∀w:b9,Rc (KK w.params) q=aC) (hD:∀b:List Int,b.length<=63->(∀n∈b,n.natAbs.log2<=1048576)->D [.cst (iL b)]=ag (.bl aC))
  (hY:∀(w:b9)(h:bR),U w h->(KK w.params).In h)
  (F:∀(w:b9)(mg:aj->Option aG)(G:aK)(h:bR),(KK w.params).In h->h.Ns bX mg->mg d.name=ag (.ref G)->
   ∃P:eU,(∀(s:aM)(u:aG),mQ s P ⟨[u],[]⟩ [(x,u)])/\∀base:bR,(KK w.params).In base->base.Ns bX mg->Tr l.prog w (KK w.params) mg base MN k G P [x] (Y0 (KK w.params) D 1)) :
  PySem.W.WalkO q m XP U l.row.toRowW d [] (λf vs=>PySem.call f vs):=by
 intro w W i mg mb j yy G o pm cd doc dv kv ho hd X B O C S T as A y Y R hlo;obtain rfl:dv = .none:=Dflts.none B I;obtain rfl:kv = .none:=Dflts.noKw B;obtain⟨a,vs,b,rfl,rfl,t,p,e⟩:=Att.script_of hn A R
 have hw:∀n∈b,n.natAbs.log2<=1048576:=λn h=>by
  have H:(WData.list (b.map mm)).layable=aC:=bN.mp y _ (aN.mpr rfl);unfold WData.layable at H;have z:=of_decide_eq_true (kj.mp H).2;have Q:WData.weightAll (b.map mm)<=1048576:=by simpa [WData.weight] using z
  exact bO (Ot h) Q
 have J:=hY w _ yy;obtain⟨P,hb,hF⟩:=F w mg G _ J j.T.g O;have g:=v w;have L:=g;unfold Rc at L;simp only[bC] at L;obtain⟨⟨⟨g1,g2⟩,g3⟩,_⟩:=L;have Z:∀r∈Mo (KK w.params),k8 i.heap r.2.1 r.2.2/\i.heap.get? r.2.2=ag (gC #[]):=λr E=>by obtain⟨d',M⟩:=cT.mp (bN.mp g3 r E);exact PySem.W.tab_of j.T J M (EZ (x:=r.1) (c:=r.2.1) (Pt:=r.2.2) E).1
 have N:=j.T.bmain;refine enter_call (fK (E2 J j.T.g j.T.b j.T.builtins j.T.nolimit C (let⟨bm,ob,b1,b2,b3,b4,b5,b6⟩:=N;⟨bm,ob,b1,b2,b3,b4,b5,b6⟩) Z g1 (λq c H z=>IY g H z) (of_decide_eq_true g2) t p (bO e (by decide)) hr hF hb (hD b e hw)) λr s' hq=>?_);obtain⟨rfl,z,Q,h4⟩:=hq;exact⟨.inl ⟨.bool aC,.bool aC,[],rfl,λ_=>rfl,.bool aC,Att.post_true l _,λ_=>⟨List.Pairwise.nil,λ_ E=>(nomatch E)⟩⟩,z,Q,h4⟩
end VL
namespace VL
open PySem L2
noncomputable def Zjy:ba->Option (kz×bB×du)
 | .Return (ag (.Call _ [_,_,.Lambda a b sc _] _ _)) _=>ag (a,b,sc)
 | .Assign _ (.Call _ [_,_,.Lambda a b sc _] _ _) _=>ag (a,b,sc)
 | _=>aA
noncomputable def Zjz(st:ba)(i:Nat)(q free:aj):Nv:=match (Z2 st)[i]? with
 | some s=>(match Zjy s with
  | some (a,b,sc)=>⟨Pp q,a,b,sc,free⟩
  | none=>⟨Pp q,Yy st,.Name free ⟨0,0,0,0⟩,Zg st,free⟩)
 | none=>⟨Pp q,Yy st,.Name free ⟨0,0,0,0⟩,Zg st,free⟩
end VL
namespace PW
open PySem L2 VL VX
noncomputable def Wo(i:Nat):ba:=iu.main.body.getD i (.Pass ⟨0,0,0,0⟩)
noncomputable def YW:Nv:=Zjz (Wo 37) 2 "made_of" "heads"
noncomputable def Td:XE:=(Zk (Xx aB) (Zk ZJ (Za 3) (Za 0)) (Za 1))
open Classical in
noncomputable def QS(L:Nv)(l:PV)(ls:List PV):Option PV:=if L=YW then Td (ls.map ag++[ag l]) else aA
noncomputable def Fu:XS:=(ZO (eP (Zc ZV [Zt 1 [] (Z8 [eC (.int 6)]) (.one 0) ZD (Zc ZV [Zt 1 [0] (Z8 [eC (.int 6)]) (.one 0) ZD (Zc Qx [Zk (Xx aC) (Zk X1 (Zk Xk (Za 1) (Za 0)) (eC (.int 3))) (eC (.int 0))])])])))
noncomputable def Ln:List PV->Option PV:=YL 0 Fu
noncomputable def Zcf:XS:=(Zm (T5 (xB (Zk (Xx aB) (Zc ZU [Zc Yk [Za 0,eC (.int 0)],eC (.int 337),eC (.int 16)]) (eC (.int 3)))) (ZO (Zc Ln [])) Yh)
  (Zm (T5 (xB (Zk (Xx aB) (Zk X1 (Zc Yk [Za 0,eC (.int 0)]) (eC (.int 2))) (eC (.int 1)))) (ZO (Zc Wn [Zc Yk [Za 0,eC (.int 1)],Za 1,Za 2])) Yh)
  (Zm (Zu 3 (eP (Zk ZJ (Za 1) (Zc ZU [Zc Yk [Za 0,eC (.int 0)],eC (.int 1),Zc ZZ [Za 1]]))))
  (Zm (Zu 4 (Zt 1 [3] (Z8 [Za 3]) (.one 0) ZD (Zk IC (X9 [eC (.int 0)]) (Za 1))))
  (Zm (Zu 5 (eP (eC (.int 0))))
  (Zm (YN [4] (Va [eC (.int 1),eC (.int 13)]) (.one 6) (Zm (Zu 7 (Zc Yk [Za 0,Za 6]))
  (Zm (Zu 8 (Zc ZU [Za 7,eC (.int 13),Za 3]))
  (Zm (Zu 9 (eP (Zk X1 (Zk Z6 (Zk Z6 (Za 8) (eC (.int 1))) (Zc ZU [Za 7,eC (.int 17),Zc KJ [eC (.int 1),Zk Xk (Za 3) (eC (.int 1))]])) (Za 3))))
  (Zm (T5 (xB (Zk GJ (Za 6) (Za 3))) (Zm (Zu 8 (eP (Za 6)))
  (Zu 9 (Zc ZU [Za 7,eC (.int 5),Za 6]))) Yh)
  (Zm (Zu 10 (eP (MU (Zk DO (Za 3) (eC (.int 1))) (MU (Zk GJ (Za 5) (Za 2)) (Zk DO (Zc ZU [Za 7,eC (.int 3),eC (.int 3)]) (eC (.int 0)))))))
  (T5 (Ke (xB (Zk GJ (Za 6) (Za 3))) (xB (Za 10))) (Zm (Xo 4 (Za 8) (Za 9) (Zk Z6 (Zk ZJ (Zk ZJ (Za 4) (Za 8)) (Za 9)) (eC (.int 1))))
  (Zm (Xo 4 (Za 9) (Za 8) (Zk ZJ (Zk ZJ (Za 4) (Za 8)) (Za 9)))
  (Zu 5 (eP (Zk Z6 (Za 5) (eC (.int 1))))))) Yh)))))))
  (Zm (Zu 11 (Zc ZU [Zc Yk [Za 0,eC (.int 0)],eC (.int 7),Za 3]))
  (Zm (Zu 4 (Zt 1 [11] (XB (Zk Ez (SO VZ (Za 4) (TJ (Za 11)) Rw) (SO VZ (Za 4) Rw (TJ (Za 11))))) (.one 0) ZD (Zk Mc (SO VZ (Za 0) (TJ (Za 1)) Rw) (SO VZ (Za 0) Rw (TJ (Za 1))))))
  (ZO (eP (Zc ZV [Zt 1 [] (XB (Za 4)) (.one 0) ZD (Zc ZV [Za 0])])))))))))))
noncomputable def Pb:List PV->Option PV:=YL 12 Zcf
noncomputable def Mp:XS:=(Zm (T5 (xB (Zk (Xx aB) (Zk X1 (Zc Yk [Za 0,eC (.int 0)]) (eC (.int 2))) (eC (.int 1)))) (Zm (Zu 3 (Zc Yk [Za 0,Za 2]))
  (Zm (Zu 4 (X9 []))
  (Zm (YN [4] (Z8 [Zk Xk (Zc ZZ [Za 1]) (eC (.int 1))]) (.one 5) (Zm (YJ 4 (eP (Zk Xk (Zk X1 (Za 3) (Zk Z6 (Zk S7 (eC (.int 8)) (Zk Kz (eC (.int 10)) (eC (.int 25)))) (eC (.int 1)))) (Zk S7 (eC (.int 4)) (Zk Kz (eC (.int 10)) (eC (.int 25)))))))
  (Zu 3 (eP (Zk Fg (Za 3) (Zk Z6 (Zk S7 (eC (.int 8)) (Zk Kz (eC (.int 10)) (eC (.int 25)))) (eC (.int 1))))))))
  (ZO (eP (Zc ZV [Zk Mc (Za 4) (X9 [Zk Xk (Zc U9 [Za 1]) (Zc VQ [Za 4])])])))))) Yh)
  (Zm (Zu 6 (eP (Zk ZJ (X9 [eC (.int 1),eC (.int 1),Zk Z6 (Zk Kz (eC (.int 10)) (eC (.int 25))) (eC (.int 3))]) (Zc ZU [Zc Yk [Za 0,Za 2],eC (.int 131),eC (.int 3)]))))
  (Zm (Zu 4 (Zt 1 [6,0,2] (Z8 [Zc ZZ [Za 1]]) (.one 0) ZD (eP (Zk S7 (Zk Xk (Zc ZU [Zc Yk [Za 2,Zk Z6 (Za 3) (Za 0)],eC (.int 137),eC (.int 9)]) (eC (.int 4))) (Za 1)))))
  (Zm (T6 4 (Eo KG (eC (.int 1))) (Zk Xk (Zc U9 [Za 1]) (Zc VQ [SO VZ (Za 4) Rw (TJ (Eo KG (eC (.int 1))))])))
  (ZO (eP (Zc ZV [Za 4])))))))
noncomputable def Te:List PV->Option PV:=YL 7 Mp
noncomputable def Yg:List PV->Option (aj×PV):=fnY 2 (yIf (xB (Zk (Xx aC) (Zc Xr [Za 1]) (Zc Vd [Za 0]))) (RW "NoTotal" (Zc Xr [Za 1])) yNo)
theorem Rf:∀ls m l,Yg ls=ag (m,l)->m = "NoTotal":=Ji (Bt (Jg rfl) Jh)
noncomputable def OH:XS:=(T5 (xB (Zk (Xx aC) (Zc Xr [Za 1]) (Zc Vd [Za 0]))) Om Yh)
noncomputable def WK:List PV->Option PV:=YL 2 OH
noncomputable def Jm:XS:=(ZO (eP (Zc VQ [Zt 1 [0,1] (Ts (Za 2)) (.one 0) ZD (Zk ZJ (Zk ZJ (Za 1) (Za 2)) (Za 0))])))
noncomputable def Uz:List PV->Option PV:=YL 3 Jm
noncomputable def QT:XS:=(Zm (Zu 2 (X9 [eP (Wk [Wk [],Eo KG (eC (.int 1))])]))
  (Zm (YN [] (WD aB [Za 1]) (.many [3,4]) (Zu 2 (Zk Mc (Za 2) (Zt 2 [3,0,4] (XB (Za 2)) (.many [0,1]) ZD (Wk [Zk Qy (Za 0) (Wk [Za 2]),Zk Xk (Zk Z6 (Zk Z6 (Za 1) (Za 4)) (eC (.int 1))) (Zc Uz [Za 3,Za 2,Za 0])])))))
  (Zm (Zu 5 (Zt 2 [] (XB (SO VZ (Za 2) (TJ (eC (.int 1))) Rw)) (.many [0,1]) (xB (Zk GJ (Za 1) (eC (.int 0)))) (eP (Za 0))))
  (ZO (eP (J1 (xB (Zk DO (Zc ZZ [Za 5]) (eC (.int 0)))) (Zk ZJ (Za 5) (eC (.int 0))) (eC .non)))))))
noncomputable def YB:List PV->Option PV:=YL 6 QT
noncomputable def Hb:XS:=(Zm (YN [] (WD aB [Za 1]) (.many [2,3]) (T5 (xB (Zk DO (Zk Tb (Za 0) (Za 2)) (Za 3))) (ZO (eP (Za 2))) Yh))
  (ZO (eP (eC .non))))
noncomputable def WL:List PV->Option PV:=YL 4 Hb
noncomputable def Jn:XS:=(ZO (eP (J1 (xB (Zk (Xx aB) (Za 1) (Zk ZJ (Za 0) (eC (.int 0))))) (Zk ZJ (Za 0) (eC (.int 1))) (Zk ZJ (Za 0) (eC (.int 0))))))
noncomputable def Vh:List PV->Option PV:=YL 2 Jn
noncomputable def Mq:XS:=(Zm (Zu 4 (By (Za 3) (EX (X9 []))))
  (Zm (Zu 5 (X9 [eP (Za 3)]))
  (Zm (Zu 6 (eP (eC (.int 0))))
  (Zm (WE (xB (Zk oGe (Zk Tb (Za 1) (Zk ZJ (Za 5) (Za 6))) (Zk ZJ (Za 2) (Zk ZJ (Za 5) (Za 6))))) (Zm (Zu 7 (eP (Zk ZJ (Za 5) (Za 6))))
  (Zm (YN [4,5] (WD aC [Za 1]) (.many [8,9]) (Zm (Zu 10 (Zc Vh [Zk ZJ (Za 0) (Za 8),Za 9]))
  (T5 (Im (xB (Zk (Xx aB) (Za 9) (Za 7))) (xB (Zbg aC (Za 10) (Za 4)))) (Zm (sDPut 4 (Za 10) (EX (Zk Bx (Zk Uv (Za 4) (Za 7)) (X9 [eP (Za 8)]))))
  (YJ 5 (eP (Za 10)))) Yh)))
  (Zgk 6 Z6 (eC (.int 1))))))
  (ZO (eP (Zk Uv (Za 4) (Zk ZJ (Za 5) (Za 6)))))))))
noncomputable def RX:List PV->Option PV:=YL 11 Mq
noncomputable def QA:XS:=(Zm (Zu 2 (Zc Vu [Za 0]))
  (Zm (Zu 3 (Zt 1 [] (XB (Za 2)) (.one 0) ZD (eP (Zk ZJ (Za 0) (eC (.int 0))))))
  (Zm (Zu 4 (Zc WL [Za 3,Za 1]))
  (Zm (WE (xB (KD aC (Za 4))) (Zm (Zu 5 (Zc RX [Za 2,Za 3,Za 1,Za 4]))
  (Zm (YN [3] (XB (Za 5)) (.one 6) (T6 3 (Za 6) (Zc Vh [Zk ZJ (Za 2) (Za 6),Zk ZJ (Za 3) (Za 6)])))
  (Zu 4 (Zc WL [Za 3,Za 1])))))
  (ZO (Za 3))))))
noncomputable def UA:List PV->Option PV:=YL 7 QA
noncomputable def RY:XS:=(Zm (YN [] (WD aC [Za 0]) (.many [3,4]) (T5 (Im (xB (Zk (Nw aC) (Za 3) (Za 1))) (xB (Zk (Xx aC) (Zk (Nw aB) (Zk ZJ (Za 4) (eC (.int 0))) (Za 2)) (Zk (Nw aB) (Zk ZJ (Za 4) (eC (.int 1))) (Za 2))))) (ZO (eP (Za 3))) Yh))
  (ZO (eP (eC .non))))
noncomputable def YX:List PV->Option PV:=YL 5 RY
noncomputable def BN:XS:=(Zm (Zu 3 (Zc Vu [Za 0]))
  (Zm (Zu 4 (X9 [eP (Za 1)]))
  (Zm (Zu 5 (X9 []))
  (Zm (Zu 6 (X9 []))
  (Zm (Zu 7 (Zc YX [Za 3,Za 5,Za 4]))
  (Zm (WE (xB (KD aC (Za 7))) (Zm (YJ 5 (eP (Za 7)))
  (Zm (Zu 8 (eP (J1 (xB (Zk (Nw aB) (Zk ZJ (Zk ZJ (Za 3) (Za 7)) (eC (.int 0))) (Za 4))) (Zk ZJ (Zk ZJ (Za 3) (Za 7)) (eC (.int 1))) (Zk ZJ (Zk ZJ (Za 3) (Za 7)) (eC (.int 0))))))
  (Zm (Zu 9 (eP (Zc ZZ [Zt 1 [8,3] (XB (Za 5)) (.one 0) (xB (Zk (Nw aB) (Za 1) (SO Tu (Zk ZJ (Za 2) (Za 0)) Rw (TJ (eC (.int 2)))))) (Za 0)])))
  (Zm (T5 (xV (BH QS 2 [Za 7,Za 8,Za 9])) (Zm (YJ 4 (eP (Za 8)))
  (YJ 6 (eP (Wk [Za 7,Za 8,Za 9])))) Yh)
  (Zu 7 (Zc YX [Za 3,Za 5,Za 4])))))))
  (ZO (Za 6))))))))
noncomputable def Rg:List PV->Option PV:=YL 10 BN
noncomputable def E3:XS:=(ZO (eP (Zc ZV [Zc Q9 [Zt 1 [] (XB (Zc Rg [Za 0,Za 1,Za 2])) (.one 0) ZD (Zk ZJ (Za 0) (eC (.int 0)))]])))
noncomputable def Tf:List PV->Option PV:=YL 3 E3
noncomputable def E4:XS:=(Zm (Zu 2 (Zc S5 [Zc RQ [Za 1,Zk C7 (Wk [eC (.int 1)]) (Zc ZZ [Za 0])],Zc Oy [Za 0,eC (.int 0)]]))
  (Zm (Zu 3 (eP (EX (Zc UA [Za 0,Za 2]))))
  (Zm (Zu 4 (IX Tf (Za 0) (eC (.int 0)) YW 3))
  (ZO (eP (Wk [Za 4,Zc ZV [Zt 2 [4] (WD aC [Za 3]) (.many [0,1]) (xB (Zk (Nw aC) (Za 0) (Za 2))) (Za 1)]]))))))
noncomputable def RZ:List PV->Option PV:=YL 5 E4
noncomputable def BO:XS:=(ZO (eP (Zc ZV [Zt 1 [0] (Z8 [Zc ZZ [Za 0]]) (.one 0) ZD (Zk Xk (Zk SA (Zc Vt [Za 1,Za 0]) (eC (.int 2))) (eC (.int 1)))])))
noncomputable def OI:List PV->Option PV:=YL 1 BO
noncomputable def Vw:List PV->Option (aj×PV):=fnY 7 (Jc (Mm Yg [Za 0,Za 1]) Om yNo)
theorem Jo:∀ls m l,Vw ls=ag (m,l)->m = "NoTotal":=Ji (EU (IU Rf) Jh)
noncomputable def Jp:XS:=(Zm (sEx (Zc WK [Za 0,Za 1]))
  (Zm (Zu 2 (Zc RU [Za 0,Zc S5 [Za 1,Zc OI [Za 0]],eC (.int 0)]))
  (Zm (Zu 3 (Zc Mh [Za 0,Za 1,Za 2]))
  (Zm (Zu 4 (Zc YB [Za 0,Za 3]))
  (Zm (WE (xB (KD aC (Za 4))) (Zm (Zu 5 (Zc Ve [Za 0,Za 4]))
  (Zm (Zu 2 (Zc RQ [Za 2,Za 5]))
  (Zm (Zu 3 (Zc Mh [Za 0,Za 3,Za 5]))
  (Zu 4 (Zc YB [Za 0,Za 3]))))))
  (Zm (Zu 6 (Zc RZ [Za 0,Za 3]))
  (ZO (eP (Wk [Zc Pa [Za 2],Za 3,Zk ZJ (Za 6) (eC (.int 0)),Zk ZJ (Za 6) (eC (.int 1))])))))))))
noncomputable def X3:List PV->Option PV:=YL 7 Jp
noncomputable def Jq:XS:=(Zm (T5 (Ke (Wj (xB (Zc W9 [Za 1,eC (.ty "tuple")]))) (Ke (Wj (xB (Zc MX [Zt 1 [] (Ts (Za 1)) (.one 0) ZD (Zc Wv [Za 0])]))) (xB (Zk (Xx aC) (Zc ZZ [Za 1]) (Zk Xk (Zc ZZ [Za 0]) (eC (.int 1))))))) (ZO (eP (eC (.bl aB)))) Yh)
  (Zm (Zu 2 (Zc Ra [Za 0]))
  (Zm (Zu 3 (Eo II (Zc ZZ [Za 0])))
  (Zm (YN [] (Ts (Za 1)) (.one 4) (Zm (T5 (Ke (xB (Zk GJ (Za 4) (eC (.int 0)))) (Ke (xB (Zk oGe (Za 4) (Zc ZZ [Za 2]))) (xB (Zk (Xx aB) (Zk ZJ (Za 3) (Zk ZJ (Zk ZJ (Za 2) (Za 4)) (eC (.int 0)))) (Zk ZJ (Za 3) (Zk ZJ (Zk ZJ (Za 2) (Za 4)) (eC (.int 1)))))))) (ZO (eP (eC (.bl aB)))) Yh)
  (Zm (Zu 5 (eP (Zk ZJ (Za 3) (Zk ZJ (Zk ZJ (Za 2) (Za 4)) (eC (.int 0))))))
  (Zu 3 (Zt 1 [5,3,2,4] (XB (Za 3)) (.one 0) ZD (eP (J1 (xB (Zk (Xx aB) (Za 0) (Za 1))) (Zk ZJ (Za 2) (Zk ZJ (Zk ZJ (Za 3) (Za 4)) (eC (.int 1)))) (Za 0))))))))
  (ZO (eP (Zk (Xx aB) (Zc T2 [Za 1]) (Zc Oz [Za 1]))))))))
noncomputable def Vi:List PV->Option PV:=YL 6 Jq
noncomputable def E5:XS:=(Zm (T5 (Ke (Wj (xB (Zc W9 [Za 2,eC (.ty "tuple")]))) (Ke (xB (Zk (Xx aC) (Zc ZZ [Za 2]) (eC (.int 4)))) (Wj (xB (Zc YQ [Zk ZJ (Za 2) (eC (.int 0)),Zc ZZ [Za 0]]))))) (ZO (eP (eC (.bl aB)))) Yh)
  (Zm (T5 (Ke (Wj (xB (Zc YQ [Zk ZJ (Za 2) (eC (.int 1)),Zc ZZ [Za 0]]))) (Ke (xB (Zk (Xx aC) (Zc Fc [Zk ZJ (Za 2) (eC (.int 0))]) (eC (.int 0)))) (xB (Zk (Xx aC) (Zc S8 [Za 0,Za 1,Zk ZJ (Za 2) (eC (.int 0))]) (Zk ZJ (Za 2) (eC (.int 1))))))) (ZO (eP (eC (.bl aB)))) Yh)
  (Zm (T5 (Wj (xB (Zc Vi [Za 0,Zk ZJ (Za 2) (eC (.int 2))]))) (ZO (eP (eC (.bl aB)))) Yh)
  (Zm (Zu 3 (Zc Vf [Za 0,Zk ZJ (Za 2) (eC (.int 2))]))
  (Zm (T5 (Wj (xB (Zc YQ [Zk ZJ (Za 2) (eC (.int 3)),Zc ZZ [Za 3]]))) (ZO (eP (eC (.bl aB)))) Yh)
  (Zm (T5 (Wj (xB (Zc MX [Zt 2 [] (SM aB aC [Zk ZJ (Za 2) (eC (.int 3)),Za 3]) (.many [0,1]) ZD (Zk (Nw aB) (Za 0) (Za 1))]))) (ZO (eP (eC (.bl aB)))) Yh)
  (ZO (eP (Zk (Xx aB) (Zc Ta [Za 0,Zk ZJ (Za 2) (eC (.int 3))]) (Zk ZJ (Za 2) (eC (.int 1))))))))))))
noncomputable def XG:List PV->Option PV:=YL 4 E5
noncomputable def OJ:XS:=(Zm (sOr (Jd Vw [Za 0,Za 1] 2 (ZO (eP (Je "NoTotal" (Za 2))))) (sEx (Zc X3 [Za 0,Za 1])))
  (ZO (eP (eC .non))))
noncomputable def Xt:List PV->Option PV:=YL 3 OJ
noncomputable def Zet:XS:=(Zm (Zu 1 (Zc Pb [Za 0,X9 [eC (.int 1),eC (.int 2),eC (.int 3),eC (.int 4),eC (.int 5)],eC (.int 8)]))
  (Zm (Zu 2 (Zc Te [Za 0,Za 1,eC (.int 13)]))
  (Zm (Zu 3 (Zc X3 [Za 1,Za 2]))
  (Zm (T5 (Wj (xB (Zc XG [Za 1,Za 2,Za 3]))) (ZO (eP (eC (.bl aB)))) Yh)
  (Zm (Zu 4 (Zc X3 [Za 1,Za 2]))
  (Zm (T5 (Ke (Wj (xB (Zc XG [Za 1,Za 2,Za 4]))) (xB (Zk (Xx aC) (Zk ZJ (Za 4) (eC (.int 1))) (Zk ZJ (Za 3) (eC (.int 1)))))) (ZO (eP (eC (.bl aB)))) Yh)
  (Zm (Zu 5 (eP (Zk Qy (Wk [Zk Z6 (Zk Z6 (Zk ZJ (Za 2) (eC (.int 0))) (eC (.int 1))) (Zc ZU [Zc Yk [Za 0,eC (.int 18)],eC (.int 139),eC (.int 4)])]) (SO Tu (Za 2) (TJ (eC (.int 1))) Rw))))
  (ZO (eP (Zk (Xx aB) (Zc Xt [Za 1,Za 5]) (Zc VQ [Za 5])))))))))))
noncomputable def D_law:List PV->Option PV:=YL 6 Zet
end PW
namespace VL
open PySem PySem.Spec PyProof.Rows L2
theorem WM{N P:List aj}{h:du}(a:h.kind = .function:=by rfl)(b:h.isCoroutine=aB:=by rfl)(c:h.isGenerator=aB:=by rfl)(d:N.Nodup:=by decide +kernel)(e:N.take P.length=P:=by rfl)
  (f:∀x∈P,h.names.lookup x=ag .local\/h.names.lookup x=ag .cell:=by decide +kernel) (g:∀y∈h.names,y.2≠.free:=by decide +kernel):Zq N P h:=⟨a,b,c,d,e,f,g⟩
section
variable {X:Cx} {e e1 e2 e3 e4 e5:bB} {f f1 f2 f3 f4 f5:XE} {es:List bB} {fs:List XE} {x:aj} {p pos pos':da} {k k' n:Nat} {O W:List Nat}
theorem vo(i:Nat)(c:X.N[i]?=ag x:=by rfl)(b:Vis X.env.scope x:=by first | exact j8 rfl | exact kd (j8 rfl) | exact kd (kd rfl))(hd:(x==("__debug__" : aj))=aB:=by decide)
  (a:(x==("__classdict__" : aj))=aB:=by decide):VE X (.Name x pos) (Za i):=GG (pv i c b hd a)
theorem Yu(a:VE X e1 f1)(hs:aO [e1] X.env=(aB,eval e1 X.env)::aO [] X.env:=by rfl):VA X [e1] [f1]:=VN a MW hs
theorem Xe(a:VE X e1 f1)(b:VE X e2 f2)(hs:aO [e1,e2] X.env=(aB,eval e1 X.env)::aO [e2] X.env:=by rfl)(c:aO [e2] X.env=(aB,eval e2 X.env)::aO [] X.env:=by rfl):VA X [e1,e2] [f1,f2]:=VN a (Yu b c) hs
theorem Sn(a:VE X e1 f1)(b:VE X e2 f2)(c:VE X e3 f3)(hs:aO [e1,e2,e3] X.env=(aB,eval e1 X.env)::aO [e2,e3] X.env:=by rfl)(d:aO [e2,e3] X.env=(aB,eval e2 X.env)::aO [e3] X.env:=by rfl)(e:aO [e3] X.env=(aB,eval e3 X.env)::aO [] X.env:=by rfl):VA X [e1,e2,e3] [f1,f2,f3]:=VN a (Xe b c d e) hs
theorem va4(a:VE X e1 f1)(b:VE X e2 f2)(c:VE X e3 f3)(d:VE X e4 f4)(hs:aO [e1,e2,e3,e4] X.env=(aB,eval e1 X.env)::aO [e2,e3,e4] X.env:=by rfl)(e:aO [e2,e3,e4] X.env=(aB,eval e2 X.env)::aO [e3,e4] X.env:=by rfl)(g:aO [e3,e4] X.env=(aB,eval e3 X.env)::aO [e4] X.env:=by rfl)(f:aO [e4] X.env=(aB,eval e4 X.env)::aO [] X.env:=by rfl):VA X [e1,e2,e3,e4] [f1,f2,f3,f4]:=VN a (Sn b c d e g f) hs
theorem Tv{c:List aj}{D:List PV->Option PV}(C:Xd X.prog X.w X.K X.mg X.base x c (Y0 X.K D n) k)(j:Room k' X.A)(g:VA X (e::es) fs)(h:k<=k':=by decide)(f:Gl X x:=by rfl)(d:fs.length=n:=by rfl)
  (b:(x==("__debug__" : aj))=aB:=by decide) (i:aO (e::es) X.env=(aB,eval e X.env)::aO es X.env:=by rfl) (a:(ck pos (aO es X.env)).any (·.1)=aB:=by rfl) :
  VM X (.Call (.Name x p) (e::es) [] pos) (Zc D fs):=GN C (j.mono h) f g d b i a
theorem Wb{c:List aj}{D:List PV->Option PV}(C:Xd X.prog X.w X.K X.mg X.base x c (Y0 X.K D n) k)(j:Room k' X.A)(g:VA X (e::es) fs)(h:k<=k':=by decide)(f:Gl X x:=by rfl)(d:fs.length=n:=by rfl)
  (b:(x==("__debug__" : aj))=aB:=by decide) (i:aO (e::es) X.env=(aB,eval e X.env)::aO es X.env:=by rfl) (a:(ck pos (aO es X.env)).any (·.1)=aB:=by rfl) :
  VE X (.Call (.Name x p) (e::es) [] pos) (Zc D fs):=VM.ve (GN C (j.mono h) f g d b i a)
theorem vb{id:String}{r:List V->Hp->VK->Prop}{g:List PV->Option PV}(k:Xh X (.builtin id) r)(l:RC X.K r g)(c:X.mg x=aA)(i:VA X (e::es) fs)(h:Gl X x:=by rfl)(d:dC x=ag (.builtin id):=by decide +kernel)(f:x≠"__name__":=by decide)(b:(x==("__debug__" : aj))=aB:=by decide)
  (j:aO (e::es) X.env=(aB,eval e X.env)::aO es X.env:=by rfl) (a:(ck pos (aO es X.env)).any (·.1)=aB:=by rfl):VE X (.Call (.Name x p) (e::es) [] pos) (Zc g fs):=KH k l h c d i f b j a
theorem vmb{id:String}{r:List V->Hp->VK->Prop}{g:List PV->Option PV}(k:Xh X (.builtin id) r)(l:RCM X.K r g)(c:X.mg x=aA)(i:VA X (e::es) fs)(h:Gl X x:=by rfl)(d:dC x=ag (.builtin id):=by decide +kernel)(f:x≠"__name__":=by decide)(b:(x==("__debug__" : aj))=aB:=by decide)
  (j:aO (e::es) X.env=(aB,eval e X.env)::aO es X.env:=by rfl) (a:(ck pos (aO es X.env)).any (·.1)=aB:=by rfl):VM X (.Call (.Name x p) (e::es) [] pos) (Zc g fs):=CG k l h c d i f b j a
theorem Tw(c:X.mg "len" = aA)(g:VE X e f)(d:Gl X "len":=by rfl)(b:aO [e] X.env=(aB,eval e X.env)::aO [] X.env:=by rfl)(a:(ck pos (aO [] X.env)).any (·.1)=aB:=by rfl):VE X (.Call (.Name "len" p) [e] [] pos) (Zc ZZ [f]):=
 KH D6 Zge d c (by decide +kernel) (Yu g b) (by decide) (by decide) b a
theorem Yp{a:XE}(i:Nat)(d:X.N.Nodup)(c:VM X e a)(f:X.N[i]?=ag x:=by rfl)(b:DS X.env.scope x:=by first | exact j8 rfl | exact kd rfl)(hs:eK e (ag (.Name x pos')) pos.line X.env=pure aB:=by rfl)(g:X.fn x=aC\/X.env.scope.names.lookup x=ag .local:=by first | exact .inl rfl | exact .inr rfl | assumption) :
  VS X O [i] (.Assign [.Name x pos'] e pos) (Zu i a):=Zgi d f b c hs g
theorem QB(i:Nat)(b:X.N.Nodup)(c:X.N[i]?=ag x:=by rfl)(a:DS X.env.scope x:=by first | exact j8 rfl | exact kd rfl)(d:X.fn x=aC\/X.env.scope.names.lookup x=ag .local:=by first | exact .inl rfl | exact .inr rfl | assumption):PG X (.Name x pos) (Sr i):=Ss b c a d
theorem Tx(i:Nat){N:List aj}{a:du}{cl:List (aj×aK)}{C:aK}{s:aM}{H:Hp}{b:List aK}(d:N.Nodup:=by decide +kernel)(f:N[i]?=ag x:=by rfl)(c:DS (ZH X N a cl C s H b).env.scope x:=by exact j8 rfl)(e:(ZH X N a cl C s H b).env.scope.names.lookup x=ag .local:=by rfl):PG (ZH X N a cl C s H b) (.Name x pos) (Sr i):=Ss d f c (.inr e)
end
section
variable {X:Cx} {tg iter oV e1 e2:bB} {fi:XL} {T:Tgt} {ft:XT} {fe f1 f2:XE} {p pos pos':da} {O W:List Nat} {body:List ba} {fb:XS} {scope:du}
theorem Mr(d:VI X tg iter fi)(a:PG X tg (gT X.K T))(b:VSs X O W body fb)(e:ky (model X.prog X.w) X.A X.env X.xe:=by exact g6)(f:X.calm=aC:=by rfl)(c:∀i∈T.slots,i∉O:=by decide)
  (hs:∀x,bq iter X.env x=pure x:=by intro _;rfl):VS X O (T.slots++W) (.For tg iter body [] pos) (YN O fi T fb):=Zgj e f d a b c hs
theorem Lo(a:X.mg "range" = aA)(c:VE X e1 f1)(b:Gl X "range":=by rfl)(hs:aO [e1] X.env=[(aB,eval e1 X.env)]:=by rfl):VI X tg (.Call (.Name "range" p) [e1] [] pos) (Z8 [f1]):=Es b a (Yu c (by rw[hs];rfl)) hs
theorem vr2(b:X.mg "range" = aA)(d:VE X e1 f1)(c:VE X e2 f2)(e:Gl X "range":=by rfl)(hs:aO [e1,e2] X.env=[(aB,eval e1 X.env),(aB,eval e2 X.env)]:=by rfl)(a:aO [e2] X.env=[(aB,eval e2 X.env)]:=by rfl):VI X tg (.Call (.Name "range" p) [e1,e2] [] pos) (Va [f1,f2]):=Et e b (Xe d c (by rw[hs,a]) (by rw[a];rfl)) hs a
theorem Fv(o:aj)(fr:List aj)(ix:List Nat)(a:VI X (.Name o pos') iter fi)(b:∀{cl C s H ex},VE (ZH X ([o]++fr) scope cl C s H ex) oV fe)(S:VJ X.N X.env.scope scope [o] fr ix=aC:=by kernel_rfl)
  (d:([o]++fr).Nodup:=by decide +kernel) (c:∀cl C s H ex,DS (ZH X ([o]++fr) scope cl C s H ex).env.scope o:=by intro _ _ _ _ _;exact j8 rfl) (f:∀cl C s H ex,(ZH X ([o]++fr) scope cl C s H ex).env.scope.names.lookup o=ag .local:=by intro _ _ _ _ _;rfl) (e:X.calm=aC:=by rfl) (hs:∀x,bq iter X.env x=pure x:=by intro _;rfl) :
  VE X (.ListComp oV [⟨.Name o pos',iter,[],0⟩] scope pos) (Zt 1 ix fi (.one 0) ZD fe):=Xm [o] fr ix e a S (λ_ _ _ _ _=>Ss (i:=0) d rfl (c _ _ _ _ _) (.inr (f _ _ _ _ _))) (λ_ _ _ _ _=>Z9) (λ_ _ _ _ _=>b) (λi a=>by cases a with | head=>exact kY | tail _ h=>cases h) hs
theorem vcq{b:List bB}(o:aj)(fr:List aj)(ix:List Nat)(a:VI X (.Name o pos') iter fi)(e:∀{cl C s H ex},VTs (ZH X ([o]++fr) scope cl C s H ex) b ft)(c:∀{cl C s H ex},VE (ZH X ([o]++fr) scope cl C s H ex) oV fe)(S:VJ X.N X.env.scope scope [o] fr ix=aC:=by kernel_rfl)
  (f:([o]++fr).Nodup:=by decide +kernel) (d:∀cl C s H ex,DS (ZH X ([o]++fr) scope cl C s H ex).env.scope o:=by intro _ _ _ _ _;exact j8 rfl) (j:∀cl C s H ex,(ZH X ([o]++fr) scope cl C s H ex).env.scope.names.lookup o=ag .local:=by intro _ _ _ _ _;rfl) (g:X.calm=aC:=by rfl) (hs:∀x,bq iter X.env x=pure x:=by intro _;rfl) :
  VE X (.ListComp oV [⟨.Name o pos',iter,b,0⟩] scope pos) (Zt 1 ix fi (.one 0) ft fe):=Xm [o] fr ix g a S (λ_ _ _ _ _=>Ss (i:=0) f rfl (d _ _ _ _ _) (.inr (j _ _ _ _ _))) (λ_ _ _ _ _=>e) (λ_ _ _ _ _=>c) (λi a=>by cases a with | head=>exact kY | tail _ h=>cases h) hs
end
section
variable {K:aE} {P:ay} {w:b9} {mg:aj->Option aG} {base:bR} {x a b c d e:aj} {st:ba} {N:List aj} {k m:Nat} {O W:List Nat} {f:XS}
abbrev BdA(x:aj)(st:ba)(us:List aG)(r:List (aj×aG)):Prop:=∀(kV doc pm:aG)(an:Option aK)(cdv ct:aG),gx (cV x x (Yy st) (Z2 st) (Zg st) .none kV doc pm an cdv ct) ⟨us,[]⟩=pure r
abbrev Zcg(P:ay)(w:b9)(K:aE)(mg:aj->Option aG)(base:bR)(N:List aj)(x:aj)(st:ba)(k:Nat)(O W:List Nat)(f:XS):Prop:=∀{fa:aK}{cdv:aG}{A:bU}{outer:List jR}{s:aM}{H:Hp}{E:XK},Room k (A.deeper (gh x (Zg st) s.heap.objs.size fa cdv))->VSs (Su MN P w K mg base N x (Zg st) fa cdv A outer s H E).nox O W (Z2 st) f
theorem dk1(O:List Nat)(D:Def K mg x st)(S:Zq N [a] (Zg st))(q:Zcg P w K mg base N x st k O W f)(d:∀t,BdA x st [t] [(a,t)]:=by intro _ _ _ _ _ _ _;rfl)(b:N.length=m:=by rfl)(e:∀i∈O,1<=i:=by decide):Xd P w K mg base x [a] (Y0 K (YL m f) 1) (k+1):=
 Ob m f D S (λ_ _ _ _ _ _ g c=>match g,c with | [t],_=>d t _ _ _ _ _ _) rfl b e λ_ _ _ _ _ _ _ h=>q h
theorem Ms(O:List Nat)(D:Def K mg x st)(S:Zq N [a,b] (Zg st))(q:Zcg P w K mg base N x st k O W f)(e:∀t u,BdA x st [t,u] [(a,t),(b,u)]:=by intro _ _ _ _ _ _ _ _;rfl)(c:N.length=m:=by rfl)(g:∀i∈O,2<=i:=by decide):Xd P w K mg base x [a,b] (Y0 K (YL m f) 2) (k+1):=
 Ob m f D S (λ_ _ _ _ _ _ h d=>match h,d with | [t,u],_=>e t u _ _ _ _ _ _) rfl c g λ_ _ _ _ _ _ _ j=>q j
theorem E6(O:List Nat)(D:Def K mg x st)(S:Zq N [a,b,c] (Zg st))(q:Zcg P w K mg base N x st k O W f)(g:∀t u v,BdA x st [t,u,v] [(a,t),(b,u),(c,v)]:=by intro _ _ _ _ _ _ _ _ _;rfl)(d:N.length=m:=by rfl)(h:∀i∈O,3<=i:=by decide):Xd P w K mg base x [a,b,c] (Y0 K (YL m f) 3) (k+1):=
 Ob m f D S (λ_ _ _ _ _ _ j e=>match j,e with | [t,u,v],_=>g t u v _ _ _ _ _ _) rfl d h λ_ _ _ _ _ _ _ l=>q l
theorem dk4(O:List Nat)(D:Def K mg x st)(S:Zq N [a,b,c,d] (Zg st))(q:Zcg P w K mg base N x st k O W f)(h:∀t u v y,BdA x st [t,u,v,y] [(a,t),(b,u),(c,v),(d,y)]:=by intro _ _ _ _ _ _ _ _ _ _;rfl)(e:N.length=m:=by rfl)(j:∀i∈O,4<=i:=by decide):Xd P w K mg base x [a,b,c,d] (Y0 K (YL m f) 4) (k+1):=
 Ob m f D S (λ_ _ _ _ _ _ l g=>match l,g with | [t,u,v,y],_=>h t u v y _ _ _ _ _ _) rfl e j λ_ _ _ _ _ _ _ n=>q n
end
end VL
namespace PW
open PySem L2 VL VX
section
variable (P:ay) (w:b9) (K:aE) (mg:aj->Option aG) (base:bR)
abbrev UB:Prop:=Xd P w K mg base "_law_pick" ["_law_cell","_law_salt","_law_many"] (Y0 K ZU 3) 1
abbrev Lp:Prop:=Xd P w K mg base "_law_six" ([]:List aj) (Y0 K Ln 0) 1
abbrev V8:Prop:=Xd P w K mg base "_law_read_web" ["_law_number","_law_sizes","_law_most"] (Y0 K Wn 3) 1
abbrev OK:Prop:=Xd P w K mg base "_law_at" ["_law_script","_law_k"] (Y0 K Yk 2) 1
abbrev Lq:Prop:=Xd P w K mg base "_law_web" ["_law_script","_law_sizes","_law_most"] (Y0 K Pb 3) 2
abbrev R0:Prop:=Xd P w K mg base "_law_loops" ["_law_web_here"] (Y0 K U9 1) 1
abbrev R1:Prop:=Xd P w K mg base "_law_drawn" ["_law_script","_law_web_here","_law_at_here"] (Y0 K Te 3) 2
abbrev Pc:Prop:=Xd P w K mg base "total" ["purse"] (Y0 K Xr 1) 1
abbrev Vx:Prop:=Xd P w K mg base "ties_of" ["web"] (Y0 K Vu 1) 1
abbrev Pd:Prop:=Xd P w K mg base "loops" ["web"] (Y0 K Vd 1) 2
abbrev WN:Prop:=Xd P w K mg base "refuse_total" ["web","purse"] (Y0 K WK 2) 3
abbrev R3:Prop:=Xd P w K mg base "reduced" ["row","by","place","divisor"] (Y0 K RS 4) 1
abbrev OL:Prop:=Xd P w K mg base "evened" ["rows"] (Y0 K Ou 1) 2
abbrev WO:Prop:=Xd P w K mg base "solved_below" ["square","column"] (Y0 K WH 2) 3
abbrev Tg:Prop:=Xd P w K mg base "ties_at" ["web","house"] (Y0 K Vt 2) 1
abbrev OM:Prop:=Xd P w K mg base "row_of" ["web","house","others"] (Y0 K Ox 3) 2
abbrev XH:Prop:=Xd P w K mg base "square_without" ["web","base"] (Y0 K XD 2) 3
abbrev R4:Prop:=Xd P w K mg base "nearing" ["web","purse","base"] (Y0 K RU 3) 4
abbrev Hd:Prop:=Xd P w K mg base "gain" ["web","script","house"] (Y0 K Oj 3) 1
abbrev BP:Prop:=Xd P w K mg base "run" ["web","purse","script"] (Y0 K Mh 3) 2
abbrev UC:Prop:=Xd P w K mg base "ties_to" ["web","house","others"] (Y0 K Uz 3) 1
abbrev Wc:Prop:=Xd P w K mg base "lacking_among" ["web","purse"] (Y0 K YB 2) 2
abbrev Pe:Prop:=Xd P w K mg base "minus" ["one","other"] (Y0 K S5 2) 1
abbrev Sb:Prop:=Xd P w K mg base "overfull" ["heads","wanted"] (Y0 K WL 2) 1
abbrev Vj:Prop:=Xd P w K mg base "other_end" ["tie","end"] (Y0 K Vh 2) 1
abbrev R5:Prop:=Xd P w K mg base "way_out" ["ties","heads","wanted","house"] (Y0 K RX 4) 2
abbrev UD:Prop:=Xd P w K mg base "heads_for" ["web","wanted"] (Y0 K UA 2) 3
abbrev XI:Prop:=Xd P w K mg base "tie_to_look_at" ["ties","looked","fire"] (Y0 K YX 3) 1
abbrev ON:Prop:=Xd P w K mg base "walked" ["web","base","burns"] (Y0 K Rg 3) 2
abbrev R6:Prop:=Xd P w K mg base "tree_by" ["web","base","burns"] (Y0 K Tf 3) 3
abbrev Lr:Prop:=Xd P w K mg base "plus" ["one","other"] (Y0 K RQ 2) 1
abbrev OO:Prop:=Xd P w K mg base "one_at" ["web","house"] (Y0 K Oy 2) 1
abbrev R7:Prop:=Xd P w K mg base "made_of" ["web","purse"] (Y0 K RZ 2) 4
abbrev UE:Prop:=Xd P w K mg base "borrowing" ["web","houses"] (Y0 K Ve 2) 1
abbrev Ls:Prop:=Xd P w K mg base "least" ["script"] (Y0 K Pa 1) 1
abbrev OP:Prop:=Xd P w K mg base "middle" ["web"] (Y0 K OI 1) 2
abbrev Rh:Prop:=Xd P w K mg base "broken" ["web","purse"] (Y0 K X3 2) 5
abbrev Rj:Prop:=Xd P w K mg base "_law_ties" ["_law_web_here"] (Y0 K Ra 1) 1
abbrev UG:Prop:=Xd P w K mg base "_law_outside" ["_law_web_here","_law_tree_here"] (Y0 K Vf 2) 2
abbrev Th:Prop:=Xd P w K mg base "_law_whole" ["_law_found"] (Y0 K Wv 1) 1
abbrev UH:Prop:=Xd P w K mg base "_law_is_tree" ["_law_web_here","_law_tree_here"] (Y0 K Vi 2) 2
abbrev Sd:Prop:=Xd P w K mg base "_law_wholes" ["_law_found","_law_many"] (Y0 K YQ 2) 2
abbrev R8:Prop:=Xd P w K mg base "_law_coins" ["_law_web_here","_law_ends_here"] (Y0 K Ta 2) 1
abbrev OQ:Prop:=Xd P w K mg base "_law_lend" ["_law_web_here","_law_purse","_law_script"] (Y0 K S8 3) 1
abbrev R9:Prop:=Xd P w K mg base "_law_right" ["_law_web_here","_law_purse","_law_found"] (Y0 K XG 3) 3
abbrev WQ:Prop:=Xd P w K mg base "_law_total_told" ["_law_web_here","_law_purse"] (Y0 K Xt 2) 6
end
section
variable {P:ay} {w:b9} {K:aE} {mg:aj->Option aG} {base:bR}
theorem He:OG (["tie","house","seen","heads"]:List aj) (["tie","house","seen"]:List aj) YW:=⟨rfl,rfl,rfl,by decide +kernel,by decide +kernel,rfl,by decide +kernel,rfl,by decide +kernel,by decide +kernel⟩
theorem Hf(B:X7 mg):Ft P w K mg base 1 YW (λl ls=>Td (ls.map ag++[ag l])) 3:=
 Zgz (k:=0) Td He (λ_ _ _ _ f d=>match f,d with | [_,_,_],_=>rfl) rfl (λg c e A a s H b=>(G1 b.units (Zh (GG (pv 3)) (GG (pv 0))) (GG (pv 1))))
theorem Zci(B:X7 mg):∀L,(∃l ls r,QS L l ls=ag r)->Ft P w K mg base 1 L (QS L) 3:=by
 intro L ⟨l,ls,r,h⟩;by_cases a:L=YW
 ·have q:QS L=λl ls=>Td (ls.map ag++[ag l]):=by funext l ls;unfold QS;rw[oX a]
  rw[q,a];exact Hf B
 unfold QS at h;rw[oY a] at h;cases h
abbrev OR:ba:=Wo 44
theorem sc_l_pick:Zq ["_law_cell","_law_salt","_law_many","_law_number"] ["_law_cell","_law_salt","_law_many"] (Zg OR):=WM
theorem E7(a:Def K mg "_law_pick" OR)(B:X7 mg):UB P w K mg base:=
 E6 [] a sc_l_pick λb=>
  (Ze (Yp 3 sc_l_pick.nd (VE.pure (Y1 (PR (ZX (Y1 (vo 0) Zf) (vo 1)) (ZX (vo 1) Zf)) Zf)))
  (Ze (Yp 3 sc_l_pick.nd (VE.pure (Y1 (ZX (ZX (PR (vo 3) (vo 3)) (XU (vo 0) Zf)) (vo 1)) Zf)))
  (Zi (Zv (VE.pure (Y1 (XU (vo 3) Zf) (vo 2)))))))
abbrev Lu:ba:=Wo 46
theorem BQ:Zq ([]:List aj) ([]:List aj) (Zg Lu):=WM
theorem BR(d:Def K mg "_law_six" Lu)(B:X7 mg):Lp P w K mg base:=
 Ob (O:=[]) (k:=0) 0 Fu d BQ (λ_ _ _ _ _ _ f e=>match f,e with | [],_=>rfl) rfl rfl (by decide) (λg b A a s H E c=>
  (Zi (Zv (VE.pure (ZF Zs ZQ rfl B.tuple (by decide +kernel) (Yu (BC "_law_one" rfl (Lo B.range Zf) ⟨rfl,λ_=>rfl,λ_=>rfl,by decide +kernel,by decide +kernel,by decide +kernel⟩ (λ_ _ _ _ _=>(Ss (i:=0) (show((["_law_one"]:List aj)).Nodup by decide +kernel) rfl (kd rfl) (.inl rfl))) (λ_ _ _ _ _=>Z9) (λ_ _ _ _ _=>(ZF Zs ZQ rfl B.tuple (by decide +kernel) (Yu (Fv "_law_other" ["_law_one"] [0] (Lo B.range Zf) (ZF NM GO rfl B.int (by decide +kernel) (Yu (Zjk c.units (Y1 (Yi (vo 1) (vo 0)) Zf) Zf))))))))))))))
abbrev V9:ba:=Wo 45
theorem sc_l_read_web:Zq ["_law_number","_law_sizes","_law_most","_law_many","_law_order","_law_pairs","_law_k","_law_more","_law_one","_law_rows","_law_other","_law_times"] ["_law_number","_law_sizes","_law_most"] (Zg V9):=WM
theorem NG(c:Def K mg "_law_read_web" V9)(B:X7 mg):V8 P w K mg base:=
 Zbr (O:=[4,5,9]) (k:=0) 12 V6 c sc_l_read_web (λ_ _ _ _ _ _ e d=>match e,d with | [_,_,_],_=>rfl) rfl rfl (by decide) (λg b A a s H E f=>
  (YD (Yp 3 sc_l_read_web.nd (VE.pure (Zh (vo 1) (Y1 (vo 0) (Tw B.len (vo 1))))))
  (YD (Yp 0 sc_l_read_web.nd (VE.pure (XU (vo 0) (Tw B.len (vo 1)))))
  (YD (Yp 4 sc_l_read_web.nd (XA YT))
  (YD (Yp 5 sc_l_read_web.nd (XA YT))
  (YD (Mr (Lo B.range (vo 3)) (QB 6 sc_l_read_web.nd) (Ze (N8 (YH (Vp bV jd je NX (pv 4) (ZY (Y1 (vo 0) (ZX (vo 6) Zf)) (ZY (vo 6) YF)))))
  (Zi (Yp 0 sc_l_read_web.nd (VE.pure (XU (vo 0) (ZX (vo 6) Zf)))))))
  (YD (Mr (vr2 B.range Zf (vo 3)) (QB 6 sc_l_read_web.nd) (Ze (Y9 (YH (Vp bV cH cI Y6 (pv 5) (ZY (VE.pure (Xl (Xe (vo 6) (Y1 (vo 0) (vo 6))))) YF))))
  (Zi (Yp 0 sc_l_read_web.nd (VE.pure (XU (vo 0) (vo 6)))))))
  (YD (Yp 7 sc_l_read_web.nd (VE.pure (PR (ZF NM GO rfl B.int (by decide +kernel) (Yu (Cw (vo 3) Zf))) (Y1 (vo 0) (ZX (Yi (vo 2) (vo 3)) Zf)))))
  (YD (Yp 0 sc_l_read_web.nd (VE.pure (XU (vo 0) (ZX (Yi (vo 2) (vo 3)) Zf))))
  (YD (Mr (Lo B.range (vo 7)) (QB 6 sc_l_read_web.nd) (Ze (Yp 8 sc_l_read_web.nd (VE.pure (Y1 (vo 0) (vo 3))))
  (Ze (Yp 0 sc_l_read_web.nd (VE.pure (XU (vo 0) (vo 3))))
  (Ze (Y9 (YH (Vp bV cH cI Y6 (pv 5) (ZY (VE.pure (Xl (Xe (vo 8) (Y1 (ZX (ZX (vo 8) Zf) (Y1 (vo 0) (Yi (vo 3) Zf))) (vo 3))))) YF))))
  (Zi (Yp 0 sc_l_read_web.nd (VE.pure (XU (vo 0) (Yi (vo 3) Zf)))))))))
  (YD (V2 (["_law_house"]:List aj) (["_law_many"]:List aj) [3] (i:=9) sc_l_read_web.nd rfl rfl rfl (Lo B.range (vo 3)) (by kernel_rfl) (λ_ _ _ _ _=>(Tx 0)) (λ_ _ _ _ _=>Z9) (λ_ _ _ _ _=>(ID (RL (Yu Zf)) (vo 1))))
  (EB (O':=[9]) (VSs.r (Ze (Mr (YI (vo 5)) (YM (n:=2) rfl (Zw (QB 8 sc_l_read_web.nd) (Zw (QB 10 sc_l_read_web.nd) Yn))) (Ze (Yp 11 sc_l_read_web.nd (VE.pure (ZX (Zh (Zh (vo 9) (Zh (vo 4) (vo 8))) (Zh (vo 4) (vo 10))) Zf)))
  (Ze (U6 (TY (vo 11) (TX (Kp ix_list (pv 9) (Zh (vo 4) (vo 8)) (λ_ _=>rfl)) (Zh (vo 4) (vo 10)) Wz)))
  (Zi (U6 (TY (vo 11) (TX (Kp ix_list (pv 9) (Zh (vo 4) (vo 10)) (λ_ _=>rfl)) (Zh (vo 4) (vo 8)) Wz)))))))
  (Zi (Zv (VE.pure (ZF Zs ZQ rfl B.tuple (by decide +kernel) (Yu (Fv "_law_row" [] [] (YI (vo 9)) (ZF Zs ZQ rfl B.tuple (by decide +kernel) (Yu (vo 0)))))))))))))))))))))))
abbrev Hg:ba:=Wo 43
theorem Zcj:Zq ["_law_script","_law_k"] ["_law_script","_law_k"] (Zg Hg):=WM
theorem Zck(a:Def K mg "_law_at" Hg)(B:X7 mg):OK P w K mg base:=
 Ms [] a Zcj λb=>
  (Zi (Zv (VE.pure (SE (KC (vo 1) (Tw B.len (vo 0))) (Zh (vo 0) (vo 1)) Zf))))
abbrev Lv:ba:=Wo 47
theorem sc_q_web:Zq ["_law_script","_law_sizes","_law_most","_law_many","_law_rows","_law_ties_here","_law_k","_law_cell","_law_one","_law_other","_law_more","_law_by"] ["_law_script","_law_sizes","_law_most"] (Zg Lv):=WM
theorem BS(f:Def K mg "_law_web" Lv)(B:X7 mg)(a:UB P w K mg base)(b:OK P w K mg base)(e:Lp P w K mg base)(c:V8 P w K mg base):Lq P w K mg base:=
 E6 [4] f sc_q_web λd=>
  (Ze (Y8 (TM d.units (Wb a d (Sn (Wb b d (Xe (vo 0) Zf)) Zf Zf)) Zf) (Zi (Zv (BD e (d.mono (by decide)) rfl))) Yb)
  (Ze (Y8 (TM d.units (Y1 (Wb b d (Xe (vo 0) Zf)) Zf) Zf) (Zi (Zv (Tv c d (Sn (Wb b d (Xe (vo 0) Zf)) (vo 1) (vo 2))))) Yb)
  (Ze (Yp 3 sc_q_web.nd (VE.pure (Zh (vo 1) (Wb a d (Sn (Wb b d (Xe (vo 0) Zf)) Zf (Tw B.len (vo 1)))))))
  (Ze (V2 (["_law_house"]:List aj) (["_law_many"]:List aj) [3] (i:=4) sc_q_web.nd rfl rfl rfl (Lo B.range (vo 3)) (by kernel_rfl) (λ_ _ _ _ _=>(Tx 0)) (λ_ _ _ _ _=>Z9) (λ_ _ _ _ _=>(ID (RL (Yu Zf)) (vo 1))))
  (Ze (Yp 5 sc_q_web.nd (VE.pure Zf))
  (Ze (Mr (vr2 B.range Zf Zf) (QB 6 sc_q_web.nd) (Ze (Yp 7 sc_q_web.nd (Tv b d (Xe (vo 0) (vo 6))))
  (Ze (Yp 8 sc_q_web.nd (Tv a d (Sn (vo 7) Zf (vo 3))))
  (Ze (Yp 9 sc_q_web.nd (VE.pure (Y1 (ZX (ZX (vo 8) Zf) (Wb a d (Sn (vo 7) Zf (vb (Ec rfl) Zbc B.max (Xe Zf (Yi (vo 3) Zf)))))) (vo 3))))
  (Ze (Y8 (KC (vo 6) (vo 3)) (Ze (Yp 8 sc_q_web.nd (VE.pure (vo 6)))
  (Zi (Yp 9 sc_q_web.nd (Tv a d (Sn (vo 7) Zf (vo 6)))))) Yb)
  (Ze (Yp 10 sc_q_web.nd (VE.pure (Io (Cw (vo 3) Zf) (Io (Zjd (vo 5) (vo 2)) (CB (Cw (Wb a d (Sn (vo 7) Zf Zf)) Zf))))))
  (Zi (Y8 (VW.vt (Us (KC (vo 6) (vo 3)) (T1 (X8 (vo 10))))) (Ze (U6 (TY (ZX (Zh (Zh (vo 4) (vo 8)) (vo 9)) Zf) (TX (Kp ix_list (pv 4) (vo 8) (λ_ _=>rfl)) (vo 9) Wz)))
  (Ze (U6 (TY (Zh (Zh (vo 4) (vo 8)) (vo 9)) (TX (Kp ix_list (pv 4) (vo 9) (λ_ _=>rfl)) (vo 8) Wz)))
  (Zi (Yp 5 sc_q_web.nd (VE.pure (ZX (vo 5) Zf)))))) Yb))))))))
  (Ze (Yp 11 sc_q_web.nd (Tv a d (Sn (Wb b d (Xe (vo 0) Zf)) Zf (vo 3))))
  (Ze (V2 (["_law_row"]:List aj) (["_law_by"]:List aj) [11] (i:=4) sc_q_web.nd rfl rfl rfl (YI (Zbt (Wu (vo 4) (XX (vo 11)) XW) (Wu (vo 4) XW (XX (vo 11))))) (by kernel_rfl) (λ_ _ _ _ _=>(Tx 0)) (λ_ _ _ _ _=>Z9) (λ_ _ _ _ _=>(M3 (Wu (vo 0) (XX (vo 1)) XW) (Wu (vo 0) XW (XX (vo 1))))))
  (Zi (Zv (VE.pure (ZF Zs ZQ rfl B.tuple (by decide +kernel) (Yu (Fv "_law_row" [] [] (YI (vo 4)) (ZF Zs ZQ rfl B.tuple (by decide +kernel) (Yu (vo 0)))))))))))))))))
abbrev Qa:ba:=Wo 51
theorem Hh:Zq ["_law_web_here"] ["_law_web_here"] (Zg Qa):=WM
theorem Hi(a:Def K mg "_law_loops" Qa)(B:X7 mg):R0 P w K mg base:=
 dk1 [] a Hh λb=>
  (Zi (Zv (VE.pure (ZX (Yi (XU (vb (YS rfl) VR B.sum (Yu (Fv "_law_row" [] [] (T3 (vo 0)) (vb (YS rfl) VR B.sum (Yu (vo 0)))))) Zf) (Tw B.len (vo 0))) Zf))))
abbrev Qb:ba:=Wo 57
theorem sc_l_drawn:Zq ["_law_script","_law_web_here","_law_at_here","_law_number","_law_coins_here","_law_house","_law_big"] ["_law_script","_law_web_here","_law_at_here"] (Zg Qb):=WM
theorem Hj(e:Def K mg "_law_drawn" Qb)(B:X7 mg)(a:OK P w K mg base)(b:R0 P w K mg base)(c:UB P w K mg base):R1 P w K mg base:=
 E6 [4] e sc_l_drawn λd=>
  (Ze (Y8 (TM d.units (Y1 (Wb a d (Xe (vo 0) Zf)) Zf) Zf) (Ze (Yp 3 sc_l_drawn.nd (Tv a d (Xe (vo 0) (vo 2))))
  (Ze (Yp 4 sc_l_drawn.nd (XA YT))
  (Ze (Mr (Lo B.range (Yi (Tw B.len (vo 1)) Zf)) (QB 5 sc_l_drawn.nd) (Ze (Y9 (YH (Vp bV cH cI Y6 (pv 4) (ZY (VE.pure (Yi (Y1 (vo 3) (ZX (U8 Zf (MT Zf Zf)) Zf)) (U8 Zf (MT Zf Zf)))) YF))))
  (Zi (Yp 3 sc_l_drawn.nd (VE.pure (Oq (vo 3) (ZX (U8 Zf (MT Zf Zf)) Zf)))))))
  (Zi (Zv (VE.pure (ZF Zs ZQ rfl B.tuple (by decide +kernel) (Yu (VM.ve (M3 (vo 4) (RL (Yu (Yi (Wb b d (Yu (vo 1))) (vb (YS rfl) VR B.sum (Yu (vo 4)))))))))))))))) Yb)
  (Ze (Yp 6 sc_l_drawn.nd (VE.pure (Zh (RL (Sn Zf Zf (ZX (MT Zf Zf) Zf))) (Wb c d (Sn (Wb a d (Xe (vo 0) (vo 2))) Zf Zf)))))
  (Ze (V2 (["_law_k"]:List aj) (["_law_big","_law_script","_law_at_here"]:List aj) [6,0,2] (i:=4) sc_l_drawn.nd rfl rfl rfl (Lo B.range (Tw B.len (vo 1))) (by kernel_rfl) (λ_ _ _ _ _=>(Tx 0)) (λ_ _ _ _ _=>Z9) (λ_ _ _ _ _=>(VE.pure (U8 (Yi (Wb c d (Sn (Wb a d (Xe (vo 2) (ZX (vo 3) (vo 0)))) Zf Zf)) Zf) (vo 1)))))
  (Ze (P7 (TY (Yi (Wb b d (Yu (vo 1))) (vb (YS rfl) VR B.sum (Yu (Wu (vo 4) XW (XX (RK Zf)))))) (TX (pv 4) (RK Zf) Wz)))
  (Zi (Zv (VE.pure (ZF Zs ZQ rfl B.tuple (by decide +kernel) (Yu (vo 4))))))))))
abbrev Lw:ba:=Wo 10
theorem BU:Zq ["purse"] ["purse"] (Zg Lw):=WM
theorem BV(a:Def K mg "total" Lw)(B:X7 mg):Pc P w K mg base:=
 dk1 [] a BU λb=>
  (Zi (Zv (VE.pure (vb (YS rfl) VR B.sum (Yu (vo 0))))))
abbrev Qc:ba:=Wo 7
theorem sc_ties_of:Zq ["web","ties","a","row","b"] ["web"] (Zg Qc):=WM
theorem Hk(a:Def K mg "ties_of" Qc)(B:X7 mg):Vx P w K mg base:=
 dk1 [1] a sc_ties_of λb=>
  (Ze (Yp 1 sc_ties_of.nd (XA YT))
  (Ze (Mr (Wl aB rfl B.enumerate (Yu (vo 0))) (YM (n:=2) rfl (Zw (QB 2 sc_ties_of.nd) (Zw (QB 3 sc_ties_of.nd) Yn))) (Zi (Mr (vr2 B.range (ZX (vo 2) Zf) (Tw B.len (vo 0))) (QB 4 sc_ties_of.nd) (Zi (N7 (YH (Vp bV jf jg NS (pv 1) (ZY (U2 (["nth"]:List aj) (["a","b"]:List aj) [2,4] rfl (Lo B.range (Zh (vo 3) (vo 4))) (by kernel_rfl) (λ_ _ _ _ _=>(Tx 0)) (λ_ _ _ _ _=>Z9) (λ_ _ _ _ _=>(VE.pure (Xl (Sn (vo 1) (vo 2) (vo 0)))))) YF))))))))
  (Zi (Q3 (pv 1)))))
abbrev Lx:ba:=Wo 8
theorem BW:Zq ["web"] ["web"] (Zg Lx):=WM
theorem BX(c:Def K mg "loops" Lx)(B:X7 mg)(a:Vx P w K mg base):Pd P w K mg base:=
 dk1 [] c BW λb=>
  (Zi (Zv (VE.pure (ZX (Yi (Tw B.len (Wb a b (Yu (vo 0)))) (Tw B.len (vo 0))) Zf))))
abbrev Xu:ba:=Wo 33
theorem Ui:Zq ["web","purse"] ["web","purse"] (Zg Xu):=WM
theorem QU(d:Def K mg "refuse_total" Xu)(B:X7 mg)(b:Pc P w K mg base)(a:Pd P w K mg base):WN P w K mg base:=
 Ms [] d Ui λc=>
  (Zi (Y8 (TN c.units (Wb b c (Yu (vo 1))) (Wb a c (Yu (vo 0)))) (Zi (K1 (W:=[]))) Yb))
theorem Qd{j g:aK}(h:Def K mg "refuse_total" Xu)(B:X7 mg)(Q:VX.Q7 "NoTotal" P w K mg base j g)(a:Pc P w K mg base)(b:Pd P w K mg base):VX.CalX P w K mg base "refuse_total" (["web","purse"]:List aj) (VX.spY K Yg 2) 3:=
 VX.def_yr (O:=[]) (k:=2) 2 (yIf (xB (Zk (Xx aC) (Zc Xr [Za 1]) (Zc Vd [Za 0]))) (RW "NoTotal" (Zc Xr [Za 1])) yNo) h Ui (λ_ _ _ _ _ _ i e=>match i,e with | [_,_],_=>rfl) rfl rfl (by decide) (λl f A d s H E c=>
  (Fq (Zjq (TN c.units (Wb a c (Yu (vo 1))) (Wb b c (Yu (vo 0)))) (Fq (Bq F.excBase_ValueError Q.f.cf (c.mono (by decide)) rfl Q.f.mgo Q.f.no rfl Zb5 (Wb a c (Yu (vo 1))))) Br)))
abbrev Qe:ba:=Wo 20
theorem Hl:Zq ["row","by","place","divisor"] ["row","by","place","divisor"] (Zg Qe):=WM
theorem Hm(a:Def K mg "reduced" Qe)(B:X7 mg):R3 P w K mg base:=
 dk4 [] a Hl λb=>
  (Zi (Zv (VE.pure (ZF Zs ZQ rfl B.tuple (by decide +kernel) (Yu (Xm (["number","other"]:List aj) (["divisor","by","place","row"]:List aj) [3,1,2,0] rfl (PY aB aB rfl B.zip (Xe (vo 0) (vo 1))) (by kernel_rfl) (λ_ _ _ _ _=>(YM (n:=2) rfl (Zw (Tx 0) (Zw (Tx 1) Yn)))) (λ_ _ _ _ _=>Z9) (λ_ _ _ _ _=>(Oq (Yi (U8 (Zh (vo 3) (vo 4)) (vo 0)) (U8 (Zh (vo 5) (vo 4)) (vo 1))) (vo 2)))))))))
abbrev OS:ba:=Wo 19
theorem sc_evened:Zq ["rows","left","divisor","place","by"] ["rows"] (Zg OS):=WM
theorem E8(c:Def K mg "evened" OS)(B:X7 mg)(a:R3 P w K mg base):OL P w K mg base:=
 dk1 [1] c sc_evened λb=>
  (Ze (Yp 1 sc_evened.nd (N2 Sv KI rfl B.list (by decide +kernel) (Yu (vo 0))))
  (Ze (Yp 2 sc_evened.nd (VE.pure Zf))
  (Ze (Mr (Lo B.range (Tw B.len (vo 0))) (QB 3 sc_evened.nd) (Ze (Yp 4 sc_evened.nd (VE.pure (Zh (vo 1) (vo 3))))
  (Ze (V2 (["at","row"]:List aj) (["place","by","divisor"]:List aj) [3,4,2] (i:=1) sc_evened.nd rfl rfl rfl (Wl aC rfl B.enumerate (Yu (vo 1))) (by kernel_rfl) (λ_ _ _ _ _=>(YM (n:=2) rfl (Zw (Tx 0) (Zw (Tx 1) Yn)))) (λ_ _ _ _ _=>Z9) (λ_ _ _ _ _=>(VE.pure (SE (TM b.units (vo 0) (vo 2)) (vo 1) (Wb a b (va4 (vo 1) (vo 3) (vo 2) (vo 4)))))))
  (Zi (Yp 2 sc_evened.nd (VE.pure (Zh (vo 4) (vo 3))))))))
  (Zi (Be (D7 (ZY (vo 2) (ZY (pv 1) YF))))))))
abbrev WR:ba:=Wo 18
theorem sc_solved_below:Zq ["square","column","told"] ["square","column"] (Zg WR):=WM
theorem QV(b:Def K mg "solved_below" WR)(B:X7 mg)(a:OL P w K mg base):WO P w K mg base:=
 Ms [] b sc_solved_below λc=>
  (Ze (Yp 2 sc_solved_below.nd (Tv a c (Yu (Xm (["row","number"]:List aj) ([]:List aj) [] rfl (PY aB aB rfl B.zip (Xe (vo 0) (vo 1))) (by kernel_rfl) (λ_ _ _ _ _=>(YM (n:=2) rfl (Zw (Tx 0) (Zw (Tx 1) Yn)))) (λ_ _ _ _ _=>Z9) (λ_ _ _ _ _=>(W7 Q6 Q8 (vo 0) (Xl (Yu (vo 1)))))))))
  (Zi (Zv (U2 (["row"]:List aj) (["told"]:List aj) [2] rfl (YI (Zh (vo 2) Zf)) (by kernel_rfl) (λ_ _ _ _ _=>(Tx 0)) (λ_ _ _ _ _=>Z9) (λ_ _ _ _ _=>(VE.pure (Oq (Zh (vo 0) (RK Zf)) (Zh (vo 1) Zf))))))))
abbrev Qf:ba:=Wo 6
theorem Hn:Zq ["web","house"] ["web","house"] (Zg Qf):=WM
theorem Ho(a:Def K mg "ties_at" Qf)(B:X7 mg):Tg P w K mg base:=
 Ms [] a Hn λb=>
  (Zi (Zv (VE.pure (vb (YS rfl) VR B.sum (Yu (Zh (vo 0) (vo 1)))))))
abbrev OT:ba:=Wo 23
theorem E9:Zq ["web","house","others"] ["web","house","others"] (Zg OT):=WM
theorem Dc(c:Def K mg "row_of" OT)(B:X7 mg)(a:Tg P w K mg base):OM P w K mg base:=
 E6 [] c E9 λb=>
  (Zi (Zv (VE.pure (ZF Zs ZQ rfl B.tuple (by decide +kernel) (Yu (Fv "other" ["house","web"] [1,0] (YI (vo 2)) (SE (TM b.units (vo 0) (vo 1)) (Wb a b (Xe (vo 2) (vo 1))) (RK (Zh (Zh (vo 2) (vo 1)) (vo 0))))))))))
abbrev XJ:ba:=Wo 22
theorem sc_square_without:Zq ["web","base","others"] ["web","base"] (Zg XJ):=WM
theorem Rk(c:Def K mg "square_without" XJ)(B:X7 mg)(a:OM P w K mg base):XH P w K mg base:=
 Ms [] c sc_square_without λb=>
  (Ze (Yp 2 sc_square_without.nd (U2 (["house"]:List aj) (["base"]:List aj) [1] rfl (Lo B.range (Tw B.len (vo 0))) (by kernel_rfl) (λ_ _ _ _ _=>(Tx 0)) (λ_ _ _ _ _=>(SN (TN b.units (vo 0) (vo 1)))) (λ_ _ _ _ _=>(VE.pure (vo 0)))))
  (Zi (Zv (VE.pure (ZF Zs ZQ rfl B.tuple (by decide +kernel) (Yu (Fv "house" ["web","others"] [0,2] (YI (vo 2)) (Wb a b (Sn (vo 1) (vo 0) (vo 2))))))))))
abbrev Qg:ba:=Wo 25
theorem sc_nearing:Zq ["web","purse","base","column","script"] ["web","purse","base"] (Zg Qg):=WM
theorem Hq(d:Def K mg "nearing" Qg)(B:X7 mg)(b:WO P w K mg base)(a:XH P w K mg base):R4 P w K mg base:=
 E6 [4] d sc_nearing λc=>
  (Ze (Yp 3 sc_nearing.nd (VE.pure (W7 Q6 Q8 (U3 (vo 1) XW (XX (vo 2))) (U3 (vo 1) (XX (ZX (vo 2) Zf)) XW))))
  (Ze (Yp 4 sc_nearing.nd (Tv b c (Xe (Wb a c (Xe (vo 0) (vo 2))) (vo 3))))
  (Ze (N8 (YH (Vp bV jd je NX (pv 4) (ZY (vo 2) (ZY Zf YF)))))
  (Zi (Zv (VE.pure (ZF Zs ZQ rfl B.tuple (by decide +kernel) (Yu (vo 4)))))))))
abbrev Hr:ba:=Wo 13
theorem Zcl:Zq ["web","script","house"] ["web","script","house"] (Zg Hr):=WM
theorem Zcm(a:Def K mg "gain" Hr)(B:X7 mg):Hd P w K mg base:=
 E6 [] a Zcl λb=>
  (Zi (Zv (VE.pure (vb (YS rfl) VR B.sum (Yu (Xm (["other","times"]:List aj) (["script","house"]:List aj) [1,2] rfl (Wl aB rfl B.enumerate (Yu (Zh (vo 0) (vo 2)))) (by kernel_rfl) (λ_ _ _ _ _=>(YM (n:=2) rfl (Zw (Tx 0) (Zw (Tx 1) Yn)))) (λ_ _ _ _ _=>Z9) (λ_ _ _ _ _=>(PR (vo 1) (Yi (Zh (vo 2) (vo 0)) (Zh (vo 2) (vo 3)))))))))))
abbrev BY:ba:=Wo 12
theorem Zg3:Zq ["web","purse","script"] ["web","purse","script"] (Zg BY):=WM
theorem Zg4(b:Def K mg "run" BY)(B:X7 mg)(a:Hd P w K mg base):BP P w K mg base:=
 E6 [] b Zg3 λc=>
  (Zi (Zv (VE.pure (ZF Zs ZQ rfl B.tuple (by decide +kernel) (Yu (Xm (["house","coins"]:List aj) (["web","script"]:List aj) [0,2] rfl (Wl aB rfl B.enumerate (Yu (vo 1))) (by kernel_rfl) (λ_ _ _ _ _=>(YM (n:=2) rfl (Zw (Tx 0) (Zw (Tx 1) Yn)))) (λ_ _ _ _ _=>Z9) (λ_ _ _ _ _=>(ZX (vo 1) (Wb a c (Sn (vo 2) (vo 3) (vo 0)))))))))))
abbrev UI:ba:=Wo 4
theorem Ly:Zq ["web","house","others"] ["web","house","others"] (Zg UI):=WM
theorem Lz(a:Def K mg "ties_to" UI)(B:X7 mg):UC P w K mg base:=
 E6 [] a Ly λb=>
  (Zi (Zv (VE.pure (vb (YS rfl) VR B.sum (Yu (Fv "other" ["web","house"] [0,1] (T3 (vo 2)) (Zh (Zh (vo 1) (vo 2)) (vo 0))))))))
abbrev Wd:ba:=Wo 34
theorem sc_lacking_among:Zq ["web","purse","groups","house","coins","lacks"] ["web","purse"] (Zg Wd):=WM
theorem Qh(b:Def K mg "lacking_among" Wd)(B:X7 mg)(a:UC P w K mg base):Wc P w K mg base:=
 Ms [] b sc_lacking_among λc=>
  (Ze (Yp 2 sc_lacking_among.nd (XA (SH (VE.pure (Xl (Xe (Xl MW) (RK Zf)))) YT)))
  (Ze (Mr (Wl aB rfl B.enumerate (Yu (vo 1))) (YM (n:=2) rfl (Zw (QB 3 sc_lacking_among.nd) (Zw (QB 4 sc_lacking_among.nd) Yn))) (Zi (Yp 2 sc_lacking_among.nd (M3 (vo 2) (Xm (["group","over"]:List aj) (["house","web","coins"]:List aj) [3,0,4] rfl (YI (vo 2)) (by kernel_rfl) (λ_ _ _ _ _=>(YM (n:=2) rfl (Zw (Tx 0) (Zw (Tx 1) Yn)))) (λ_ _ _ _ _=>Z9) (λ_ _ _ _ _=>(Xl (Xe (W7 Q6 Q8 (vo 0) (Xl (Yu (vo 2)))) (Yi (ZX (ZX (vo 1) (vo 4)) Zf) (Wb a c (Sn (vo 3) (vo 2) (vo 0))))))))))))
  (Ze (V2 (["group","over"]:List aj) ([]:List aj) [] (i:=5) sc_lacking_among.nd rfl rfl rfl (YI (Wu (vo 2) (XX Zf) XW)) (by kernel_rfl) (λ_ _ _ _ _=>(YM (n:=2) rfl (Zw (Tx 0) (Zw (Tx 1) Yn)))) (λ_ _ _ _ _=>(SN (KC (vo 1) Zf))) (λ_ _ _ _ _=>(VE.pure (vo 0))))
  (Zi (Zv (VE.pure (SE (Zed (Tw B.len (vo 5)) Zf) (Zh (vo 5) Zf) MS)))))))
abbrev LA:ba:=Wo 16
theorem BZ:Zq ["one","other"] ["one","other"] (Zg LA):=WM
theorem B0(a:Def K mg "minus" LA)(B:X7 mg):Pe P w K mg base:=
 Ms [] a BZ λb=>
  (Zi (Zv (VE.pure (ZF Zs ZQ rfl B.tuple (by decide +kernel) (Yu (Xm (["first","second"]:List aj) ([]:List aj) [] rfl (PY aB aB rfl B.zip (Xe (vo 0) (vo 1))) (by kernel_rfl) (λ_ _ _ _ _=>(YM (n:=2) rfl (Zw (Tx 0) (Zw (Tx 1) Yn)))) (λ_ _ _ _ _=>Z9) (λ_ _ _ _ _=>(Yi (vo 0) (vo 1)))))))))
abbrev Se:ba:=Wo 39
theorem sc_overfull:Zq ["heads","wanted","house","many"] ["heads","wanted"] (Zg Se):=WM
theorem Jr(a:Def K mg "overfull" Se)(B:X7 mg):Sb P w K mg base:=
 Ms [] a sc_overfull λb=>
  (Ze (Mr (Wl aB rfl B.enumerate (Yu (vo 1))) (YM (n:=2) rfl (Zw (QB 2 sc_overfull.nd) (Zw (QB 3 sc_overfull.nd) Yn))) (Zi (Y8 (Zed (Mn (vo 0) (vo 2)) (vo 3)) (Zi (Zv (VE.pure (vo 2)))) Yb)))
  (Zi (Zv (VE.pure MS))))
abbrev UJ:ba:=Wo 41
theorem LB:Zq ["tie","end"] ["tie","end"] (Zg UJ):=WM
theorem LC(b:Def K mg "other_end" UJ)(B:X7 mg):Vj P w K mg base:=
 Ms [] b LB λa=>
  (Zi (Zv (VE.pure (SE (TM a.units (vo 1) (Zh (vo 0) Zf)) (Zh (vo 0) Zf) (Zh (vo 0) Zf)))))
abbrev Qi:ba:=Wo 40
theorem sc_way_out:Zq ["ties","heads","wanted","house","ways","found","looked","here","tie","head","there"] ["ties","heads","wanted","house"] (Zg Qi):=WM
theorem Hs(c:Def K mg "way_out" Qi)(B:X7 mg)(a:Vj P w K mg base):R5 P w K mg base:=
 dk4 [4,5] c sc_way_out λb=>
  (Ze (Yp 4 sc_way_out.nd (Bz (vo 3) (IV (XA YT))))
  (Ze (Yp 5 sc_way_out.nd (XA (SH (VE.pure (vo 3)) YT)))
  (Ze (Yp 6 sc_way_out.nd (VE.pure Zf))
  (Ze (SQ g6 (Zee (Mn (vo 1) (Zh (vo 5) (vo 6))) (Zh (vo 2) (Zh (vo 5) (vo 6)))) (Ze (Yp 7 sc_way_out.nd (VE.pure (Zh (vo 5) (vo 6))))
  (Ze (Mr (Wl aC rfl B.enumerate (Yu (vo 1))) (YM (n:=2) rfl (Zw (QB 8 sc_way_out.nd) (Zw (QB 9 sc_way_out.nd) Yn))) (Ze (Yp 10 sc_way_out.nd (Tv a b (Xe (Zh (vo 0) (vo 8)) (vo 9))))
  (Zi (Y8 (VW.vt (Cz (TM b.units (vo 9) (vo 7)) (GK (Ey (GB b) (vo 10) (vo 4))))) (Ze (Zbh (Zay (GB b) (pv 4) (vo 10) (IV (Zcb (G0 (GB b) (vo 4) (vo 7)) (XA (SH (VE.pure (vo 8)) YT)))) rfl))
  (Zi (Y9 (YH (Vp bV cH cI Y6 (pv 5) (ZY (VE.pure (vo 10)) YF)))))) Yb))))
  (Zi (Zbe (Zfl (i:=6) sc_way_out.nd rfl (j8 rfl) Zf Zfm))))))
  (Zi (Zv (VE.pure (G0 (GB b) (vo 4) (Zh (vo 5) (vo 6))))))))))
abbrev UK:ba:=Wo 38
theorem sc_heads_for:Zq ["web","wanted","ties","heads","full","way","tie"] ["web","wanted"] (Zg UK):=WM
theorem LD(f:Def K mg "heads_for" UK)(B:X7 mg)(d:Vx P w K mg base)(a:Sb P w K mg base)(c:R5 P w K mg base)(b:Vj P w K mg base):UD P w K mg base:=
 Ms [3] f sc_heads_for λe=>
  (Ze (Yp 2 sc_heads_for.nd (Tv d e (Yu (vo 0))))
  (Ze (V2 (["tie"]:List aj) ([]:List aj) [] (i:=3) sc_heads_for.nd rfl rfl rfl (YI (vo 2)) (by kernel_rfl) (λ_ _ _ _ _=>(Tx 0)) (λ_ _ _ _ _=>Z9) (λ_ _ _ _ _=>(VE.pure (Zh (vo 0) Zf))))
  (Ze (Yp 4 sc_heads_for.nd (Tv a e (Xe (vo 3) (vo 1))))
  (Ze (SQ g6 (MV (vo 4)) (Ze (Yp 5 sc_heads_for.nd (Tv c e (va4 (vo 2) (vo 3) (vo 1) (vo 4))))
  (Ze (Mr (YI (vo 5)) (QB 6 sc_heads_for.nd) (Zi (P7 (TY (Wb b e (Xe (Zh (vo 2) (vo 6)) (Zh (vo 3) (vo 6)))) (TX (pv 3) (vo 6) Wz)))))
  (Zi (Yp 4 sc_heads_for.nd (Tv a e (Xe (vo 3) (vo 1))))))))
  (Zi (Q3 (pv 3)))))))
abbrev XM:ba:=Wo 30
theorem sc_tie_to_look_at:Zq ["ties","looked","fire","tie","ends"] ["ties","looked","fire"] (Zg XM):=WM
theorem Rl(b:Def K mg "tie_to_look_at" XM)(B:X7 mg):XI P w K mg base:=
 E6 [] b sc_tie_to_look_at λa=>
  (Ze (Mr (Wl aC rfl B.enumerate (Yu (vo 0))) (YM (n:=2) rfl (Zw (QB 3 sc_tie_to_look_at.nd) (Zw (QB 4 sc_tie_to_look_at.nd) Yn))) (Zi (Y8 (VW.vt (Cz (P9 a.units (vo 3) (vo 1)) (GK (TN a.units (CP a.units (Zh (vo 4) Zf) (vo 2)) (CP a.units (Zh (vo 4) Zf) (vo 2)))))) (Zi (Zv (VE.pure (vo 3)))) Yb)))
  (Zi (Zv (VE.pure MS))))
abbrev OU:ba:=Wo 29
theorem sc_walked:Zq ["web","base","burns","ties","fire","looked","burning","tie","house","seen"] ["web","base","burns"] (Zg OU):=WM
theorem Dd(d:Def K mg "walked" OU)(B:X7 mg)(b:Vx P w K mg base)(a:XI P w K mg base):ON P w K mg base:=
 E6 [4,5,6] d sc_walked λc=>
  (Ze (Yp 3 sc_walked.nd (Tv b c (Yu (vo 0))))
  (Ze (Yp 4 sc_walked.nd (XA (SH (VE.pure (vo 1)) YT)))
  (Ze (Yp 5 sc_walked.nd (XA YT))
  (Ze (Yp 6 sc_walked.nd (XA YT))
  (Ze (Yp 7 sc_walked.nd (Tv a c (Sn (vo 3) (vo 5) (vo 4))))
  (Ze (SQ g6 (MV (vo 7)) (Ze (Y9 (YH (Vp bV cH cI Y6 (pv 5) (ZY (VE.pure (vo 7)) YF))))
  (Ze (Yp 8 sc_walked.nd (VE.pure (SE (CQ c.units (Zh (Zh (vo 3) (vo 7)) Zf) (vo 4)) (Zh (Zh (vo 3) (vo 7)) Zf) (Zh (Zh (vo 3) (vo 7)) Zf))))
  (Ze (Yp 9 sc_walked.nd (VE.pure (Tw B.len (vcq "other" ["house","ties"] [8,3] (YI (vo 5)) (SN (CQ c.units (vo 1) (U3 (Zh (vo 2) (vo 0)) XW (XX Zf)))) (vo 0)))))
  (Ze (Y8 (CA (VM.ve (Zg0 2 rfl (j8 rfl) (Zci B) (c.mono (by decide)) (Sn (vo 7) (vo 8) (vo 9))))) (Ze (Y9 (YH (Vp bV cH cI Y6 (pv 4) (ZY (VE.pure (vo 8)) YF))))
  (Zi (Y9 (YH (Vp bV cH cI Y6 (pv 6) (ZY (VE.pure (Xl (Sn (vo 7) (vo 8) (vo 9)))) YF)))))) Yb)
  (Zi (Yp 7 sc_walked.nd (Tv a c (Sn (vo 3) (vo 5) (vo 4))))))))))
  (Zi (Q3 (pv 6)))))))))
abbrev Qj:ba:=Wo 28
theorem Ht:Zq ["web","base","burns"] ["web","base","burns"] (Zg Qj):=WM
theorem Hu(c:Def K mg "tree_by" Qj)(B:X7 mg)(a:ON P w K mg base):R6 P w K mg base:=
 E6 [] c Ht λb=>
  (Zi (Zv (VE.pure (ZF Zs ZQ rfl B.tuple (by decide +kernel) (Yu (VM.ve (vmb Lb IH B.sorted (Yu (Fv "burnt_by" [] [] (YI (Wb a b (Sn (vo 0) (vo 1) (vo 2)))) (Zh (vo 0) Zf))))))))))
abbrev Hv:ba:=Wo 15
theorem Zcn:Zq ["one","other"] ["one","other"] (Zg Hv):=WM
theorem Zco(a:Def K mg "plus" Hv)(B:X7 mg):Lr P w K mg base:=
 Ms [] a Zcn λb=>
  (Zi (Zv (VE.pure (ZF Zs ZQ rfl B.tuple (by decide +kernel) (Yu (Xm (["first","second"]:List aj) ([]:List aj) [] rfl (PY aB aB rfl B.zip (Xe (vo 0) (vo 1))) (by kernel_rfl) (λ_ _ _ _ _=>(YM (n:=2) rfl (Zw (Tx 0) (Zw (Tx 1) Yn)))) (λ_ _ _ _ _=>Z9) (λ_ _ _ _ _=>(ZX (vo 0) (vo 1)))))))))
abbrev OV:ba:=Wo 11
theorem De:Zq ["web","house"] ["web","house"] (Zg OV):=WM
theorem Dg(b:Def K mg "one_at" OV)(B:X7 mg):OO P w K mg base:=
 Ms [] b De λa=>
  (Zi (Zv (VE.pure (ZF Zs ZQ rfl B.tuple (by decide +kernel) (Yu (Fv "other" ["house"] [1] (Lo B.range (Tw B.len (vo 0))) (SE (TM a.units (vo 0) (vo 1)) Zf Zf)))))))
abbrev Qk:ba:=Wo 37
theorem sc_made_of:Zq ["web","purse","wanted","heads","tree"] ["web","purse"] (Zg Qk):=WM
theorem Hw(h:Def K mg "made_of" Qk)(B:X7 mg)(c:Cst mg "BASE" 0)(e:Pe P w K mg base)(d:OO P w K mg base)(f:Lr P w K mg base)(a:UD P w K mg base)(b:R6 P w K mg base):R7 P w K mg base:=
 Ms [] h sc_made_of λg=>
  (Ze (Yp 2 sc_made_of.nd (Tv e g (Xe (Wb f g (Xe (vo 1) (W7 Zbn Zbo (Xl (Yu Zf)) (Tw B.len (vo 0))))) (Wb d g (Xe (vo 0) (IJ rfl c))))))
  (Ze (Yp 3 sc_made_of.nd (VE.pure (IV (Tv a g (Xe (vo 0) (vo 2))))))
  (Ze (Yp 4 sc_made_of.nd (BL (q:="made_of") (L:=YW) (i:=3) rfl rfl rfl b (g.mono (by decide)) rfl rfl rfl rfl (vo 0) (IJ rfl c) (Option.some_ne_none _) rfl (by decide) rfl rfl ⟨_,rfl,rfl⟩ rfl rfl rfl rfl))
  (Zi (Zv (VE.pure (Xl (Xe (vo 4) (ZF Zs ZQ rfl B.tuple (by decide +kernel) (Yu (Xm (["tie","head"]:List aj) (["tree"]:List aj) [4] rfl (Wl aC rfl B.enumerate (Yu (vo 3))) (by kernel_rfl) (λ_ _ _ _ _=>(YM (n:=2) rfl (Zw (Tx 0) (Zw (Tx 1) Yn)))) (λ_ _ _ _ _=>(SN (P9 g.units (vo 0) (vo 2)))) (λ_ _ _ _ _=>(vo 1)))))))))))))
abbrev UL:ba:=Wo 26
theorem LF:Zq ["web","houses"] ["web","houses"] (Zg UL):=WM
theorem LH(b:Def K mg "borrowing" UL)(B:X7 mg):UE P w K mg base:=
 Ms [] b LF λa=>
  (Zi (Zv (VE.pure (ZF Zs ZQ rfl B.tuple (by decide +kernel) (Yu (Fv "house" ["houses"] [1] (Lo B.range (Tw B.len (vo 0))) (SE (CQ a.units (vo 0) (vo 1)) (RK Zf) Zf)))))))
abbrev LI:ba:=Wo 14
theorem sc_least:Zq ["script","lowest"] ["script"] (Zg LI):=WM
theorem B1(a:Def K mg "least" LI)(B:X7 mg):Ls P w K mg base:=
 dk1 [] a sc_least λb=>
  (Ze (Yp 1 sc_least.nd (VE.pure (vb (Mj rfl) Fd B.min (Yu (vo 0)))))
  (Zi (Zv (VE.pure (ZF Zs ZQ rfl B.tuple (by decide +kernel) (Yu (Fv "often" ["lowest"] [1] (T3 (vo 0)) (Yi (vo 0) (vo 1)))))))))
abbrev OW:ba:=Wo 36
theorem Dh:Zq ["web"] ["web"] (Zg OW):=WM
theorem Di(b:Def K mg "middle" OW)(B:X7 mg)(a:Tg P w K mg base):OP P w K mg base:=
 dk1 [] b Dh λc=>
  (Zi (Zv (VE.pure (ZF Zs ZQ rfl B.tuple (by decide +kernel) (Yu (Fv "house" ["web"] [0] (Lo B.range (Tw B.len (vo 0))) (Yi (XU (Wb a c (Xe (vo 1) (vo 0))) Zf) Zf)))))))
abbrev Rn:ba:=Wo 35
theorem sc_broken:Zq ["web","purse","script","near","houses","step","made"] ["web","purse"] (Zg Rn):=WM
theorem Dj(m:Def K mg "broken" Rn)(B:X7 mg)(k:Cst mg "BASE" 0)(b:WN P w K mg base)(e:R4 P w K mg base)(j:Pe P w K mg base)(f:OP P w K mg base)(h:BP P w K mg base)(a:Wc P w K mg base)(c:UE P w K mg base)(l:Lr P w K mg base)(d:R7 P w K mg base)(i:Ls P w K mg base):Rh P w K mg base:=
 Ms [] m sc_broken λg=>
  (Ze (Zes (Wb b g (Xe (vo 0) (vo 1))))
  (Ze (Yp 2 sc_broken.nd (Tv e g (Sn (vo 0) (Wb j g (Xe (vo 1) (Wb f g (Yu (vo 0))))) (IJ rfl k))))
  (Ze (Yp 3 sc_broken.nd (Tv h g (Sn (vo 0) (vo 1) (vo 2))))
  (Ze (Yp 4 sc_broken.nd (Tv a g (Xe (vo 0) (vo 3))))
  (Ze (SQ g6 (MV (vo 4)) (Ze (Yp 5 sc_broken.nd (Tv c g (Xe (vo 0) (vo 4))))
  (Ze (Yp 2 sc_broken.nd (Tv l g (Xe (vo 2) (vo 5))))
  (Ze (Yp 3 sc_broken.nd (Tv h g (Sn (vo 0) (vo 3) (vo 5))))
  (Zi (Yp 4 sc_broken.nd (Tv a g (Xe (vo 0) (vo 3)))))))))
  (Ze (Yp 6 sc_broken.nd (Tv d g (Xe (vo 0) (vo 3))))
  (Zi (Zv (VE.pure (Xl (va4 (Wb i g (Yu (vo 2))) (vo 3) (Zh (vo 6) Zf) (Zh (vo 6) Zf))))))))))))
theorem Hx{j g:aK}(h:Def K mg "broken" Rn)(B:X7 mg)(Q:VX.Q7 "NoTotal" P w K mg base j g)(b:Cst mg "BASE" 0)(a:VX.CalX P w K mg base "refuse_total" (["web","purse"]:List aj) (VX.spY K Yg 2) 3):VX.CalX P w K mg base "broken" (["web","purse"]:List aj) (VX.spY K Vw 2) 5:=
 VX.def_y (O:=[]) (k:=4) 7 (Jc (Mm Yg [Za 0,Za 1]) Om yNo) h sc_broken (λ_ _ _ _ _ _ i d=>match i,d with | [_,_],_=>rfl) rfl rfl (by decide) (λl e A c s H E f=>
  (Bs (Zb7 a (f.mono (by decide)) rfl (Xe (vo 0) (vo 1)) Fm) (K1 (W:=[])) Br))
abbrev OX:ba:=Wo 52
theorem sc_l_ties:Zq ["_law_web_here","_law_found","_law_one","_law_other"] ["_law_web_here"] (Zg OX):=WM
theorem Dk(a:Def K mg "_law_ties" OX)(B:X7 mg):Rj P w K mg base:=
 dk1 [1] a sc_l_ties λb=>
  (Ze (Yp 1 sc_l_ties.nd (XA YT))
  (Ze (Mr (Lo B.range (Tw B.len (vo 0))) (QB 2 sc_l_ties.nd) (Zi (Mr (vr2 B.range (ZX (vo 2) Zf) (Tw B.len (vo 0))) (QB 3 sc_l_ties.nd) (Zi (N7 (YH (Vp bV jf jg NS (pv 1) (ZY (U2 (["_law_nth"]:List aj) (["_law_one","_law_other"]:List aj) [2,3] rfl (Lo B.range (Zh (Zh (vo 0) (vo 2)) (vo 3))) (by kernel_rfl) (λ_ _ _ _ _=>(Tx 0)) (λ_ _ _ _ _=>Z9) (λ_ _ _ _ _=>(VE.pure (Xl (Xe (vo 1) (vo 2)))))) YF))))))))
  (Zi (Q3 (pv 1)))))
abbrev UM:ba:=Wo 54
theorem sc_l_outside:Zq ["_law_web_here","_law_tree_here","_law_ties_here"] ["_law_web_here","_law_tree_here"] (Zg UM):=WM
theorem LJ(c:Def K mg "_law_outside" UM)(B:X7 mg)(a:Rj P w K mg base):UG P w K mg base:=
 Ms [] c sc_l_outside λb=>
  (Ze (Yp 2 sc_l_outside.nd (Tv a b (Yu (vo 0))))
  (Zi (Zv (U2 (["_law_k"]:List aj) (["_law_ties_here","_law_tree_here"]:List aj) [2,1] rfl (Lo B.range (Tw B.len (vo 2))) (by kernel_rfl) (λ_ _ _ _ _=>(Tx 0)) (λ_ _ _ _ _=>(SN (P9 b.units (vo 0) (vo 2)))) (λ_ _ _ _ _=>(VE.pure (Zh (vo 1) (vo 0))))))))
abbrev Ql:ba:=Wo 48
theorem Hy:Zq ["_law_found"] ["_law_found"] (Zg Ql):=WM
theorem Hz(a:Def K mg "_law_whole" Ql)(B:X7 mg):Th P w K mg base:=
 dk1 [] a Hy λb=>
  (Zi (Zv (VE.pure (Io (vb XZ SJ B.isinstance (Xe (vo 0) (KN rfl B.int (by decide +kernel)))) (CB (Zgc (vb XZ SJ B.isinstance (Xe (vo 0) (KN rfl B.bool (by decide +kernel))))))))))
abbrev UN:ba:=Wo 58
theorem sc_l_is_tree:Zq ["_law_web_here","_law_tree_here","_law_ties_here","_law_marks","_law_k","_law_gone"] ["_law_web_here","_law_tree_here"] (Zg UN):=WM
theorem LK(d:Def K mg "_law_is_tree" UN)(B:X7 mg)(a:Th P w K mg base)(b:Rj P w K mg base):UH P w K mg base:=
 Ms [] d sc_l_is_tree λc=>
  (Ze (Y8 (VW.vt (Us (WC (X8 (vb XZ SJ B.isinstance (Xe (vo 1) (KN rfl B.tuple (by decide +kernel)))))) (Us (WC (X8 (vb (RG rfl) Ir B.all (Yu (Fv "_law_k" [] [] (T3 (vo 1)) (Wb a c (Yu (vo 0)))))))) (T1 (TN c.units (Tw B.len (vo 1)) (Yi (Tw B.len (vo 0)) Zf)))))) (Zi (Zv (VE.pure TF))) Yb)
  (Ze (Yp 2 sc_l_is_tree.nd (Tv b c (Yu (vo 0))))
  (Ze (Yp 3 sc_l_is_tree.nd (Ld rfl rfl B.list rfl B.range (Tw B.len (vo 0))))
  (Ze (Mr (T3 (vo 1)) (QB 4 sc_l_is_tree.nd) (Ze (Y8 (VW.vt (Us (KC (vo 4) Zf) (Us (Zee (vo 4) (Tw B.len (vo 2))) (T1 (TM c.units (Zh (vo 3) (Zh (Zh (vo 2) (vo 4)) Zf)) (Zh (vo 3) (Zh (Zh (vo 2) (vo 4)) Zf))))))) (Zi (Zv (VE.pure TF))) Yb)
  (Ze (Yp 5 sc_l_is_tree.nd (VE.pure (Zh (vo 3) (Zh (Zh (vo 2) (vo 4)) Zf))))
  (Zi (Yp 3 sc_l_is_tree.nd (U2 (["_law_mark"]:List aj) (["_law_gone","_law_marks","_law_ties_here","_law_k"]:List aj) [5,3,2,4] rfl (YI (vo 3)) (by kernel_rfl) (λ_ _ _ _ _=>(Tx 0)) (λ_ _ _ _ _=>Z9) (λ_ _ _ _ _=>(VE.pure (SE (TM c.units (vo 0) (vo 1)) (Zh (vo 2) (Zh (Zh (vo 3) (vo 4)) Zf)) (vo 0))))))))))
  (Zi (Zv (VE.pure (G1 c.units (VM.ve (N2 Sv KI rfl B.list (by decide +kernel) (Yu (vo 1)))) (VM.ve (vmb Lg K6 B.sorted (Yu (vo 1))))))))))))
abbrev Sf:ba:=Wo 49
theorem Js:Zq ["_law_found","_law_many"] ["_law_found","_law_many"] (Zg Sf):=WM
theorem Jt(c:Def K mg "_law_wholes" Sf)(B:X7 mg)(a:Th P w K mg base):Sd P w K mg base:=
 Ms [] c Js λb=>
  (Ze (Y8 (VW.vt (Us (WC (X8 (vb XZ SJ B.isinstance (Xe (vo 0) (KN rfl B.tuple (by decide +kernel)))))) (T1 (TN b.units (Tw B.len (vo 0)) (vo 1))))) (Zi (Zv (VE.pure TF))) Yb)
  (Zi (Zv (VE.pure (vb (RG rfl) Ir B.all (Yu (Fv "_law_one" [] [] (T3 (vo 0)) (Wb a b (Yu (vo 0))))))))))
abbrev Qm:ba:=Wo 56
theorem sc_b_coins:Zq ["_law_web_here","_law_ends_here","_law_coins_here","_law_end"] ["_law_web_here","_law_ends_here"] (Zg Qm):=WM
theorem HA(a:Def K mg "_law_coins" Qm)(B:X7 mg):R8 P w K mg base:=
 Ms [2] a sc_b_coins λb=>
  (Ze (Yp 2 sc_b_coins.nd (ID (RL (Yu Zf)) (Tw B.len (vo 0))))
  (Ze (Mr (T3 (vo 1)) (QB 3 sc_b_coins.nd) (Zi (P7 (TY (ZX (Zh (vo 2) (vo 3)) Zf) (TX (pv 2) (vo 3) Wz)))))
  (Zi (Zv (VE.pure (ZF Zs ZQ rfl B.tuple (by decide +kernel) (Yu (vo 2))))))))
abbrev OY:ba:=Wo 50
theorem sc_l_lend:Zq ["_law_web_here","_law_purse","_law_script","_law_found","_law_house","_law_coins_here","_law_other","_law_step"] ["_law_web_here","_law_purse","_law_script"] (Zg OY):=WM
theorem Dl(a:Def K mg "_law_lend" OY)(B:X7 mg):OQ P w K mg base:=
 E6 [3] a sc_l_lend λb=>
  (Ze (Yp 3 sc_l_lend.nd (XA YT))
  (Ze (Mr (Lo B.range (Tw B.len (vo 0))) (QB 4 sc_l_lend.nd) (Ze (Yp 5 sc_l_lend.nd (VE.pure (Zh (vo 1) (vo 4))))
  (Ze (Mr (Lo B.range (Tw B.len (vo 0))) (QB 6 sc_l_lend.nd) (Ze (Yp 7 sc_l_lend.nd (VE.pure (Yi (Zh (vo 2) (vo 4)) (Zh (vo 2) (vo 6)))))
  (Zi (Yp 5 sc_l_lend.nd (VE.pure (Yi (vo 5) (PR (Zh (Zh (vo 0) (vo 4)) (vo 6)) (vo 7))))))))
  (Zi (Y9 (YH (Vp bV cH cI Y6 (pv 3) (ZY (VE.pure (vo 5)) YF))))))))
  (Zi (Zv (VE.pure (ZF Zs ZQ rfl B.tuple (by decide +kernel) (Yu (vo 3))))))))
abbrev Qn:ba:=Wo 59
theorem sc_l_right:Zq ["_law_web_here","_law_purse","_law_found","_law_some"] ["_law_web_here","_law_purse","_law_found"] (Zg Qn):=WM
theorem HB(g:Def K mg "_law_right" Qn)(B:X7 mg)(a:Sd P w K mg base)(e:OQ P w K mg base)(c:UH P w K mg base)(b:UG P w K mg base)(d:R8 P w K mg base):R9 P w K mg base:=
 E6 [] g sc_l_right λf=>
  (Ze (Y8 (VW.vt (Us (WC (X8 (vb XZ SJ B.isinstance (Xe (vo 2) (KN rfl B.tuple (by decide +kernel)))))) (Us (TN f.units (Tw B.len (vo 2)) Zf) (T1 (WC (X8 (Wb a f (Xe (Zh (vo 2) Zf) (Tw B.len (vo 0)))))))))) (Zi (Zv (VE.pure TF))) Yb)
  (Ze (Y8 (VW.vt (Us (WC (X8 (Wb a f (Xe (Zh (vo 2) Zf) (Tw B.len (vo 0)))))) (Us (TN f.units (vb (Mj rfl) Fd B.min (Yu (Zh (vo 2) Zf))) Zf) (T1 (TN f.units (Wb e f (Sn (vo 0) (vo 1) (Zh (vo 2) Zf))) (Zh (vo 2) Zf)))))) (Zi (Zv (VE.pure TF))) Yb)
  (Ze (Y8 (WC (X8 (Wb c f (Xe (vo 0) (Zh (vo 2) Zf))))) (Zi (Zv (VE.pure TF))) Yb)
  (Ze (Yp 3 sc_l_right.nd (Tv b f (Xe (vo 0) (Zh (vo 2) Zf))))
  (Ze (Y8 (WC (X8 (Wb a f (Xe (Zh (vo 2) Zf) (Tw B.len (vo 3)))))) (Zi (Zv (VE.pure TF))) Yb)
  (Ze (Y8 (WC (X8 (vb (RG rfl) Ir B.all (Yu (Xm (["_law_end","_law_tie"]:List aj) ([]:List aj) [] rfl (PY aB aC rfl B.zip (Xe (Zh (vo 2) Zf) (vo 3))) (by kernel_rfl) (λ_ _ _ _ _=>(YM (n:=2) rfl (Zw (Tx 0) (Zw (Tx 1) Yn)))) (λ_ _ _ _ _=>Z9) (λ_ _ _ _ _=>(CP f.units (vo 0) (vo 1)))))))) (Zi (Zv (VE.pure TF))) Yb)
  (Zi (Zv (VE.pure (G1 f.units (Wb d f (Xe (vo 0) (Zh (vo 2) Zf))) (Zh (vo 2) Zf)))))))))))
abbrev WT:ba:=Wo 60
theorem sc_l_total_told:Zq ["_law_web_here","_law_purse","e"] ["_law_web_here","_law_purse"] (Zg WT):=WM
theorem QX(d:Def K mg "_law_total_told" WT)(B:X7 mg)(a:Rh P w K mg base){f e:aK}(Q:VX.Q7 "NoTotal" P w K mg base f e)(b:VX.CalX P w K mg base "broken" (["web","purse"]:List aj) (VX.spY K Vw 2) 5):WQ P w K mg base:=
 Ms [] d sc_l_total_told λc=>
  (Ze (Zju (Bw Q b Jo (c.mono (by decide)) rfl (Xe (vo 0) (vo 1)) rfl rfl rfl sc_l_total_told.nd rfl rfl rfl (λ_=>(Zi (Zv (VE.pure (Zb4 Q.f.fl (vo 2)))))) (by decide)) (Zb6 (Zi (Zes (Wb a c (Xe (vo 0) (vo 1)))))))
  (Zi (Zv (VE.pure MS))))
abbrev B2:ba:=Wo 61
theorem sc_law:Zq ["_law_script","_law_web_here","_law_purse","_law_found","_law_again","_law_spoilt"] ["_law_script"] (Zg B2):=WM
theorem Zg5{l:aK}{j:eU}(n:Fun K "law" "law" B2 l j)(B:X7 mg)(g:Lq P w K mg base)(d:R1 P w K mg base)(c:Rh P w K mg base)(b:R9 P w K mg base)(e:UB P w K mg base)(h:OK P w K mg base)(a:WQ P w K mg base):Tr P w K mg base MN 7 l j (["_law_script"]:List aj) (Y0 K D_law 1):=
 Zgm (O:=[]) (k:=6) 6 Zet n sc_law rfl rfl (by decide) (λo m A i s H E f=>
  (Ze (Yp 1 sc_law.nd (Tv g f (Sn (vo 0) (RL (VN Zf (va4 Zf Zf Zf Zf))) Zf)))
  (Ze (Yp 2 sc_law.nd (Tv d f (Sn (vo 0) (vo 1) Zf)))
  (Ze (Yp 3 sc_law.nd (Tv c f (Xe (vo 1) (vo 2))))
  (Ze (Y8 (WC (X8 (Wb b f (Sn (vo 1) (vo 2) (vo 3))))) (Zi (Zv (VE.pure TF))) Yb)
  (Ze (Yp 4 sc_law.nd (Tv c f (Xe (vo 1) (vo 2))))
  (Ze (Y8 (VW.vt (Us (WC (X8 (Wb b f (Sn (vo 1) (vo 2) (vo 4))))) (T1 (TN f.units (Zh (vo 4) Zf) (Zh (vo 3) Zf))))) (Zi (Zv (VE.pure TF))) Yb)
  (Ze (Yp 5 sc_law.nd (VE.pure (W7 Q6 Q8 (Xl (Yu (ZX (ZX (Zh (vo 2) Zf) Zf) (Wb e f (Sn (Wb h f (Xe (vo 0) Zf)) Zf Zf))))) (U3 (vo 2) (XX Zf) XW))))
  (Zi (Zv (VE.pure (G1 f.units (Wb a f (Xe (vo 1) (vo 5))) (vb (YS rfl) VR B.sum (Yu (vo 5)))))))))))))))
end
end PW
namespace PW
open L2 VL
theorem OZ{W:List (List Int)}{h:Nat}(a:h<W.length):Vt [wP W,.int (h:Int)]=ag (.int (Zx W h).sum):=by simp[Vt,Mg,YL,ZK,SW a]
theorem O0(l:List Int):Xr [pP l]=ag (.int l.sum):=by simp[Xr,G7,YL,ZK]
theorem Ju(i:Int):Wv [.int i]=ag (.bl aC):=by simp[Wv,Mi,YL,ZK]
noncomputable def O1(a b:List Int):List Int:=(aD a.length).map λi=>Zr a i+Zr b i
noncomputable def QY(a b:List Int):List Int:=(aD a.length).map λi=>Zr a i-Zr b i
theorem Fw{a b:List Int}(h:b.length=a.length)(f:a.length<=1000):RQ [pP a,pP b]=ag (pP (O1 a b)):=by
 have d:Tt (iL a) (iL b)=(aD a.length).map λi=>.tup [.int (Zr a i),.int (Zr b i)]:=by rw[V3 _ _ (by simpa using h),aL];apply ar;intro i c;have c:=aW.mp c;rw[Xq a i c,Xq b i (by omega)]
 have e:Zt 2 [] (SM aB aB [Za 0,Za 1]) (.many [0,1]) ZD (Zk Z6 (Za 0) (Za 1)) [ag (pP a),ag (pP b)]=ag (.lst (iL (O1 a b))):=by rw[ZI (aD a.length) (λi=>.tup [.int (Zr a i),.int (Zr b i)]) (λi=>.int (Zr a i+Zr b i)) (by simp[d]) (by simp;omega) (λi _=>⟨_,rfl,rfl,by simp[setAll,ZP]⟩)];simp[O1]
 simp[RQ,C9,YL,ZK,e]
theorem Jw{a b:List Int}(h:b.length=a.length)(f:a.length<=1000):S5 [pP a,pP b]=ag (pP (QY a b)):=by
 have d:Tt (iL a) (iL b)=(aD a.length).map λi=>.tup [.int (Zr a i),.int (Zr b i)]:=by rw[V3 _ _ (by simpa using h),aL];apply ar;intro i c;have c:=aW.mp c;rw[Xq a i c,Xq b i (by omega)]
 have e:Zt 2 [] (SM aB aB [Za 0,Za 1]) (.many [0,1]) ZD (Zk Xk (Za 0) (Za 1)) [ag (pP a),ag (pP b)]=ag (.lst (iL (QY a b))):=by rw[ZI (aD a.length) (λi=>.tup [.int (Zr a i),.int (Zr b i)]) (λi=>.int (Zr a i-Zr b i)) (by simp[d]) (by simp;omega) (λi _=>⟨_,rfl,rfl,by simp[setAll,ZP]⟩)];simp[QY]
 simp[S5,G8,YL,ZK,e]
theorem Fx(l:List Int):Y7 (iL l)=(aD l.length).map λ(i:Nat)=>.tup [.int (i:Int),.int (Zr l i)]:=by rw[YO,aL];apply ar;intro i a;rw[Xq l i (aW.mp a)]
noncomputable def Rq(W:List (List Int))(S:List Int)(h:Nat):Int:=((aD W.length).map λi=>ZW W h i*(Zr S i-Zr S h)).sum
theorem Zcp{W:List (List Int)}{S:List Int}{h:Nat}(ok:ZA W)(b:h<W.length)(hs:S.length=W.length):Oj [wP W,pP S,.int (h:Int)]=ag (.int (Rq W S h)):=by
 have f:=ok.sq h b;have k:=ok.few
 have e:Zt 2 [1,2] (WD aB [Zk ZJ (Za 0) (Za 2)]) (.many [0,1]) ZD (Zk NC (Za 1) (Zk Xk (Zk ZJ (Za 2) (Za 0)) (Zk ZJ (Za 2) (Za 3)))) [ag (wP W),ag (pP S),ag (.int (h:Int))]=ag (.lst (iL ((aD W.length).map λi=>ZW W h i*(Zr S i-Zr S h)))):=by
  rw[ZI (aD W.length) (λi=>.tup [.int (i:Int),.int (ZW W h i)]) (λi=>.int (ZW W h i*(Zr S i-Zr S h))) (by simp[SW b,Fx,f];intro a _;rfl) (by simp;omega) (λi c=>?_)]
  ·simp
  ·have c:=aW.mp c;refine⟨_,rfl,rfl,?_⟩;have b1:=ok.lo h i b c;have g:=ok.hi h i b c;have d:∀j,CMul (ZW W h i) j:=λj=>Zgr (by omega) (by omega);simp[setAll,ZP,Ys (show i<S.length by omega),Ys (show h<S.length by omega),d]
 simp[Oj,C8,YL,ZK,e,Rq,-bQ]
noncomputable def WU(W:List (List Int))(D S:List Int):List Int:=(aD D.length).map λh=>Zr D h+Rq W S h
theorem B3{W:List (List Int)}{D S:List Int}(ok:ZA W)(hd:D.length=W.length)(hs:S.length=W.length):Mh [wP W,pP D,pP S]=ag (pP (WU W D S)):=by
 have c:=ok.few
 have b:Zt 2 [0,2] (WD aB [Za 1]) (.many [0,1]) ZD (Zk Z6 (Za 1) (Zc Oj [Za 2,Za 3,Za 0])) [ag (wP W),ag (pP D),ag (pP S)]=ag (.lst (iL (WU W D S))):=by
  rw[ZI (aD D.length) (λi=>.tup [.int (i:Int),.int (Zr D i)]) (λh=>.int (Zr D h+Rq W S h)) (by simp[Fx]) (by simp;omega) (λi a=>?_)]
  ·simp[WU]
  ·have a:=aW.mp a;refine⟨_,rfl,rfl,?_⟩;simp[setAll,ZP,Zcp ok (show i<W.length by omega) hs]
 simp[Mh,Zel,YL,ZK,b]
noncomputable def Xv(W:List (List Int))(a b:Nat):List (List Int):=(aD (ZW W a b).toNat).map λ(t:Nat)=>[(a:Int),(b:Int),(t:Int)]
noncomputable def Uj(W:List (List Int))(a:Nat):List (List Int):=(aD (W.length-(a+1))).flatMap λj=>Xv W a (a+1+j)
noncomputable def Yo(W:List (List Int)):List (List Int):=(aD W.length).flatMap (Uj W)
theorem Xb{a:Type}(f:Nat->List a)(i:Nat):(aD (i+1)).flatMap f=(aD i).flatMap f++f i:=by rw[eQ];simp
theorem HC{W:List (List Int)}(ok:ZA W){a b:Nat}(d:a<W.length)(c:b<W.length):(Xv W a b).length<=9:=by have:=ok.hi a b d c;unfold Xv;simp;omega
theorem Dm{W:List (List Int)}(ok:ZA W){a b:Nat}(c:a<W.length)(d:b<W.length)(t:Option PV):Zt 1 [2,4] (Z8 [Zk ZJ (Za 3) (Za 4)]) (.one 0) ZD (eP (Wk [Za 1,Za 2,Za 0])) [ag (wP W),t,ag (.int (a:Int)),ag (pP (Zx W a)),ag (.int (b:Int))]=ag (.lst ((Xv W a b).map pP)):=by
 have g:=ok.sq a c;have b1:=ok.lo a b c d;have f:=ok.hi a b c d;rw[ZI (aD (ZW W a b).toNat) (λi=>.int (i:Int)) (λt=>pP [(a:Int),(b:Int),(t:Int)]) ?_ (by simp;omega) (λi e=>⟨_,rfl,rfl,by simp[ZP]⟩)]
 ·simp[Xv]
 ·exact Yl (by simp[Ys (show b<(Zx W a).length by omega)];show ZW W a b=max (ZW W a b) 0;omega) (by omega)
theorem HD{W:List (List Int)}(ok:ZA W){a:Nat}(e:a<W.length)(acc:List (List Int))(g:acc.length<=1000)(c:Option PV) :
  ∃b,Vs (.one 4) (Wm 1 (Zt 1 [2,4] (Z8 [Zk ZJ (Za 3) (Za 4)]) (.one 0) ZD (eP (Wk [Za 1,Za 2,Za 0])))) (T4 ((a:Int)+1) (W.length-(a+1))) [ag (wP W),ag (.lst (acc.map pP)),ag (.int (a:Int)),ag (pP (Zx W a)),c]
   = ag (.nx [ag (wP W),ag (.lst ((acc++Uj W a).map pP)),ag (.int (a:Int)),ag (pP (Zx W a)),b])/\(Uj W a).length<=63:=by
 have u:=ok.few
 obtain⟨v,k,b,f,n⟩:=SY (T:=.one 4) (fb:=Wm 1 (Zt 1 [2,4] (Z8 [Zk ZJ (Za 3) (Za 4)]) (.one 0) ZD (eP (Wk [Za 1,Za 2,Za 0])))) (ls:=T4 ((a:Int)+1) (W.length-(a+1))) (s:=[ag (wP W),ag (.lst (acc.map pP)),ag (.int (a:Int)),ag (pP (Zx W a)),c])
  (λj st=>∃b,st=[ag (wP W),ag (.lst ((acc++(aD j).flatMap λj=>Xv W a (a+1+j)).map pP)),ag (.int (a:Int)),ag (pP (Zx W a)),b]/\((aD j).flatMap λj=>Xv W a (a+1+j)).length<=9*j)
  ⟨c,by simp,by simp⟩ (λj l st q i=>by
   obtain⟨t,rfl⟩:=KZ q;obtain⟨b,rfl,d⟩:=i;have h:a+1+j<W.length:=by omega
   have p:=Dm ok e h (ag (.lst ((acc++(aD j).flatMap λj=>Xv W a (a+1+j)).map pP)));have o:=HC ok e h;have m:(acc.length+((aD j).flatMap λj=>Xv W a (a+1+j)).length)+(Xv W a (a+1+j)).length<=10000:=by omega
   refine⟨_,_,rfl,?_,ag (.int ((a+1+j:Nat):Int)),rfl,?_⟩
   ·refine(Of p rfl (by rw[aL,aL,aY];exact m)).trans ?_;simp[Xb]
   ·rw[Xb,aY];omega)
 rw[K0] at f n;refine⟨b,?_,?_⟩
 ·rw[k,f];rfl
 ·have:Uj W a=(aD (W.length-(a+1))).flatMap λj=>Xv W a (a+1+j):=rfl;rw[this];omega
theorem Y4{W:List (List Int)}(ok:ZA W):Vu [wP W]=ag (.lst ((Yo W).map pP))/\(Yo W).length<=441:=by
 have p:=ok.few;have a:Y7 (W.map pP)=(aD W.length).map λi=>.tup [.int (i:Int),pP (Zx W i)]:=by rw[YO,aL];apply ar;intro i b;rw[C4 W i (aW.mp b)]
 obtain⟨q,h,x,y,z,e,n⟩:=SY (T:=.many [2,3]) (fb:=YN [1] (Va [Zk Z6 (Za 2) (eC (.int 1)),Zc ZZ [Za 0]]) (.one 4) (Wm 1 (Zt 1 [2,4] (Z8 [Zk ZJ (Za 3) (Za 4)]) (.one 0) ZD (eP (Wk [Za 1,Za 2,Za 0]))))) (s:=[ag (wP W),ag (.lst []),aA,aA,aA])
  (λi st=>∃x y z,st=[ag (wP W),ag (.lst (((aD i).flatMap (Uj W)).map pP)),x,y,z]/\((aD i).flatMap (Uj W)).length<=63*i)
  ⟨aA,aA,aA,by simp,by simp⟩ (λi l st c f=>by
   obtain⟨x,y,z,rfl,d⟩:=f;have b:i<W.length:=by have:=(aS.mp c).1;rw[Ws,aL] at this;exact this
   rw[a,aU,bz b] at c;cases c;obtain⟨g,k,o⟩:=HD ok b ((aD i).flatMap (Uj W)) (by omega) z;refine⟨_,_,rfl,?_,ag (.int (i:Int)),ag (pP (Zx W i)),g,rfl,?_⟩
   ·have m:Va [Zk Z6 (Za 2) (eC (.int 1)),Zc ZZ [Za 0]] (Xn [1] [ag (wP W),ag (.lst (((aD i).flatMap (Uj W)).map pP)),ag (.int (i:Int)),ag (pP (Zx W i)),z])=ag (T4 ((i:Int)+1) (W.length-(i+1))):=by rw[Me (i:=(i:Int)+1) (j:=(W.length:Int)) rfl (by simp[Xn]) ⟨by omega,by omega⟩ ⟨by omega,by omega⟩];congr 2;omega
    show YN _ _ _ _ [ag (wP W),_,ag (.int (i:Int)),ag (pP (Zx W i)),z]=_;rw[C6,m];simp only[aV];rw[k,Xb]
   ·rw[Xb,aY];omega)
 rw[Ws,aL] at e n;refine⟨?_,by have:Yo W=(aD W.length).flatMap (Uj W):=rfl;rw[this];omega⟩;have hs:YL 5 RP [wP W]=ag (.lst ((Yo W).map pP)):=by unfold RP;simp only[YL,Od,SV,CT,Zbi,dQ,aV];show((Vs _ _ (Y7 (W.map pP)) [ag (wP W),ag (.lst []),aA,aA,aA]).bind _).bind Oa=_;rw[h,e];rfl
 exact hs
theorem B4{W:List (List Int)}(ok:ZA W):Vd [wP W]=ag (.int (((Yo W).length:Int)-(W.length:Int)+1)):=by simp[Vd,G6,YL,ZK,(Y4 ok).1]
noncomputable def tk(e:Tie):List YR:=[.inl (e.1:Int),.inl (e.2.1:Int)]
theorem B5{i:Nat}{a fv:XE}{s:ZG}{d k v b:PV}(e:fv s=ag v)(c:a s=ag k)(hd:(s[i]?).join=ag d)(f:Zgl d k v=ag b):VL.sDPut i a fv s=ag (.nx (s.set i (ag b))):=by unfold VL.sDPut;rw[e,c];simp only[aV,hd,f,dQ]
noncomputable def Sg(W:List (List Int)):Prop:=∀P:Nat->Prop,(∀a b,a<W.length->b<W.length->0<ZW W a b->(P a↔P b))->∀i j,i<W.length->j<W.length->(P i↔P j)
theorem O2:∀{l m:List Int},l.Nodup->(∀x∈l,x∈m)->l.length<=m.length
 | [],m,_,_=>eY _
 | x::r,m,nd,h=>by have c:x∈m:=h x (by simp);have a:=aw.mp nd;have:=O2 (l:=r) (m:=m.erase x) a.2 λy b=>(kl (show y≠x from λz=>a.1 (by rw[<-z];exact b))).mpr (h y (by simp[b]));rw[jh c] at this;have d:=kJ c;rw[bK];omega
theorem NH{n:Nat}{l:List Int}(d:l.Nodup)(h:∀x∈l,∃k:Nat,k<n/\x=(k:Int))(e:l.length=n){j:Nat}(c:j<n):(j:Int)∈l:=by
 by_cases q:(j:Int)∈l
 ·exact q
 ·have:=O2 (aw.mpr ⟨q,d⟩) (λx a=>by
   rcases aX.mp a with rfl | a
   ·exact bJ.mpr ⟨j,aW.mpr c,rfl⟩
   ·obtain⟨k,b,rfl⟩:=h x a;exact bJ.mpr ⟨k,aW.mpr b,rfl⟩)
  rw[bK,aL,bt] at this;omega
noncomputable def rL(M:List (List Int)):List PV:=M.map λr=>.lst (iL r)
theorem HE{M:List (List Int)}{a:Nat}(h:a<M.length):(rL M)[a]?=ag (.lst (iL (Zx M a))):=by unfold rL;rw[aU,PM h];rfl
theorem B6{M:List (List Int)}{a b:Nat}{t:Int}:(rL M).set a (.lst ((iL (Zx M a)).set b (.int t)))=rL (RI M a b t):=by unfold rL RI;rw[jA];show _=(List.map (λr=>PV.lst (iL r)) M).set a (PV.lst (((Zx M a).set b t).map PV.int));rw[jA]
theorem Zg6(l:List Int)(k:Nat)(x:Int):(iL l).take k++PV.int x::(iL l).drop k=iL (l.take k++x::l.drop k):=by simp
theorem Zeu(b:Bool)(a:Int)(l:List Int):Nw b (.int a) (.lst (iL l))=ag (.bl (if b then !decide (a∈l) else decide (a∈l))):=by
 have c:((iL l).all λz=>X2 8 z (.int a))=aC:=by rw[kF,bN];intro x _;rfl
 show(ag (iL l)).bind _=_;simp only[aV,oX c]
 have:decide (PV.int a∈iL l)=decide (a∈l):=decide_eq_decide.mpr (by
  rw[bJ];constructor
  ·rintro⟨x,d,e⟩;cases e;exact d
  ·intro h;exact⟨a,h,rfl⟩)
 rw[this]
theorem B7{f g:XS}{s s1:ZG}(a:f s=ag (.nx s1)):Zm f g s=g s1:=by simp only[Od,a,aV]
theorem UO(a b:List Int):(O1 a b).length=a.length:=by simp[O1]
theorem Jx(a b:List Int):(QY a b).length=a.length:=by simp[QY]
theorem Xw(W:List (List Int))(D S:List Int):(WU W D S).length=D.length:=by simp[WU]
theorem Jy{a b:List Int}{i:Nat}(h:i<a.length):Zr (O1 a b) i=Zr a i+Zr b i:=ZC h
theorem Jz{a b:List Int}{i:Nat}(h:i<a.length):Zr (QY a b) i=Zr a i-Zr b i:=ZC h
theorem B8{W:List (List Int)}{a b:List Int}{i:Nat}(h:i<a.length):Zr (WU W a b) i=Zr a i+Rq W b i:=ZC h
theorem Ua{a b:List Int}(c:a.length=b.length)(h:∀i,i<a.length->Zr a i=Zr b i):a=b:=by rw[<-RH a,<-RH b,c];apply ar;intro i d;exact h i (by rw[c];exact aW.mp d)
theorem Pf{W:List (List Int)}(ok:ZA W){i:Nat}(a:i<W.length):(Zx W i).sum=((aD W.length).map λj=>ZW W i j).sum:=by rw[<-MR (Zx W i),ok.sq i a];rfl
theorem HF{W:List (List Int)}(ok:ZA W):((Yo W).length:Int)=((aD W.length).map λa=>((aD (W.length-(a+1))).map λj=>ZW W a (a+1+j)).sum).sum:=by
 have b:∀(f:Nat->List (List Int))(n:Nat),(((aD n).flatMap f).length:Int)=((aD n).map λi=>((f i).length:Int)).sum:=by
  intro f n
  induction n with
  | zero=>rfl
  | succ n ih=>rw[Xb,aY,Z3];omega
 unfold Yo;rw[b];apply Yr;intro a c;unfold Uj;rw[b];apply Yr;intro j d;have:=ok.lo a (a+1+j) c (by omega);unfold Xv;rw[aL,bt];omega
theorem JA{W:List (List Int)}(ok:ZA W):((aD W.length).map λi=>(Zx W i).sum).sum=2*((Yo W).length:Int):=by rw[HF ok,<-Cr (λi j=>ZW W i j) W.length (λi j a b=>ok.sym i j a b) (λi a=>ok.dia i a)];apply Yr;intro i a;exact Pf ok a
theorem Vy{n m:Nat}{ix:List Nat}{d:XL}{c:XT}{b:XE}{s:ZG}(g:Nat->Int)(a:d s=ag (MZ m))(f:m<=1000)(h:∀i:Nat,i<m->∃s1,Xy (.one 0) (.int (i:Int)) (ZP n ix s)=ag s1/\c s1=ag aC/\b s1=ag (.int (g i))) :
  Zt n ix d (.one 0) c b s=ag (.lst (iL ((aD m).map g))):=by
 rw[ZI (aD m) (λi=>.int (i:Int)) (λi=>.int (g i)) a (by simp;omega) (λi e=>h i (aW.mp e))];simp
theorem JB(f g:Nat->Int)(n:Nat):((aD n).map λi=>f i+g i).sum=((aD n).map f).sum+((aD n).map g).sum:=by
 induction n with
 | zero=>rfl
 | succ n ih=>rw[Z3,Z3,Z3,ih];omega
theorem B9(f:Nat->Nat->Int)(n m:Nat):((aD n).map λi=>((aD m).map λj=>f i j).sum).sum=((aD m).map λj=>((aD n).map λi=>f i j).sum).sum:=by
 induction n with
 | zero=>
  have:((aD m).map λj=>((aD 0).map λi=>f i j).sum).sum=0:=by have:=En 0 m;simpa using this
  rw[this];rfl
 | succ n ih=>
  rw[Z3,ih,<-JB];apply Yr;intro j _;rw[Z3]
theorem Aa{W:List (List Int)}(ok:ZA W)(S:List Int):((aD W.length).map λh=>Rq W S h).sum=0:=by
 have c:((aD W.length).map λh=>Rq W S h).sum=((aD W.length).map λi=>((aD W.length).map λj=>ZW W i j*Zr S j).sum).sum-((aD W.length).map λi=>((aD W.length).map λj=>ZW W i j*Zr S i).sum).sum:=by rw[<-GF];apply Yr;intro i _;rw[<-GF];apply Yr;intro j _;rw[j4]
 have b:((aD W.length).map λi=>((aD W.length).map λj=>ZW W i j*Zr S i).sum).sum=((aD W.length).map λi=>((aD W.length).map λj=>ZW W i j*Zr S j).sum).sum:=by rw[B9];apply Yr;intro i d;apply Yr;intro j a;rw[ok.sym j i a d]
 rw[c,b];omega
theorem Pg{W:List (List Int)}{D S:List Int}(ok:ZA W)(hd:D.length=W.length):(WU W D S).sum=D.sum:=by unfold WU;rw[JB,MR,hd,Aa ok,jB]
theorem nth_set{l:List Int}{h i:Nat}{v:Int}(a:i<l.length):Zr (l.set h v) i=if i=h then v else Zr l i:=by
 unfold Zr;rw[aF,aF,bS];by_cases e:h=i
 ·subst e;rw[oX rfl,oX rfl,oX a];rfl
 ·rw[oY e,oY (bP e)]
theorem Ac(l:List Int)(k:Nat):W3 (iL l) aA (ag (k:Int))=iL (l.take k):=by
 unfold W3;rw[HT.sIx_none,HT.sIx_nat,aL,km,m7,<-lV];congr 1;by_cases h:k<=l.length
 ·rw[fS h]
 ·rw[jr (by omega),cB (aa _),cB (by omega)]
theorem HG(l:List Int)(k:Nat):W3 (iL l) (ag (k:Int)) aA=iL (l.drop k):=by
 unfold W3;rw[HT.sIx_none,HT.sIx_nat,aL,<-lY];congr 1;by_cases h:k<=l.length
 ·rw[fS h,cB (by simp)]
 ·rw[jr (by omega),iB (aa _),iB (by omega)];simp
theorem Zcq{l:List Int}{x:Int}(h:x∈l):∃i,i<l.length/\Zr l i=x:=by obtain⟨i,a,e⟩:=cq h;refine⟨i,a,?_⟩;unfold Zr;rw[aF,aJ a,e];rfl
noncomputable def XN(l:List Int):List Int:=(aD l.length).map λi=>Zr l i-Wa l
theorem Sh(l:List Int):(XN l).length=l.length:=by simp[XN]
theorem Si{l:List Int}{i:Nat}(h:i<l.length):Zr (XN l) i=Zr l i-Wa l:=ZC h
end PW
namespace PW
noncomputable def sN:Nat->(Nat->Int)->Int
 | 0,_=>0
 | n+1,f=>sN n f+f n
theorem Zj{f g:Nat->Int}:∀{n:Nat},(∀i,i<n->f i=g i)->sN n f=sN n g
 | 0,_=>rfl
 | n+1,h=>by show sN n f+f n=sN n g+g n;rw[Zj λi a=>h i (by omega),h n (by omega)]
theorem YY{f:Nat->Int}{n:Nat}(h:∀i,i<n->f i=0):sN n f=0:=by
 rw[Zj h];clear h
 induction n with
 | zero=>rfl
 | succ n ih=>show sN n _+0=0;rw[ih];rfl
theorem Z1(f g:Nat->Int):∀n,sN n (λi=>f i+g i)=sN n f+sN n g
 | 0=>rfl
 | n+1=>by show sN n _+(f n+g n)=(sN n f+f n)+(sN n g+g n);rw[Z1 f g n];omega
theorem ZM(c:Int)(f:Nat->Int):∀n,sN n (λi=>c*f i)=c*sN n f
 | 0=>by show(0:Int)=c*0;simp
 | n+1=>by show sN n _+c*f n=c*(sN n f+f n);rw[ZM c f n,kn]
theorem Ub(f:Nat->Nat->Int)(m:Nat):∀n,sN n (λi=>sN m (f i))=sN m (λj=>sN n λi=>f i j)
 | 0=>by show(0:Int)=sN m λ_=>0;rw[YY (λ_ _=>rfl)]
 | n+1=>by show sN n (λi=>sN m (f i))+sN m (f n)=sN m (λj=>(sN n λi=>f i j)+f n j);rw[Z1,Ub f m n]
theorem Yq{f:Nat->Int}{k:Nat}:∀{n:Nat},k<n->(∀i,i<n->i≠k->f i=0)->sN n f=f k
 | 0,h,_=>by omega
 | n+1,h,z=>by
  show sN n f+f n=f k;by_cases q:k=n
  ·subst q;rw[YY λi a=>z i (by omega) (by omega)];omega
  ·rw[Yq (n:=n) (by omega) λi a=>z i (by omega),z n (by omega) (by omega)];omega
theorem Ad{f:Nat->Int}{k:Nat}:∀{n:Nat},k+1<n->(∀i,i<n->i≠k->i≠k+1->f i=0)->sN n f=f k+f (k+1)
 | 0,h,_=>by omega
 | n+1,h,z=>by
  show sN n f+f n=_;by_cases q:k+1=n
  ·subst q;rw[Yq (k:=k) (by omega) λi b a=>z i (by omega) a (by omega)]
  ·rw[Ad (n:=n) (by omega) λi b=>z i (by omega),z n (by omega) (by omega) (by omega)];omega
theorem XY(f:Nat->Int)(n:Nat):((aD n).map f).sum=sN n f:=by
 induction n with
 | zero=>rfl
 | succ n ih=>rw[eQ,bM,di,ih];simp[sN]
abbrev Mt:=Nat->Nat->Int
noncomputable def QC(i:Nat)(A:Mt):Mt:=λr c=>A (if r<i then r else r+1) (c+1)
noncomputable def sg:Nat->Int
 | 0=>1
 | n+1=>- sg n
noncomputable def WV:Nat->Mt->Int
 | 0,_=>1
 | n+1,A=>sN (n+1) λi=>sg i*A i 0*WV n (QC i A)
theorem X4(n:Nat)(A:Mt):WV (n+1) A=sN (n+1) λi=>sg i*A i 0*WV n (QC i A):=rfl
theorem Ww:∀{n:Nat}{A B:Mt},(∀r c,r<n->c<n->A r c=B r c)->WV n A=WV n B
 | 0,_,_,_=>rfl
 | n+1,A,B,h=>by rw[X4,X4];refine Zj λi a=>?_;rw[h i 0 a (by omega),Ww (n:=n) (A:=QC i A) (B:=QC i B) λr c d b=>?_];unfold QC;exact h _ _ (by split<;>omega) (by omega)
theorem Fy:∀{n:Nat}{A B C:Mt}{k:Nat}{x y:Int},k<n->(∀r c,r<n->c<n->r≠k->A r c=C r c/\B r c=C r c)->(∀c,c<n->C k c=x*A k c+y*B k c)->WV n C=x*WV n A+y*WV n B
 | 0,_,_,_,k,_,_,h,_,_=>by omega
 | n+1,A,B,C,k,x,y,hk,h1,h2=>by
  rw[X4,X4,X4,<-ZM,<-ZM,<-Z1];refine Zj λi l=>?_;by_cases q:i=k
  ·subst q;have j:WV n (QC i A)=WV n (QC i C):=Ww λr c d a=>by unfold QC;exact(h1 _ _ (by split<;>omega) (by omega) (by split<;>omega)).1
   have f:WV n (QC i B)=WV n (QC i C):=Ww λr c d a=>by unfold QC;exact(h1 _ _ (by split<;>omega) (by omega) (by split<;>omega)).2
   rw[j,f,h2 0 (by omega),kn,kf];simp only[c9,fY]
  ·obtain⟨g,m⟩:=h1 i 0 l (by omega) q
   have e:WV n (QC i C)=x*WV n (QC i A)+y*WV n (QC i B):=Fy (k:=if k<i then k else k-1) (by split<;>omega) (λr c d a b=>by
    unfold QC
    exact h1 _ _ (by split<;>omega) (by omega) (by split at b<;>split<;>omega)) (λc a=>by
    have e:(if(if k<i then k else k-1)<i then(if k<i then k else k-1) else(if k<i then k else k-1)+1)=k:=by split<;>(try split)<;>omega
    unfold QC;rw[e];exact h2 (c+1) (by omega))
   rw[g,m,e,kn];simp only[c9,fY]
theorem Ph:∀{n:Nat}{A:Mt}{k:Nat},k+1<n->(∀c,c<n->A k c=A (k+1) c)->WV n A=0
 | 0,_,k,h,_=>by omega
 | n+1,A,k,hk,he=>by
  rw[X4,Ad hk]
  ·have e:WV n (QC k A)=WV n (QC (k+1) A):=Ww λr c l f=>by
    unfold QC;by_cases q:r<k
    ·rw[oX q,oX (by omega)]
    ·rw[oY q];by_cases a:r=k
     ·subst a;rw[oX (by omega)];exact(he (c+1) (by omega)).symm
     ·rw[oY (by omega)]
   rw[e,he 0 (by omega)];show sg k*_*_ + - sg k*_*_=0;rw[e7,e7];omega
  ·intro i j m g;rw[Ph (n:=n) (A:=QC i A) (k:=if k+1<i then k else k-1) (by split<;>omega) λc f=>?_,gF];have d:(if(if k+1<i then k else k-1)<i then(if k+1<i then k else k-1) else(if k+1<i then k else k-1)+1)=k:=by split<;>(try split)<;>omega
   have b:(if(if k+1<i then k else k-1)+1<i then(if k+1<i then k else k-1)+1 else(if k+1<i then k else k-1)+1+1)=k+1:=by split<;>(try split)<;>omega
   unfold QC;rw[d,b];exact he (c+1) (by omega)
noncomputable def put(k:Nat)(v:Nat->Int)(A:Mt):Mt:=λr=>if r=k then v else A r
theorem YC(k:Nat)(v:Nat->Int)(A:Mt):put k v A k=v:=by unfold put;rw[oX rfl]
theorem Vn{k r:Nat}(v:Nat->Int)(A:Mt)(h:r≠k):put k v A r=A r:=by unfold put;rw[oY h]
theorem Rr{n k:Nat}{A:Mt}{u v:Nat->Int}{x y:Int}(a:k<n):WV n (put k (λc=>x*u c+y*v c) A)=x*WV n (put k u A)+y*WV n (put k v A):=
 Fy a (λr c _ _ h=>by rw[Vn _ _ h,Vn _ _ h,Vn _ _ h];exact⟨rfl,rfl⟩) (λc _=>by rw[YC,YC,YC])
noncomputable def swp(k:Nat)(A:Mt):Mt:=put k (A (k+1)) (put (k+1) (A k) A)
theorem Zcr{n k:Nat}{A:Mt}(d:k+1<n):WV n (swp k A) = - WV n A:=by
 have two:∀u v:Nat->Int,WV n (put k (λc=>1*u c+1*v c) (put (k+1) (λc=>1*u c+1*v c) A))=0:=λu v=>Ph d λc _=>by rw[YC,Vn _ _ (by omega),YC]
 have same:∀u:Nat->Int,WV n (put k u (put (k+1) u A))=0:=λu=>Ph d λc _=>by rw[YC,Vn _ _ (by omega),YC]
 have a:∀u v:Nat->Int,put k u (put (k+1) v A)=put (k+1) v (put k u A):=λu v=>by
  funext r;unfold put;by_cases q:r=k
  ·rw[oX q,oY (by omega),oX q]
  ·rw[oY q];by_cases b:r=k+1
   ·rw[oX b,oX b]
   ·rw[oY b,oY b,oY q]
 have h:=two (A k) (A (k+1));rw[Rr (by omega),a,Rr d,a,Rr d,<-a,<-a,<-a,<-a,same,same] at h
 have e:put k (A k) (put (k+1) (A (k+1)) A)=A:=by
  funext r;unfold put;by_cases q:r=k
  ·rw[oX q,q]
  ·rw[oY q];by_cases b:r=k+1
   ·rw[oX b,b]
   ·rw[oY b]
 rw[e] at h;unfold swp;omega
theorem UP:∀(d:Nat){n i:Nat}{A:Mt},i+1+d<n->(∀c,c<n->A i c=A (i+1+d) c)->WV n A=0
 | 0,n,i,A,h,e=>Ph h e
 | d+1,n,i,A,h,e=>by
  have b:WV n (swp (i+1+d) A)=0:=UP d (n:=n) (i:=i) (by omega) λc a=>by unfold swp;rw[Vn _ _ (by omega),Vn _ _ (by omega),YC];exact e c a
  rw[Zcr (by omega)] at b;omega
theorem JC{n i j:Nat}{A:Mt}(f:i<n)(d:j<n)(a:i≠j)(e:∀c,c<n->A i c=A j c):WV n A=0:=by
 rcases Nat.lt_or_gt_of_ne a with h | h
 ·exact UP (j-i-1) (i:=i) (by omega) λc b=>by rw[show i+1+(j-i-1)=j by omega];exact e c b
 ·exact UP (i-j-1) (i:=j) (by omega) λc b=>by rw[show j+1+(i-j-1)=i by omega];exact(e c b).symm
theorem JD:∀{n:Nat}{A:Mt},(∀c,c<n->A n c=0)->WV (n+1) A=A n n*WV n A
 | 0,A,_=>by show 0+1*A 0 0*1=A 0 0*1;omega
 | n+1,A,h=>by
  rw[X4 (n+1)];show sN (n+1) _+sg (n+1)*A (n+1) 0*_=_;rw[h 0 (by omega),gF,e8,jB,X4 n,<-ZM];refine Zj λi a=>?_;rw[JD (n:=n) (A:=QC i A) λc b=>?_]
  ·have e:QC i A n n=A (n+1) (n+1):=by unfold QC;rw[oY (by omega)]
   rw[e];simp only[c9,fY]
  ·unfold QC;rw[oY (by omega)];exact h (c+1) (by omega)
theorem O3{n j:Nat}{A:Mt}{a:Nat->Int}{v:Nat->Nat->Int}(b:j<n):∀m,WV n (put j (λc=>sN m λk=>a k*v k c) A)=sN m λk=>a k*WV n (put j (v k) A)
 | 0=>by have:WV n (put j (λc=>0*(0:Int)+0*(0:Int)) A)=0*WV n (put j (λ_=>0) A)+0*WV n (put j (λ_=>0) A):=Rr (u:=λ_=>0) (v:=λ_=>0) b;simp only[e8,jB] at this;exact this
 | m+1=>by have:=Rr (n:=n) (A:=A) (u:=λc=>sN m λk=>a k*v k c) (v:=v m) (x:=1) (y:=a m) b;simp only[ko] at this;show WV n (put j (λc=>(sN m λk=>a k*v k c)+a m*v m c) A)=_;rw[this,O3 b m];rfl
theorem Zcs{n j:Nat}{A:Mt}{a:Nat->Int}(d:j<n):WV n (put j (λc=>sN n λk=>a k*A k c) A)=a j*WV n A:=by
 rw[O3 d n,Yq d]
 ·have:put j (A j) A=A:=by funext r;unfold put;split<;>simp_all
  rw[this]
 ·intro i e b;rw[JC e d b λc _=>by rw[Vn _ _ b,YC],gF]
noncomputable def HH(n:Nat)(A:Mt)(i j:Nat):Int:=WV n (put j (λc=>if c=i then 1 else 0) A)
theorem Zct{n:Nat}{A:Mt}{j:Nat}(b:j<n)(v:Nat->Int):sN n (λi=>v i*HH n A i j)=WV n (put j v A):=by
 unfold HH;rw[<-O3 b n];refine Ww λr c f d=>?_;unfold put;split
 ·show sN n (λk=>v k*if c=k then 1 else 0)=v c;rw[Yq d]
  ·simp
  ·intro i e a;rw[oY (λz=>a z.symm),gF]
 ·rfl
theorem Fz{n:Nat}{A:Mt}{k j:Nat}(b:k<n)(a:j<n):sN n (λi=>A k i*HH n A i j)=if k=j then WV n A else 0:=by
 rw[Zct a];split
 ·rename_i h;subst h;have:put k (A k) A=A:=by funext r;unfold put;split<;>simp_all
  rw[this]
 ·rename_i h;exact JC b a h λc _=>by rw[Vn _ _ h,YC]
abbrev ZL:=Nat×Nat
noncomputable def ind(a b:Nat):Int:=if a=b then 1 else 0
theorem Ae{f g:Nat->Int}{q:Nat}:∀{n:Nat},q<n->(∀x,x<n->x≠q->f x=g x)->sN n f=sN n g+(f q-g q):=by
 intro n d h;have e:=Z1 (λx=>g x) (λx=>f x-g x) n;have b:sN n f=sN n λx=>g x+(f x-g x):=Zj λx _=>by omega
 rw[b,e,Yq (f:=λx=>f x-g x) d (λx c a=>by rw[h x c a];omega)]
theorem Af{f:Nat->Int}:∀{n:Nat},(∀x,x<n->0<=f x)->0<=sN n f
 | 0,_=>dq 0
 | n+1,h=>by have c:=Af (n:=n) λx a=>h x (by omega);have b:=h n (by omega);show 0<=sN n f+f n;omega
noncomputable def prs(n:Nat):List ZL:=(aD n).flatMap λa=>(aD (n-(a+1))).map λj=>(a,a+1+j)
theorem mem_prs{n a b:Nat}:(a,b)∈prs n↔a<b/\b<n:=by
 unfold prs;simp only[iN,aW,bJ,Prod.mk.injEq];constructor
 ·rintro⟨x,d,j,c,rfl,rfl⟩;omega
 ·rintro⟨f,e⟩;exact⟨a,by omega,b-(a+1),by omega,rfl,by omega⟩
structure Wt(n:Nat)(w:Nat->Nat->Int):Prop where
 nn:∀a b,a<n->b<n->0<=w a b
 sy:∀a b,a<n->b<n->w a b=w b a
 dg:∀a,a<n->w a a=0
noncomputable def JE(n:Nat)(w:Nat->Nat->Int):List ZL:=(prs n).flatMap λp=>aQ (w p.1 p.2).toNat p
theorem Zcu(f:ZL->Int):∀n,((prs n).map f).sum=sN n λa=>sN n λb=>if a<b then f (a,b) else 0:=by
 intro n;unfold prs
 have d:∀(l:List Nat)(g:Nat->List ZL),((l.flatMap g).map f).sum=(l.map λa=>((g a).map f).sum).sum:=by
  intro l g
  induction l with
  | nil=>rfl
  | cons a l ih=>rw[m9,bM,di,ih,ak,bp]
 rw[d,XY];refine Zj λa e=>?_;rw[bQ,XY]
 -- the c of the row
 have c:∀k,sN (a+1+k) (λb=>if a<b then f (a,b) else 0)=sN k λj=>f (a,a+1+j):=by
  intro k
  induction k with
  | zero=>exact YY λi h=>oY (by omega)
  | succ k ih=>
   show sN (a+1+k) _+(if a<a+1+k then f (a,a+1+k) else 0)=sN k _+f (a,a+1+k);rw[ih,oX (by omega)]
 have:=c (n-(a+1));rw[show a+1+(n-(a+1))=n by omega] at this;rw[this];rfl
theorem FA(f:ZL->Int)(p:ZL):∀k:Nat,((aQ k p).map f).sum=(k:Int)*f p
 | 0=>by simp
 | k+1=>by rw[dO,ak,bp,FA f p k,Int.natCast_succ,kf];omega
theorem Dn{n:Nat}{w:Nat->Nat->Int}(ok:Wt n w)(f:ZL->Int):((JE n w).map f).sum=sN n λa=>sN n λb=>if a<b then w a b*f (a,b) else 0:=by
 unfold JE
 have c:∀(l:List ZL)(g:ZL->List ZL),((l.flatMap g).map f).sum=(l.map λa=>((g a).map f).sum).sum:=by
  intro l g
  induction l with
  | nil=>rfl
  | cons a l ih=>rw[m9,bM,di,ih,ak,bp]
 rw[c,Zcu (λp=>((aQ (w p.1 p.2).toNat p).map f).sum)];refine Zj λa e=>Zj λb d=>?_;split
 ·rw[FA];rw[gK (ok.nn a b e d)]
 ·rfl
end PW
namespace PK
open PW
theorem Ag{f:Nat->Int}{n p q:Nat}(g:p<n)(d:q<n)(ne:p≠q)(h:∀i,i<n->i≠p->i≠q->f i=0):sN n f=f p+f q:=by
 have e:sN n f=sN n (λi=>(if i=p then f p else 0)+(if i=q then f q else 0)):=Zj λi c=>by
  by_cases a:i=p
  ·subst a;simp[ne]
  ·by_cases b:i=q
   ·subst b;simp[a]
   ·simp[a,b,h i c a b]
 rw[e,Z1,Yq g (λi _ c=>oY c),Yq d (λi _ c=>oY c),oX rfl,oX rfl]
theorem Zg8(f g:Nat->Int)(n:Nat):sN n (λi=>f i-g i)=sN n f-sN n g:=by
 have:sN n (λi=>f i-g i)=sN n (λi=>f i+(-1)*g i):=Zj λi _=>by omega
 rw[this,Z1,ZM];omega
noncomputable def X5(m:Nat->Nat)(G:List Nat)(v:Nat):Bool:=G.any λg=>m g==v
theorem hasM_iff{m:Nat->Nat}{G:List Nat}{v:Nat}:X5 m G v=aC↔∃g,g∈G/\m g=v:=by unfold X5;simp[js]
noncomputable def b1(b:Bool):Int:=if b=aC then 1 else 0
noncomputable def LL(n:Nat)(m:Nat->Nat)(G:List Nat):Int:=sN n λv=>b1 (X5 m G v)
noncomputable def ZN(m:Nat->Nat)(a b:Nat):Nat->Nat:=λx=>if m x=m a then m b else m x
theorem Zj0{m:Nat->Nat}{a b:Nat}{G:List Nat}(ne:m a≠m b):X5 (ZN m a b) G (m a)=aB:=by
 cases q:X5 (ZN m a b) G (m a) with
 | false=>rfl
 | true=>
  obtain⟨g,_,e⟩:=hasM_iff.mp q;unfold ZN at e;split at e
  ·exact absurd e.symm ne
  ·rename_i z;exact absurd e z
theorem Zj1{m:Nat->Nat}{a b:Nat}{G:List Nat}:X5 (ZN m a b) G (m b)=(X5 m G (m a) || X5 m G (m b)):=by
 rw[i7,kT,hasM_iff,hasM_iff,hasM_iff];constructor
 ·rintro⟨g,c,e⟩;unfold ZN at e;split at e
  ·rename_i z;exact .inl ⟨g,c,z⟩
  ·exact .inr ⟨g,c,e⟩
 ·rintro(⟨g,c,e⟩ | ⟨g,c,e⟩)
  ·exact⟨g,c,by unfold ZN;rw[oX e]⟩
  ·exact⟨g,c,by unfold ZN;split<;>first | rfl | exact e⟩
theorem Zj2{m:Nat->Nat}{a b v:Nat}{G:List Nat}(f:v≠m a)(d:v≠m b):X5 (ZN m a b) G v=X5 m G v:=by
 rw[i7,hasM_iff,hasM_iff];constructor
 ·rintro⟨g,c,e⟩;unfold ZN at e;split at e
  ·exact absurd e.symm d
  ·exact⟨g,c,e⟩
 ·rintro⟨g,c,e⟩;exact⟨g,c,by unfold ZN;rw[oY (by rw[e];exact f)];exact e⟩
theorem Ah{n:Nat}{m:Nat->Nat}{a b:Nat}{G:List Nat}(d:m a<n)(c:m b<n)(ne:m a≠m b):LL n (ZN m a b) G=LL n m G-b1 (X5 m G (m a)&&X5 m G (m b)):=by
 have e:LL n (ZN m a b) G-LL n m G=sN n (λv=>b1 (X5 (ZN m a b) G v)-b1 (X5 m G v)):=(Zg8 _ _ n).symm;rw[Ag d c ne (λi _ g f=>by rw[Zj2 g f];omega),Zj0 ne,Zj1] at e;have:b1 aB-b1 (X5 m G (m a))+(b1 (X5 m G (m a) || X5 m G (m b))-b1 (X5 m G (m b))) = - b1 (X5 m G (m a)&&X5 m G (m b)):=by cases X5 m G (m a)<;>cases X5 m G (m b)<;>decide
 omega
theorem Ai(b:Bool):0<=b1 b:=by cases b<;>decide
theorem Aj(b:Bool):b1 b<=1:=by cases b<;>decide
noncomputable def Ak(G:List Nat)(e:ZL):Bool:=decide (e.1∈G)&&decide (e.2∈G)
noncomputable def Um(G:List Nat)(E:List ZL):Int:=(E.map λe=>b1 (Ak G e)).sum
structure MkOk(n:Nat)(m:Nat->Nat)(T:List ZL):Prop where
 lt:∀x,x<n->m x<n
 le:∀G:List Nat,G.Nodup->(∀g∈G,g<n)->Um G T+LL n m G<=G.length
 eq:Um (aD n) T+LL n m (aD n)=n
 inn:∀e∈T,e.1<n/\e.2<n
theorem FC:∀{l m:List Nat},l.Nodup->(∀x∈l,x∈m)->l.length<=m.length
 | [],m,_,_=>eY _
 | x::l,m,nd,sub=>by have a:=aw.mp nd;have c:=sub x (by simp);have:=FC (l:=l) (m:=m.erase x) a.2 λy b=>(kl (λz:y=x=>a.1 (by rw[<-z];exact b))).mpr (sub y (by simp[b]));rw[jh c] at this;have:0<m.length:=kJ c;simp only[bK];omega
theorem Qo(p:Nat->Bool):∀n,sN n (λv=>b1 (p v))=(((aD n).filter p).length:Int)
 | 0=>rfl
 | n+1=>by
  show sN n _+b1 (p n)=_;rw[Qo p n,eQ,mD,aY];cases h:p n<;>simp[kq,h,b1]
theorem MkOk.start(n:Nat):MkOk n (λx=>x) []:=by
 have b:∀(G:List Nat)(v:Nat),X5 (λx=>x) G v=decide (v∈G):=λG v=>by rw[i7,hasM_iff,decide_eq_true_eq];exact⟨λ⟨g,h,e⟩=>e▸h,λh=>⟨v,h,rfl⟩⟩
 refine⟨λx h=>h,λG j f=>?_,?_,by simp⟩
 ·unfold LL;rw[Zj λi _=>by rw[b],Qo]
  have:=FC (l:=(aD n).filter λv=>decide (v∈G)) (dt.filter _) (λx c=>by
   have:=(cQ.mp c).2;simpa using this)
  show(0:Int)+_<=_;omega
 ·unfold LL;rw[Zj λi _=>by rw[b],Qo];rw[ij.mpr λa d=>by simpa using d];show(0:Int)+_=_;simp
noncomputable def Zy(E:List ZL)(i:Nat):ZL:=E.getD i (0,0)
theorem HI{m:Nat->Nat}{a b x y:Nat}(h:m x=m y):ZN m a b x=ZN m a b y:=by unfold ZN;rw[h]
noncomputable def Al(E:List ZL)(F:List Nat):List Nat:=(aD E.length).filter λk=>decide (k∉F)
theorem Dp(p:Nat->Bool)(f:Nat->Int):∀l:List Nat,(l.map f).sum=((l.filter p).map f).sum+((l.filter λk=>!p k).map f).sum
 | []=>rfl
 | a::l=>by
  have:=Dp p f l;cases h:p a<;>simp[kq,h]<;>omega
theorem Rt{a:Type}(l:List a)(d:a):(aD l.length).map (λi=>l.getD i d)=l:=by
 apply iO
 ·simp
 ·intro i b c;simp at b;simp[b]
theorem Am{x:Nat}:∀{G:List Nat},G.Nodup->(G.map λg=>b1 (x==g)).sum=b1 (decide (x∈G))
 | [],_=>rfl
 | g::G,nd=>by
  have a:=aw.mp nd;rw[ak,bp,Am a.2];by_cases e:x=g
  ·subst e;have:decide (x∈G)=aB:=by simp[a.1]
   rw[this];simp[b1]
  ·have b:(x==g)=aB:=by simp[e]
   rw[b];by_cases z:x∈G<;>simp[e,z,b1]
theorem UQ(f g:Nat->Int):∀l:List Nat,(l.map λi=>f i+g i).sum=(l.map f).sum+(l.map g).sum
 | []=>rfl
 | a::l=>by simp only[ak,bp,UQ f g l];omega
theorem Ru{G:List Nat}(b:G.Nodup):∀X:List Nat,(G.map λg=>((X.count g:Nat):Int)).sum=(X.map λx=>b1 (decide (x∈G))).sum
 | []=>by
  have:∀G:List Nat,(G.map λg=>(((([]:List Nat)).count g:Nat):Int)).sum=0:=by
   intro G
   induction G with
   | nil=>rfl
   | cons a G ih=>simpa using ih
  rw[this];rfl
 | x::X=>by
  rw[ak,bp,<-Ru b X,<-Am b,<-UQ];congr 1;refine ar λg _=>?_;rw[fT];by_cases e:x=g
  ·subst e;simp[b1];omega
  ·have:(x==g)=aB:=by simp[e]
   simp[this,b1]
noncomputable def ZS:Nat->List (List Nat)
 | 0=>[[]]
 | n+1=>ZS n++(ZS n).map (·++[n])
theorem Ti:∀{n:Nat}{G:List Nat},G∈ZS n->G.Pairwise (· < ·)/\(∀g∈G,g<n)/\G.length<=n/\(G.length=n->G=aD n)
 | 0,G,h=>by rw[ZS,aN] at h;subst h;simp
 | n+1,G,h=>by
  rw[ZS] at h;rcases ah.mp h with h | h
  ·obtain⟨a,b,c,d⟩:=Ti h;exact⟨a,λg f=>eZ (b g f),by omega,λe=>by omega⟩
  ·obtain⟨k,h',rfl⟩:=bJ.mp h;obtain⟨a,b,c,d⟩:=Ti h';refine⟨?_,λg f=>?_,by simp;omega,λe=>?_⟩
   ·rw[List.pairwise_append];exact⟨a,by simp,λx j y i=>by rw[aN.mp i];exact b x j⟩
   ·rcases ah.mp f with z | z
    ·exact eZ (b g z)
    ·rw[aN.mp z];exact fF _
   ·rw[aY] at e;simp only[dS] at e;rw[d (by omega),eQ]
theorem Tj:∀n,∃r,ZS n=[]::r/\∀G∈r,G≠[]
 | 0=>⟨[],rfl,by simp⟩
 | n+1=>by
  obtain⟨r,e,h⟩:=Tj n;refine⟨r++(ZS n).map (·++[n]),by rw[ZS,e];rfl,λG a=>?_⟩;rcases ah.mp a with z | z
  ·exact h G z
  ·obtain⟨b,_,rfl⟩:=bJ.mp z;simp
theorem Vk(p:Nat->Bool):∀n,(aD n).filter p∈ZS n
 | 0=>by simp[ZS]
 | n+1=>by
  rw[eQ,mD,ZS];have:=Vk p n;cases h:p n
  ·simp only[kq,h];rw[cL];exact bA _ this
  ·simp only[kq,h];exact aq _ (ik this)
theorem O4:∀n,(ZS n).length=2^n
 | 0=>rfl
 | n+1=>by rw[ZS,aY,aL,O4 n,Nat.pow_succ];omega
section
variable (w:Nat->Nat->Int)
noncomputable def HJ(h:Nat)(G:List Nat):Int:=(G.map (w h)).sum
noncomputable def tw(G:List Nat):Int:=(G.map λi=>HJ w i G).sum
theorem Zcv{n:Nat}(e:∀a b,a<n->b<n->w a b=w b a)(f:∀a,a<n->w a a=0){G:List Nat}(j:∀g∈G,g<n){h:Nat}(c:h<n):tw w (G++[h])=tw w G+2*HJ w h G:=by
 unfold tw HJ;simp only[ak,fL,bp,kK,bM,di];rw[UQ (λi=>(G.map (w i)).sum) (λi=>w i h+0) G,f h c];have:(G.map λi=>w i h+0).sum=(G.map (w h)).sum:=by congr 1;refine ar λg d=>?_;rw[e g h (j g d) c];omega
 rw[this];omega
noncomputable def Kf(D:Nat->Int)(G:List Nat):Int:=(G.map D).sum+G.length-1-tw w G/2
theorem An{n:Nat}(c:∀a b,a<n->b<n->w a b=w b a)(d:∀a,a<n->w a a=0)(D:Nat->Int){G:List Nat}(e:∀g∈G,g<n){h:Nat}(f:h<n):Kf w D (G++[h])=Kf w D G+D h+1-HJ w h G:=by unfold Kf;rw[Zcv w c d e f,bM,di,aY];simp only[ak,fL,bp,kK,dS];omega
end
theorem Tn{n:Nat}(f:Nat->Int):∀{G:List Nat},G.Nodup->(∀g∈G,g<n)->(G.map f).sum=sN n λi=>b1 (decide (i∈G))*f i
 | [],_,_=>by rw[YY λi _=>by simp[b1]];rfl
 | g::G,nd,hG=>by
  have a:=aw.mp nd;rw[ak,bp,Tn f a.2 λx c=>hG x (by simp[c])]
  have:sN n (λi=>b1 (decide (i∈g::G))*f i)=sN n (λi=>(if i=g then f g else 0)+b1 (decide (i∈G))*f i):=Zj λi b=>by
   by_cases e:i=g
   ·subst e;simp[a.1,b1]
   ·simp[e]
  rw[this,Z1,Yq (k:=g) (hG g (by simp)) λi _ b=>oY b,oX rfl]
theorem Zcw{n:Nat}{u:Nat->Nat->Int}(g:∀a b,a<n->b<n->u a b=u b a)(f:∀a,a<n->u a a=0):sN n (λa=>sN n (u a))=2*sN n (λa=>sN n λb=>if a<b then u a b else 0):=by
 have e:sN n (λa=>sN n (u a))=sN n (λa=>sN n (λb=>if a<b then u a b else 0)+sN n (λb=>if b<a then u b a else 0)):=Zj λa c=>by
  rw[<-Z1];refine Zj λb d=>?_;by_cases h:a<b
  ·rw[oX h];omega
  ·by_cases i:b<a
   ·rw[g a b c d];omega
   ·have:a=b:=by omega
    subst this;rw[f a c];simp
 rw[e,Z1,Ub (λa b=>if b<a then u b a else 0) n n];omega
end PK
namespace PW
open L2 VL
theorem Zcx{f g:XS}{s:ZG}{v:PV}(a:f s=ag (.rt v)):Zm f g s=ag (.rt v):=by rw[Od,a];rfl
section
variable {s:ZG} {f g:XE} {a b:Int} {C:Int->Int->Prop} [∀i j,Decidable (C i j)] {op:Int->Int->Int}
theorem vC(e:f s=ag (.int a))(d:g s=ag (.int b))(c:C a b):Zk (Ct C op) f g s=ag (.int (op a b)):=by rw[Vc,e,d];simp only[aV,Zgn,oX c]
theorem vI(d:f s=ag (.int a))(c:g s=ag (.int b)):Zk (gI op) f g s=ag (.int (op a b)):=by rw[Vc,d,c];rfl
theorem vP(b:f s=ag (.int a)):eP f s=ag (.int a):=by rw[Oc,b];rfl
theorem Ao{v:PV}(a:f s=ag v):ZO f s=ag (.rt v):=by rw[CW,a];rfl
end
noncomputable def Dq(M:List (List Int))(a b:Nat)(t:Int):List (List Int):=RI (RI M a b t) b a t
theorem Pj{n:Nat}{M:List (List Int)}{a b:Nat}{t:Int}(ok:MatOk n M)(c:a<n)(d:b<n)(i j:Nat):ZW (Dq M a b t) i j=if b=i/\a=j then t else if a=i/\b=j then t else ZW M i j:=by obtain⟨f,e⟩:=WB ok.len ok.row c;unfold Dq;rw[PN f e d c,PN ok.len ok.row c d]
theorem Zg9{n:Nat}{M:List (List Int)}{a b:Nat}{t:Int}(ok:MatOk n M)(f:a<n)(g:b<n)(e:a≠b)(o:0<=t)(q:t<=9):MatOk n (Dq M a b t):=by
 obtain⟨m,k⟩:=WB ok.len ok.row f;obtain⟨h,l⟩:=WB m k g;have E:=Pj (t:=t) ok f g;refine⟨h,l,λi j c d=>?_,λi j c d=>?_,λi j c d=>?_,λi c=>?_⟩
 ·have:=ok.lo i j c d;rw[E];split<;>(try split)<;>omega
 ·have:=ok.hi i j c d;rw[E];split<;>(try split)<;>omega
 ·have:=ok.sym i j c d;rw[E,E];by_cases p:b=i/\a=j
  ·rw[oX p];by_cases p2:b=j/\a=i
   ·rw[oX p2]
   ·rw[oY p2,oX ⟨p.2,p.1⟩]
  ·rw[oY p];by_cases p2:a=i/\b=j
   ·rw[oX p2,oX ⟨p2.2,p2.1⟩]
   ·rw[oY p2,oY (λz=>p2 ⟨z.2,z.1⟩),oY (λz=>p ⟨z.2,z.1⟩)];exact this
 ·rw[E,oY (λz=>e (by omega)),oY (λz=>e (by omega))];exact ok.dia i c
theorem Mu{s:ZG}{n:Nat}(h:s[3]?=ag (ag (.int (n:Int))))(a:n<=7):Zt 1 [3] (Z8 [Za 3]) (.one 0) ZD (Zk IC (X9 [eC (.int 0)]) (Za 1)) s=ag (.lst (rL (aQ n (aQ n 0)))):=by
 rw[ZI (aD n) (λi=>.int (i:Int)) (λ_=>.lst (iL (aQ n 0))) (Yl (by simp[h]) (by omega)) (by simp;omega) (λi _=>⟨_,rfl,rfl,?_⟩)]
 ·unfold rL;rw[List.map_const',bt,mE]
 ·have e:IC (.lst [.int 0]) (.int (n:Int))=ag (.lst (iL (aQ n 0))):=by show(if ZE [PV.int 0]=aC/\(-1000000:Int)<=(n:Int)/\(n:Int)<=1000000/\[PV.int 0].length*((n:Int)).toNat<=10000 then ag (PV.lst (aQ ((n:Int)).toNat [PV.int 0]).flatten) else aA)=_;rw[oX ⟨rfl,by omega,by omega,by simp;omega⟩];simp
  simp[ZP,h,e]
noncomputable def Grown(M:List (List Int))(l:List Int)(k:Nat):Prop:=∀j,1<=j->j<k->∃j',j'<j/\0<ZW M (Zr l j).toNat (Zr l j').toNat
theorem Grown.mono{M c:List (List Int)}{l:List Int}{k:Nat}(h:Grown M l k)(g:∀i j,0<ZW M i j->0<ZW c i j):Grown c l k:=λj f d=>by obtain⟨e,a,b⟩:=h j f d;exact⟨e,a,g _ _ b⟩
theorem Grown.conn{M:List (List Int)}{l:List Int}{n:Nat}(h:Grown M l n)(u:M.length=n)(d:NamesOk n l):Sg M:=by
 intro P s i j g o;rw[u] at g o;have lt:∀x,x<n->(Zr l x).toNat<M.length:=λx c=>by have:=d.at c;omega
 have all:∀k,k<n->(P (Zr l k).toNat↔P (Zr l 0).toNat):=by
  intro k
  induction k using nH with
  | ind k ih=>
   intro m;by_cases q:k=0
   ·subst q;exact Iff.rfl
   ·obtain⟨p,a,b⟩:=h k (by omega) m;exact(s _ _ (lt k m) (lt p (by omega)) b).trans (ih p a (by omega))
 have f:∀i,i<n->∃x,x<n/\(Zr l x).toNat=i:=λi g=>by have:=NH d.nd (λx c=>⟨x.toNat,by have:=d.hi x c;omega,by have:=d.lo x c;omega⟩) d.len g;obtain⟨x,c,e⟩:=Zcq this;exact⟨x,by rw[<-d.len];exact c,by rw[e];rfl⟩
 obtain⟨x,c,rfl⟩:=f i g;obtain⟨y,t,rfl⟩:=f j o;exact(all x c).trans (all y t).symm
theorem Zcy{n:Nat}{M:List (List Int)}{a b:Nat}{t:Int}(ok:MatOk n M)(e:a<n)(d:b<n)(c:0<t):(∀i j,0<ZW M i j->0<ZW (Dq M a b t) i j)/\0<ZW (Dq M a b t) a b:=by
 refine⟨λi j h=>?_,?_⟩
 ·rw[Pj ok e d];split
  ·exact c
  ·split
   ·exact c
   ·exact h
 ·rw[Pj ok e d];split
  ·exact c
  ·rw[oX ⟨rfl,rfl⟩];exact c
noncomputable def sW(ns:List Int)(mo:Nat)(c n:Nat->Int)(x:Nat):Unit:=()
noncomputable def nL(l:List Nat):List Int:=l.map λ(i:Nat)=>(i:Int)
theorem O5{y:Nat}{l:List Nat}:(y:Int)∈nL l↔y∈l:=by unfold nL;rw[bJ];exact⟨λ⟨a,h,e⟩=>by rw[show y=a by omega];exact h,λh=>⟨y,h,rfl⟩⟩
theorem Mv{d:Type}{T:Tgt}{fb:XS}{q g:d->PV}{c:d->Bool}(S:ZG->Prop):∀{ls:List d}{s:ZG},(∀a∈ls,∀s,S s->∃s1,Xy T (q a) s=ag s1/\((c a=aC->fb s1=ag (.rt (g a)))/\(c a=aB->∃s2,fb s1=ag (.nx s2)/\S s2)))->S s->
  match ls.find? c with | some a=>Vs T fb (ls.map q) s=ag (.rt (g a)) | none=>∃s',Vs T fb (ls.map q) s=ag (.nx s')/\S s'
 | [],s,_,h0=>⟨s,rfl,h0⟩
 | a::r,s,h,h0=>by
  obtain⟨s1,f,l,n⟩:=h a ao s h0;rw[dP]
  cases ca:c a with
  | true=>
   show Vs T fb (q a::r.map q) s=_;unfold Vs;rw[f];simp only[aV,l ca]
  | false=>
   obtain⟨s2,i,k⟩:=n ca;have m:=Mv S (ls:=r) (s:=s2) (λb j=>h b (aR _ j)) k
   have e:Vs T fb ((a::r).map q) s=Vs T fb (r.map q) s2:=by
    show Vs T fb (q a::r.map q) s=_;unfold Vs;rw[f];simp only[aV,i];cases r.map q<;>rfl
   rw[e];exact m
noncomputable def Ap:Option Nat->PV
 | none=>.non
 | some h=>.int (h:Int)
theorem Zha(y:Nat)(l:List Nat):Nw aC (.int (y:Int)) (.lst (iL (nL l)))=ag (.bl (!decide (y∈l))):=by rw[Zeu];have:=O5 (y:=y) (l:=l);simp[this]
theorem Pk(y:Nat)(l:List Nat):Nw aB (.int (y:Int)) (.lst (iL (nL l)))=ag (.bl (decide (y∈l))):=by rw[Zeu];have:=O5 (y:=y) (l:=l);simp[this]
end PW
set_option maxHeartbeats 2000000
namespace PW
open PySem L2 VL VX
section
variable {f g h k l:XE} {s s1:ZG} {a b c d e v r:PV} {i m:Nat} {F G:XS} {x y:XT} {o:Option Out} {p:Bool} {D:List PV->Option PV} {R:Option PV} {ls:List PV}
theorem YZ(q:F (ZK m ls)=ag (.rt v)):YL m F ls=ag v:=by show(F (ZK m ls)).bind Oa=_;rw[q];rfl
theorem Zj3(q:F (ZK m ls)=ag (.nx s)):YL m F ls=ag .non:=by show(F (ZK m ls)).bind Oa=_;rw[q];rfl
theorem sq(q:F s=ag (.nx s1))(w:G s1=o):Zm F G s=o:=(B7 q).trans w
theorem Zp(q:f s=ag v):Zu i f s=ag (.nx (s.set i (ag v))):=by rw[SV,q];rfl
theorem ep(q:f s=ag v)(w:ZT v=aC:=by rfl):eP f s=ag v:=by rw[Oc,q,aV,oX w]
theorem J2{l:List Int}(q:f s=ag (pP l)):eP f s=ag (pP l):=ep q (Z5 _)
theorem c1(q:f s=ag a)(w:D [a]=R):Zc D [f] s=R:=by show((f s).bind λx=>ag [x]).bind D=_;rw[q];exact w
theorem c2(q:f s=ag a)(c:g s=ag b)(w:D [a,b]=R):Zc D [f,g] s=R:=by rw[XC,Zz,q,Zz,c];exact w
theorem c3(q:f s=ag a)(e:g s=ag b)(d:h s=ag c)(w:D [a,b,c]=R):Zc D [f,g,h] s=R:=by rw[XC,Zz,q,Zz,e,Zz,d];exact w
theorem c4(q:f s=ag a)(e:g s=ag b)(j:h s=ag c)(i:k s=ag d)(w:D [a,b,c,d]=R):Zc D [f,g,h,k] s=R:=by rw[XC,Zz,q,Zz,e,Zz,j,Zz,i];exact w
theorem c5(q:f s=ag a)(i:g s=ag b)(n:h s=ag c)(m:k s=ag d)(j:l s=ag e)(w:D [a,b,c,d,e]=R):Zc D [f,g,h,k,l] s=R:=by rw[XC,Zz,q,Zz,i,Zz,n,Zz,m,Zz,j];exact w
theorem o2{op:PV->PV->Option PV}(q:f s=ag a)(c:g s=ag b)(w:op a b=R):Zk op f g s=R:=by rw[Vc,q,c];exact w
theorem xb(q:f s=ag (.bl p)):xB f s=ag p:=by rw[IE,q];rfl
theorem xn(q:x s=ag p):Wj x s=ag !p:=by rw[KU,q];rfl
theorem xo{p2:Bool}(q:x s=ag p)(a:y s=ag p2):Ke x y s=ag (p || p2):=by
 rw[G4,q];cases p
 ·exact a
 ·rfl
theorem ea{p2:Bool}(q:f s=ag (.bl p))(a:g s=ag (.bl p2)):MU f g s=ag (.bl (p&&p2)):=by
 rw[CV,xb q];cases p
 ·rfl
 ·exact a
theorem FD(q:x s=ag aB):T5 x F Yh s=ag (.nx s):=by rw[SU,q];rfl
theorem ret(q:f s=ag v):ZO f s=ag (.rt v):=Ao q
theorem neq{l:List Int}(q:f s=ag (pP l))(a:g s=ag (pP l)):xB (Zk (Xx aC) f g) s=ag aB:=xb (o2 q a (by simp))
theorem eqt{l:List Int}(q:f s=ag (pP l))(a:g s=ag (pP l)):Zk (Xx aB) f g s=ag (.bl aC):=o2 q a (by simp)
theorem Zj4{w:PV}(q:f s=ag w):sEx f s=ag (.nx s):=by show(f s).map _=_;rw[q];rfl
end
theorem Zcz{f g:XE}{s:ZG}{l:List Int}{k:Nat}(b:f s=ag (pP l))(a:g s=ag (.int (k:Int)))(h:k<l.length):SO Tu f Rw (TJ g) s=ag (pP (l.take k)):=by rw[Q5,b];simp only[aV,G3];unfold TJ;rw[a];simp only[aV];unfold Tu;simp only[];rw[oY,Ac];rw[HT.sIx_none,HT.sIx_nat,aL];omega
theorem Zc0{f g:XE}{s:ZG}{l:List Int}{k:Nat}(b:f s=ag (pP l))(a:g s=ag (.int (k:Int)))(h:k<l.length):SO Tu f (TJ (Zk Z6 g (eC (.int 1)))) Rw s=ag (pP (l.drop (k+1))):=by
 have a:Zk Z6 g (eC (.int 1)) s=ag (.int ((k+1:Nat):Int)):=by rw[Vc,a];rfl
 rw[Q5,b];simp only[aV,G3];unfold TJ;rw[a];simp only[aV];unfold Tu;simp only[];rw[oY,HG];rw[HT.sIx_none,HT.sIx_nat,aL];omega
theorem LM{a b:List Int}(h:a.length+b.length<=1000):Qy (pP a) (pP b)=ag (pP (a++b)):=by unfold Qy;simp only[];rw[oX (by rw[aL,aL];omega),<-bM]
noncomputable def Yz(F:XS)(s:ZG)(Q:PV->Prop):Prop:=∃v,F s=ag (.rt v)/\Q v
noncomputable def Wq(F:XS)(s:ZG)(R:ZG->Prop):Prop:=∃s1,F s=ag (.nx s1)/\R s1
section
variable {F G:XS} {s s1:ZG} {Q:PV->Prop} {R:ZG->Prop} {v:PV} {f g:XE} {x:XT} {p:Bool} {m i k n:Nat} {ls:List PV} {O:List Nat} {fi:XL} {T:Tgt} {fb:XS} {a b:Int}
theorem QD(h:Yz F (ZK m ls) Q):∃v,YL m F ls=ag v/\Q v:=by obtain⟨v,e,q⟩:=h;exact⟨v,YZ e,q⟩
theorem QE(h:Yz F (ZK m ls) λw=>w=v):YL m F ls=ag v:=by obtain⟨_,e,rfl⟩:=QD h;exact e
theorem ZR(q:F s=ag (.nx s1))(h:Yz G s1 Q):Yz (Zm F G) s Q:=by obtain⟨v,e,a⟩:=h;exact⟨v,sq q e,a⟩
theorem Wf(h:Wq F s R)(a:∀s1,R s1->Yz G s1 Q):Yz (Zm F G) s Q:=by obtain⟨s1,e,r⟩:=h;exact ZR e (a s1 r)
theorem WW(q:f s=ag v)(h:Q v):Yz (ZO f) s Q:=⟨v,ret q,h⟩
theorem Zev(q:x s=ag aC)(h:Yz F s Q):Yz (Zm (T5 x F Yh) G) s Q:=by obtain⟨v,e,a⟩:=h;exact⟨v,Zcx (by rw[SU,q];exact e),a⟩
theorem QG(q:F s=ag (.nx s1))(h:R s1):Wq F s R:=⟨s1,q,h⟩
theorem Yc(q:F s=ag (.nx s1))(h:Wq G s1 R):Wq (Zm F G) s R:=by obtain⟨s2,e,r⟩:=h;exact⟨s2,sq q e,r⟩
theorem JF{R2:ZG->Prop}(h:Wq F s R)(a:∀s1,R s1->Wq G s1 R2):Wq (Zm F G) s R2:=by obtain⟨s1,e,r⟩:=h;exact Yc e (a s1 r)
theorem Zc1{R2:ZG->Prop}(h:Wq F s R)(a:∀s1,R s1->R2 s1):Wq F s R2:=by obtain⟨s1,e,r⟩:=h;exact⟨s1,e,a s1 r⟩
theorem FE(q:x s=ag p)(b:p=aC->Wq F s R)(a:p=aB->Wq G s R):Wq (T5 x F G) s R:=by
 unfold Wq;rw[SU,q];cases p
 ·exact a rfl
 ·exact b rfl
theorem Qp(I:Nat->ZG->Prop)(f:fi (Xn O s)=ag ls)(c:I 0 s)(st:∀i l s,ls[i]?=ag l->I i s->∃s1,Xy T l s=ag s1/\Wq fb s1 (I (i+1))):Wq (YN O fi T fb) s (I ls.length):=by
 obtain⟨g,e,q⟩:=SY I c λi l s j h=>by obtain⟨s1,d,s2,a,b⟩:=st i l s j h;exact⟨s1,s2,d,a,b⟩
 refine⟨g,?_,q⟩;unfold YN;rw[f];exact e
theorem O6(I:Nat->ZG->Prop)(a:f (Xn O s)=ag (.int (n:Int)))(c:I 0 s)(st:∀i s,i<n->I i s->Wq fb (s.set k (ag (.int (i:Int)))) (I (i+1)))(b:n<=10000:=by omega):Wq (YN O (Z8 [f]) (.one k) fb) s (I n):=by
 have:=Qp (T:=.one k) (fb:=fb) I (Yl a b) c λi l s e h=>by obtain⟨d,rfl⟩:=C2 e;exact⟨_,rfl,st i s d h⟩
 rwa [C3] at this
theorem Aq(I:Nat->ZG->Prop)(a:f (Xn O s)=ag (.int (m:Int)))(b:g (Xn O s)=ag (.int (n:Int)))(d:I m s)(st:∀i s,m<=i->i<n->I i s->Wq fb (s.set k (ag (.int (i:Int)))) (I (i+1)))(c:m<=n:=by omega)(o:n<=10000:=by omega):Wq (YN O (Va [f,g]) (.one k) fb) s (I n):=by
 have e:((n:Int)-(m:Int)).toNat=n-m:=by omega
 have:=Qp (T:=.one k) (fb:=fb) (λi=>I (m+i)) (Me a b (by omega) (by omega)) d λi l s j h=>by obtain⟨p,rfl⟩:=KZ j;exact⟨_,rfl,st (m+i) s (by omega) (by omega) h⟩
 rwa [K0,e,show m+(n-m)=n by omega] at this
theorem Zc2{d:Type}{L:List d}{q g:d->PV}(c:d->Bool)(I:ZG->Prop)(l:fi (Xn O s)=ag (L.map q))(j:I s)(st:∀a∈L,∀s,I s->∃s1,Xy T (q a) s=ag s1/\(c a=aC->fb s1=ag (.rt (g a)))/\(c a=aB->Wq fb s1 I))(hs:∀a,L.find? c=ag a->Q (g a))(f:L.find? c=aA->∀s1,I s1->Yz G s1 Q):Yz (Zm (YN O fi T fb) G) s Q:=by
 have b:=Mv (T:=T) (fb:=fb) (g:=g) I st j;have e:∀o,Vs T fb (L.map q) s=o->YN O fi T fb s=o:=λo h=>by unfold YN;rw[l];exact h
 cases z:L.find? c with
 | some a=>rw[z] at b;exact⟨_,Zcx (e _ b),hs a z⟩
 | none=>
  rw[z] at b;obtain⟨s1,k,i⟩:=b;exact ZR (e _ k) (f z s1 i)
theorem goT{o:Option Out}(q:x s=ag aC)(w:F s=o):T5 x F G s=o:=by rw[SU,q];exact w
theorem Zew{b:Type}{L:List b}{q g:b->PV}{H:XS}(c:b->Bool)(I:ZG->Prop)(j:fi (Xn O s)=ag (L.map q))(n:I s)(st:∀a∈L,∀s,I s->∃s1,Xy T (q a) s=ag s1/\x s1=ag (c a)/\H s1=ag (.rt (g a))/\I s1)(hs:∀a,L.find? c=ag a->Q (g a))(m:L.find? c=aA->∀s1,I s1->Yz G s1 Q):Yz (Zm (YN O fi T (T5 x H Yh)) G) s Q:=
 Zc2 (g:=g) c I j n (λa k s i=>by
  obtain⟨s1,e,d,l,f⟩:=st a k s i;exact⟨s1,e,λh=>goT (by rw[d,h]) l,λh=>QG (FD (by rw[d,h])) f⟩) hs m
theorem Ar{X:List Nat}(I:Nat->ZG->Prop)(a:fi (Xn O s)=ag (iL (nL X)))(c:I 0 s)(st:∀i s (h:i<X.length),I i s->Wq fb (s.set k (ag (.int ((X[i]:Nat):Int)))) (I (i+1))):Wq (YN O fi (.one k) fb) s (I X.length):=by
 have:=Qp (T:=.one k) (fb:=fb) I a c λi l s b h=>by
  have a:i<X.length:=by have:=(aS.mp b).1;simpa [nL] using this
  have e:l = .int ((X[i]:Nat):Int):=by rw[M6 (by simpa [nL] using a)] at b;rw[<-bG b];simp[nL,Zr,a]
  subst e;exact⟨_,rfl,st i s a h⟩
 rwa [show(iL (nL X)).length=X.length by simp[nL]] at this
theorem vmd(q:f s=ag (.int a))(c:g s=ag (.int b))(h:0<b:=by omega):Zk X1 f g s=ag (.int (a%b)):=vC q c h
theorem vdv(q:f s=ag (.int a))(c:g s=ag (.int b))(h:0<b:=by omega)(d:b<=10000:=by omega):Zk SA f g s=ag (.int (a/b)):=vC q c (Zgs h d)
theorem J3(q:f s=ag (.int a))(c:g s=ag (.int b)):Zk Z6 f g s=ag (.int (a+b)):=vI q c
theorem J4(q:f s=ag (.int a))(c:g s=ag (.int b)):Zk Xk f g s=ag (.int (a-b)):=vI q c
theorem vlt{a b:Nat}(q:f s=ag (.int (a:Int)))(c:g s=ag (.int (b:Int))):Zk GJ f g s=ag (.bl (decide (a<b))):=o2 q c (by
 show ag (PV.bl (decide ((a:Int)<(b:Int))))=_;rw[decide_eq_decide.mpr Int.ofNat_lt])
theorem vgt{a b:Nat}(q:f s=ag (.int (a:Int)))(c:g s=ag (.int (b:Int))):Zk DO f g s=ag (.bl (decide (b<a))):=o2 q c (by
 show ag (PV.bl (decide ((a:Int)>(b:Int))))=_;rw[decide_eq_decide.mpr Int.ofNat_lt])
theorem vge(q:f s=ag (.int a))(c:g s=ag (.int b)):Zk oGe f g s=ag (.bl (decide (b<=a))):=o2 q c rfl
theorem Dr(q:f s=ag (.int a))(c:g s=ag (.int b)):Zk (Xx aB) f g s=ag (.bl (decide (a=b))):=o2 q c (by rw[T7];rfl)
theorem xa{y:XT}{p2:Bool}(q:x s=ag p)(a:y s=ag p2):Im x y s=ag (p&&p2):=by
 rw[CU,q];cases p
 ·rfl
 ·exact a
theorem un1{op:PV->Option PV}{S:Option PV}(q:f s=ag v)(w:op v=S):Eo op f s=S:=by unfold Eo;rw[q];exact w
theorem Zj6{u w:PV}(q:f s=ag u)(a:g s=ag w):Wk [f,g] s=ag (.tup [u,w]):=by rw[SS,Zz,q,Zz,a];rfl
theorem O7{S:Option PV}(q:x s=ag aC)(w:f s=S):J1 x f g s=S:=by rw[M5,q];exact w
theorem O8{S:Option PV}(q:x s=ag aB)(w:g s=S):J1 x f g s=S:=by rw[M5,q,aV,oY (by decide)];exact w
theorem Pl{a:Type}(h:a->PV){L:List a}{y:a}(q:f s=ag (h y))(b:N6 s i=ag (L.map h))(c:L.length<=9000):YJ i f s=ag (.nx (s.set i (ag (.lst ((L++[y]).map h))))):=by rw[T8 q b (by rw[aL];omega),bM];rfl
theorem Zc3{a:Type}(h:a->PV){L M:List a}(q:f s=ag (.lst (M.map h)))(b:N6 s i=ag (L.map h))(c:L.length+M.length<=10000):Wm i f s=ag (.nx (s.set i (ag (.lst ((L++M).map h))))):=by rw[Of q b (by rw[aL,aL];omega),bM]
theorem HK{L:List Nat}(q:f s=ag (.int (k:Int)))(a:N6 s i=ag (iL (nL L)))(b:L.length<=9000):YJ i f s=ag (.nx (s.set i (ag (.lst (iL (nL (L++[k]))))))):=by rw[T8 q a (by simp[nL];omega)];simp[nL]
theorem Zhc{l:List Int}(q:f s=ag (.int (Zr l k)))(b:N6 s i=ag (iL (l.take k)))(a:k<l.length)(d:l.length<=9000):YJ i f s=ag (.nx (s.set i (ag (.lst (iL (l.take (k+1))))))):=by
 have e:l.take (k+1)=l.take k++[Zr l k]:=by rw[dM a];simp[Zr,aF,aJ a]
 rw[T8 q b (by simp;omega),e];have c:iL (l.take k++[Zr l k])=iL (l.take k)++[PV.int (Zr l k)]:=bM;rw[c]
theorem Zhd(Q:List Int):Y7 (iL Q)=(aD Q.length).map λ(i:Nat)=>.tup [.int (i:Int),.int (Zr Q i)]:=by
 rw[YO,aL];exact ar λi a=>by rw[Xq Q i (aW.mp a)]
theorem Uk{W:List (List Int)}:ZZ [wP W]=ag (.int (W.length:Int)):=by show ag (PV.int ((W.map pP).length:Int))=_;rw[aL]
theorem Zj7{W:List (List Int)}{a b:Nat}{h:XE}(d:a<W.length)(c:b<(Zx W a).length)(q:f s=ag (wP W))(i:g s=ag (.int (a:Int)))(e:h s=ag (.int (b:Int))):Zk ZJ (Zk ZJ f g) h s=ag (.int (ZW W a b)):=o2 (o2 q i (SW d)) e (Ys c)
theorem As{l:List Int}(q:f s=ag (.int (k:Int)))(d:g s=ag (.int a))(c:N6 s i=ag (iL l))(b:k<l.length):T6 i f g s=ag (.nx (s.set i (ag (.lst (iL (l.set k a)))))):=by rw[Mf d q c (Z5 _) rfl (S4 (by rw[aL];exact b)),<-jA]
theorem Au{o:List Int}(q:f s=ag (.int (n:Int)))(c:g s=ag (.int a))(b:N6 s i=ag (iL o))(d:n<=1000)(e:o.length<=1000):U5 i f g s=ag (.nx (s.set i (ag (.lst (iL (o.take n++a::o.drop n)))))):=by rw[IG q c b (Z5 o) rfl (by omega) (by omega) (by rw[aL];omega),cC,Zg6]
end
end PW
namespace PW
theorem Qq{f:Nat->Int}{q:Nat}:∀{m:Nat},q<=m->(∀k,q<=k->k<m->f k=0)->sN m f=sN q f
 | 0,h,_=>by rw[show q=0 by omega]
 | m+1,h,z=>by
  by_cases e:q=m+1
  ·rw[e]
  ·show sN m f+f m=_;rw[Qq (m:=m) (by omega) (λk a b=>z k a (by omega)),z m (by omega) (by omega)];omega
theorem FF{f:Nat->Int}{q i:Nat}:∀{m:Nat},q<=i->i<m->(∀k,q<=k->k<m->k≠i->f k=0)->sN m f=sN q f+f i
 | 0,_,h,_=>by omega
 | m+1,hq,hi,z=>by
  show sN m f+f m=_;by_cases e:i=m
  ·subst e;rw[Qq (q:=q) (by omega) λk a b=>z k a (by omega) (by omega)]
  ·rw[FF (m:=m) hq (by omega) (λk a b=>z k a (by omega)),z m (by omega) (by omega) (λq=>e q.symm)];omega
noncomputable def WX(m:Nat)(X:Mt):Nat->Mt×Int
 | 0=>(X,1)
 | p+1=>(λi j=>if i=p then(WX m X p).1 i j else((WX m X p).1 p p*(WX m X p).1 i j-(WX m X p).1 i p*(WX m X p).1 p j).fdiv (WX m X p).2,(WX m X p).1 p p)
structure BOk(m:Nat)(A X:Mt):Prop where
 sym:∀i j,i<m->j<m->A i j=A j i
 inj:∀p,p<=m->∀z:Nat->Int,(∀j,j<p->sN p (λk=>z k*A k j)=0)->∀k,k<p->z k=0
 ext:∀i j,i<m->j<m->X i j=A i j
structure Zlx(m p:Nat)(X:Mt)(E:Mt)(d:Int)(i:Nat)(a:Nat->Int):Prop where
 off:∀k,k<m->p<=k->k≠i->a k=0
 on:p<=i->a i=d
 val:∀j,j<=m->E i j=sN m (λk=>a k*X k j)
 uni:∀j,j<p->E i j=if i=j then d else 0
structure Zhf(m:Nat)(A X:Mt)(p:Nat)(E:Mt)(d:Int):Prop where
 de:d=WV p A
 nz:d≠0
 row:∀i,i<m->∃a,Zlx m p X E d i a
theorem O9{m:Nat}{A X:Mt}{p:Nat}{E:Mt}{d:Int}(ok:BOk m A X)(S:p<m)(I:Zhf m A X p E d) :
  Zhf m A X (p+1) (λi j=>if i=p then E i j else(E p p*E i j-E i p*E p j).fdiv d) (E p p)/\∀i j,i<m->j<=m->i≠p->∃q,E p p*E i j-E i p*E p j=d*q:=by
 obtain⟨w,t⟩:=I.row p S;have hd:=I.nz
 -- the pivot's row
 have x:∀j,j<m->E p j=sN (p+1) (λk=>w k*A k j):=λj g=>by
  rw[t.val j (by omega),Qq (q:=p+1) (by omega) λk u v=>by rw[t.off k v (by omega) (by omega),e8]];exact Zj λk f=>by rw[ok.ext k j (by omega) g]
 have R:E p p=WV (p+1) A:=by
  have u:=Zcs (n:=p+1) (j:=p) (A:=A) (a:=w) (by omega);have v:=JD (A:=put p (λc=>sN (p+1) λk=>w k*A k c) A) λc Y=>by rw[YC];rw[<-x c (by omega),t.uni c Y,oY (by omega)]
  have O:WV p (put p (λc=>sN (p+1) λk=>w k*A k c) A)=WV p A:=Ww λr c hr Y=>by rw[Vn _ _ (by omega)]
  rw[YC,O,u,t.on (aa p),<-I.de] at v;have h4:d*WV (p+1) A=E p p*d:=by rw[v];rw[<-x p S]
  have h5:d*(WV (p+1) A)=d*E p p:=by rw[h4,cP]
  exact(jW hd h5).symm
 have pz:E p p≠0:=λz=>by
  have:=ok.inj (p+1) (by omega) w (λj g=>by
   rw[<-x j (by omega)];by_cases q:j=p
   ·rw[q];exact z
   ·rw[t.uni j (by omega),oY (by omega)]) p (by omega)
  rw[t.on (aa p)] at this;exact hd this
 -- the s rows
 have s:∀i,i<m->i≠p->∃b:Nat->Int,(∀k,k<m->p+1<=k->k≠i->b k=0)/\(p+1<=i->b i=E p p)/\(∀l,l<p+1->sN m (λk=>b k*A k l)=if i=l then E p p else 0)/\∀j,j<=m->E p p*E i j-E i p*E p j=d*sN m (λk=>b k*X k j):=by
  intro i C o
  obtain⟨b,b1,F,H⟩:∃b:Nat->Int,(∀k,k<m->p+1<=k->k≠i->b k=0)/\(p+1<=i->b i=E p p)/\(∀l,l<p+1->sN m (λk=>b k*A k l)=if i=l then E p p else 0):=by
   have Z:∀j l,j<p+1->l<p+1->sN (p+1) (λk=>HH (p+1) A k j*A k l)=if l=j then E p p else 0:=λj l g y=>by
    rw[R,<-Fz y g];exact Zj λk f=>by rw[ok.sym l k (by omega) (by omega),cP]
   by_cases q:i<p
   ·obtain⟨b,B⟩:∃b:Nat->Int,∀k,b k=if k<p+1 then HH (p+1) A k i else 0:=⟨_,λ_=>rfl⟩
    refine⟨b,λk f u _=>by rw[B,oY (by omega)],λh=>by omega,λl y=>?_⟩;rw[Qq (q:=p+1) (by omega) λk u v=>by rw[B,oY (by omega),e8]];rw[Zj λk f=>by rw[B,oX f],Z i l (by omega) y];by_cases e:i=l
    ·rw[oX e,oX e.symm]
    ·rw[oY e,oY (λz=>e z.symm)]
   ·obtain⟨b,B⟩:∃b:Nat->Int,∀k,b k=if k<p+1 then-sN (p+1) (λj=>A i j*HH (p+1) A k j) else if k=i then E p p else 0:=⟨_,λ_=>rfl⟩
    have L:b i=E p p:=by rw[B,oY (by omega),oX rfl]
    refine⟨b,λk f u v=>by rw[B,oY (by omega),oY v],λh=>L,λl y=>?_⟩;rw[FF (q:=p+1) (by omega) C λk u v O=>by rw[B,oY (by omega),oY O,e8]];rw[L]
    have N:sN (p+1) (λk=>b k*A k l)=sN (p+1) (λk=>(-1)*sN (p+1) (λj=>A i j*(HH (p+1) A k j*A k l))):=Zj λk f=>by
     rw[B,oX f,e7,cP _ (A k l),<-ZM,e7,ko];congr 1;exact Zj λj _=>by rw[cP (A k l),c9]
    rw[N,ZM,Ub];have e2:(sN (p+1) λj=>sN (p+1) λk=>A i j*(HH (p+1) A k j*A k l))=A i l*E p p:=by rw[Zj λj g=>by rw[ZM,Z j l g y]];rw[Yq y λj _ Q=>by rw[oY (λz=>Q z.symm),gF],oX rfl]
    rw[e2,cP (E p p)];omega
  refine⟨b,b1,F,H,?_⟩;obtain⟨D,G⟩:=I.row i C
  have hw:∀k,k<m->E p p*D k-E i p*w k-d*b k=0:=by
   have J:∀k,k<m->p+1<=k->E p p*D k-E i p*w k-d*b k=0:=λk f u=>by
    have U:=t.off k f (by omega) (by omega);by_cases q:k=i
    ·subst q;rw[G.on (by omega),U,F u,cP d];omega
    ·rw[G.off k f (by omega) q,U,b1 k f u q];omega
   intro k f;by_cases q:k<p+1
   ·refine ok.inj (p+1) (by omega) (λk=>E p p*D k-E i p*w k-d*b k) (λl y=>?_) k q;rw[<-Qq (m:=m) (by omega) λk u v=>by rw[J k v u,e8]]
    have N:sN m (λk=>(E p p*D k-E i p*w k-d*b k)*A k l)=E p p*sN m (λk=>D k*A k l)+((- E i p)*sN m (λk=>w k*A k l)+(- d)*sN m (λk=>b k*A k l)):=by
     rw[<-ZM,<-ZM,<-ZM,<-Z1,<-Z1];exact Zj λk _=>by rw[Int.sub_mul,Int.sub_mul];simp only[c9,e7];omega
    have T:∀a:Nat->Int,sN m (λk=>a k*X k l)=sN m (λk=>a k*A k l):=λa=>Zj λk f=>by rw[ok.ext k l f (by omega)]
    rw[N,H l y,<-T,<-T,<-G.val l (by omega),<-t.val l (by omega)];by_cases q2:l=p
    ·subst q2;rw[oY o,cP (E l l),e7];omega
    ·rw[G.uni l (by omega),t.uni l (by omega),oY (show ¬p=l by omega)];by_cases M:i=l
     ·rw[oX M,oX M,e7 d,cP d];omega
     ·rw[oY M,oY M];omega
   ·exact J k f (by omega)
  intro j g;rw[G.val j g,t.val j g,<-ZM,<-ZM,<-ZM];have:sN m (λk=>E p p*(D k*X k j))=sN m (λk=>d*(b k*X k j))+sN m (λk=>E i p*(w k*X k j)):=by rw[<-Z1];refine Zj λk f=>?_;have:=hw k f;rw[<-c9,<-c9,<-c9,<-kf];congr 1;omega
  omega
 refine⟨⟨R,pz,λi C=>?_⟩,λi j C g o=>?_⟩
 ·by_cases o:i=p
  ·subst o;refine⟨w,λk f u v=>t.off k f (by omega) v,λh=>by omega,λj g=>by rw[oX rfl];exact t.val j g,λj g=>?_⟩;rw[oX rfl];by_cases q:i=j
   ·subst q;rw[oX rfl]
   ·rw[oY q,t.uni j (by omega),oY q]
  ·obtain⟨b,b1,F,H,P⟩:=s i C o;have W:∀j,j<=m->(E p p*E i j-E i p*E p j).fdiv d=sN m (λk=>b k*X k j):=λj g=>by rw[P j g,ji _ hd]
   refine⟨b,b1,F,λj g=>by rw[oY o];exact W j g,λj g=>?_⟩;rw[oY o,W j (by omega),<-H j g];exact Zj λk f=>by rw[ok.ext k j f (by omega)]
 ·obtain⟨b,b1,F,H,P⟩:=s i C o;exact⟨_,P j g⟩
theorem Wx{m:Nat}{A X:Mt}(ok:BOk m A X):∀{p:Nat},p<=m->Zhf m A X p (WX m X p).1 (WX m X p).2
 | 0,_=>⟨rfl,(show(1:Int)≠0 by decide),λi c=>⟨λk=>if k=i then 1 else 0,λk _ _ h=>oY h,λ_=>oX rfl,λj b=>by rw[Yq (k:=i) c λk _ a=>by rw[oY a,e8],oX rfl,ko];rfl,λj b=>by omega⟩⟩
 | p+1,h=>(O9 ok (by omega) (Wx ok (p:=p) (by omega))).1
theorem Ds{m:Nat}{A X:Mt}(ok:BOk m A X){k:Nat}(b:k<m):sN m (λi=>A k i*(WX m X m).1 i m)=(WX m X m).2*X k m:=by
 have I:=Wx ok (aa m);generalize s:(WX m X m).1=E at I ⊢;generalize hd:(WX m X m).2=d at I ⊢;have q:=I.nz
 have e:∀k,k<m->sN m (λi=>A k i*sN m (λj=>HH m A i j*X j m))=d*X k m:=λk b=>by
  rw[Zj (g:=λi=>sN m (λj=>A k i*(HH m A i j*X j m))) λi _=>by rw[ZM]]
  rw[Ub,Zj (g:=λj=>(if k=j then d else 0)*X j m) λj n=>by
   rw[I.de,<-Fz b n,cP _ (X j m),<-ZM];exact Zj λi _=>by rw[cP (X j m),c9]]
  rw[Yq b λj _ h=>by rw[oY (λz=>h z.symm),e8],oX rfl]
 have p:∀i,i<m->E i m=sN m (λj=>HH m A i j*X j m):=λi c=>by
  obtain⟨a,R⟩:=I.row i c;refine jW q ?_;rw[R.val m (aa m),<-ZM];have o:sN m (λk=>d*(a k*X k m))=sN m (λk=>a k*sN m (λl=>A k l*sN m (λj=>HH m A l j*X j m))):=Zj λk b=>by rw[e k b,fY]
  rw[o,Zj (g:=λk=>sN m (λl=>a k*A k l*sN m (λj=>HH m A l j*X j m))) λk _=>by rw[<-ZM];exact Zj λl _=>by rw[c9]]
  rw[Ub,Zj (g:=λl=>(if i=l then d else 0)*sN m (λj=>HH m A l j*X j m)) λl f=>by
   rw[<-R.uni l f,R.val l (by omega),cP _ (sN m λj=>HH m A l j*X j m),<-ZM];exact Zj λk b=>by rw[ok.ext k l b f,cP]]
  rw[Yq c λl _ h=>by rw[oY (λz=>h z.symm),e8],oX rfl]
 rw[Zj λi c=>by rw[p i c]];exact e k b
open L2 VL
theorem Av{z:Int}(h:z.natAbs<2^1000):z.natAbs.log2<1000:=by
 by_cases a:z.natAbs=0
 ·rw[a];decide +kernel
 ·exact(Nat.log2_lt a).mpr h
theorem Pm{a b:Int}(h:a.natAbs<2^1000)(h':b.natAbs<2^1000):CMulW a b:=⟨by have:=Av h;omega,by have:=Av h';omega⟩
theorem FG{a b:Int}(c:b≠0)(h:b.natAbs<2^1000):Qz a b:=⟨c,by have:=Av h;omega⟩
noncomputable def Mb:Nat->Nat
 | 0=>2^7
 | p+1=>2*Mb p*Mb p
noncomputable def Nb:Nat->Nat
 | 0=>2^208
 | p+1=>2*Mb p*Nb p
theorem Zj8{p:Nat}(h:p<=6):Mb p<2^1000:=by
 have:p=0\/p=1\/p=2\/p=3\/p=4\/p=5\/p=6:=by omega
 rcases this with rfl | rfl | rfl | rfl | rfl | rfl | rfl<;>decide +kernel
theorem Zly{p:Nat}(h:p<=6):Nb p<2^1000:=by
 have:p=0\/p=1\/p=2\/p=3\/p=4\/p=5\/p=6:=by omega
 rcases this with rfl | rfl | rfl | rfl | rfl | rfl | rfl<;>decide +kernel
theorem FH{a b c d:Int}{M N:Nat}(f:a.natAbs<=M)(e:b.natAbs<=N)(g:c.natAbs<=M)(hd:d.natAbs<=N):(a*b-c*d).natAbs<=2*M*N:=by
 have k:(a*b).natAbs<=M*N:=by rw[jO];exact iH f e
 have i:(c*d).natAbs<=M*N:=by rw[jO];exact iH g hd
 have h:(a*b-c*d).natAbs<=(a*b).natAbs+(c*d).natAbs:=by omega
 have j:2*M*N=M*N+M*N:=by rw[Nat.mul_assoc];omega
 omega
theorem JG{x d q:Int}(hd:d≠0)(e:x=d*q):(x.fdiv d).natAbs<=x.natAbs:=by
 rw[e,ji _ hd,jO];have:1<=d.natAbs:=by omega
 calc q.natAbs=1*q.natAbs:=by omega
  _<=d.natAbs*q.natAbs:=iZ _ this
theorem Zc4(p:Nat):Mb p<=Mb (p+1):=by
 have h:∀p,1<=Mb p:=λp=>by
  induction p with
  | zero=>decide
  | succ p ih=>show 1<=2*Mb p*Mb p;exact iH (show 1<=2*Mb p by omega) ih
 show Mb p<=2*Mb p*Mb p
 calc Mb p=1*Mb p:=by omega
  _<=2*Mb p*Mb p:=iZ _ (by have:=h p;omega)
theorem Zc5(p:Nat):Nb p<=Nb (p+1):=by
 have h:∀p,1<=Mb p:=λp=>by
  induction p with
  | zero=>decide
  | succ p ih=>show 1<=2*Mb p*Mb p;exact iH (show 1<=2*Mb p by omega) ih
 show Nb p<=2*Mb p*Nb p
 calc Nb p=1*Nb p:=by omega
  _<=2*Mb p*Nb p:=iZ _ (by have:=h p;omega)
theorem Qr{m:Nat}{A X:Mt}(ok:BOk m A X)(g:∀i j,i<m->j<m->(X i j).natAbs<=2^7)(h:∀i,i<m->(X i m).natAbs<=2^208):∀{p:Nat},p<=m->(∀i j,i<m->j<m->((WX m X p).1 i j).natAbs<=Mb p)/\∀i,i<m->((WX m X p).1 i m).natAbs<=Nb p
 | 0,_=>⟨g,h⟩
 | p+1,hp=>by
  obtain⟨b1,d⟩:=Qr ok g h (p:=p) (by omega);have I:=Wx ok (p:=p) (by omega);have f:=(O9 ok (by omega) I).2;refine⟨λi j a c=>?_,λi a=>?_⟩
  ·show(if i=p then(WX m X p).1 i j else _).natAbs<=_;split
   ·exact bO (b1 i j a c) (Zc4 p)
   ·rename_i b;obtain⟨q,e⟩:=f i j a (by omega) b;exact bO (JG I.nz e) (FH (b1 p p (by omega) (by omega)) (b1 i j a c) (b1 i p a (by omega)) (b1 p j (by omega) c))
  ·show(if i=p then(WX m X p).1 i m else _).natAbs<=_;split
   ·exact bO (d i a) (Zc5 p)
   ·rename_i b;obtain⟨q,e⟩:=f i m a (by omega) b;exact bO (JG I.nz e) (FH (b1 p p (by omega) (by omega)) (d i a) (b1 i p a (by omega)) (d p (by omega)))
noncomputable def Xg(w:Nat)(f:Nat->Int):List Int:=(aD w).map f
theorem XQ(w:Nat)(f:Nat->Int):(Xg w f).length=w:=by simp[Xg]
theorem Qs{w:Nat}{f:Nat->Int}{j:Nat}(h:j<w):Zr (Xg w f) j=f j:=ZC h
theorem Zlz{l:List Int}:(nB ((nB (ag (PV.lst (iL l))) λx=>(SG [] s).map (x::·)).bind ZV) λl=>if ZT l=aC then ag l else aA)=ag (pP l):=by show(if ZT (pP l)=aC then ag (pP l) else aA)=_;rw[oX (by simp)]
theorem LN{n:Nat}{ix:List Nat}{d:XL}{T:Tgt}{c:XE}{s:ZG}{w:Nat}{q:Nat->PV}(g:Nat->Int)(f:d s=ag ((aD w).map q))(i:w<=100)(h:∀j,j<w->∃s1,Xy T (q j) (ZP n ix s)=ag s1/\c s1=ag (.int (g j))):Zt n ix d T ZD c s=ag (.lst (iL (Xg w g))):=by
 rw[ZI (aD w) q (λj=>.int (g j)) f (by rw[bt];omega) λj e=>by
  obtain⟨s1,a,b⟩:=h j (aW.mp e);exact⟨s1,a,rfl,b⟩]
 simp[Xg]
theorem HL{w:Nat}{f:Nat->Int}{j:Nat}(h:j<w):Rz (iL (Xg w f)) (j:Int)=ag (.int (f j)):=by rw[Ys (by rw[XQ];exact h),Qs h]
theorem HM{w p:Nat}{f g:Nat->Int}{d:Int}(n:w<=100)(e:p<w)(m:∀j,j<w->(f j).natAbs<2^1000)(l:∀j,j<w->(g j).natAbs<2^1000)(hd:d≠0)(h:d.natAbs<2^1000) :
  RS [pP (Xg w f),pP (Xg w g),.int (p:Int),.int d]=ag (pP (Xg w λj=>(g p*f j-f p*g j).fdiv d)):=by
 refine YZ (ret (J2 (c1 (LN (q:=λj=>.tup [.int (f j),.int (g j)]) (λj=>(g p*f j-f p*g j).fdiv d) ?_ n λj k=>⟨_,rfl,?_⟩) rfl)))
 ·show ag (Tt (iL (Xg w f)) (iL (Xg w g)))=_;rw[V3 _ _ (by simp[XQ]),aL,XQ];congr 1;refine ar λi c=>?_;have c:=aW.mp c;rw[Xq _ i (by rw[XQ];exact c),Xq _ i (by rw[XQ];exact c),Qs c,Qs c]
 ·exact vC (C:=Qz) (op:=n8) (vI (vC (C:=CMulW) (op:=(· * ·)) (a:=g p) (b:=f j) (o2 rfl rfl (HL e)) rfl (Pm (l p e) (m j k))) (vC (C:=CMulW) (op:=(· * ·)) (a:=f p) (b:=g j) (o2 rfl rfl (HL e)) rfl (Pm (m p e) (l j k)))) rfl (FG hd h)
noncomputable def Mw(m w:Nat)(E:Mt):List (List Int):=(aD m).map λi=>Xg w (E i)
theorem Zc6(m w:Nat)(E:Mt):(Mw m w E).length=m:=by simp[Mw]
noncomputable def tL(M:List (List Int)):List PV:=M.map pP
theorem HN(m w:Nat)(E:Mt):tL (Mw m w E)=(aD m).map λi=>pP (Xg w (E i)):=by unfold tL Mw;rw[bQ];rfl
theorem Na(m w:Nat)(E:Mt):(tL (Mw m w E)).length=m:=by simp[tL,Zc6]
theorem HP{m w:Nat}{E:Mt}{i:Nat}(h:i<m):(tL (Mw m w E))[i]?=ag (pP (Xg w (E i))):=by rw[HN,aU,bz h];rfl
theorem FI(M:List (List Int)):ZE (tL M)=aC:=KW M
theorem LO{n:Nat}{ix:List Nat}{d:XL}{T:Tgt}{c:XE}{s:ZG}{m w:Nat}{q:Nat->PV}(E:Mt)(f:d s=ag ((aD m).map q))(g:m<=100)(h:∀j,j<m->∃s1,Xy T (q j) (ZP n ix s)=ag s1/\c s1=ag (pP (Xg w (E j)))):Zt n ix d T ZD c s=ag (.lst (tL (Mw m w E))):=by
 rw[ZI (aD m) q (λj=>pP (Xg w (E j))) f (by rw[bt];omega) λj e=>by
  obtain⟨s1,a,b⟩:=h j (aW.mp e);exact⟨s1,a,rfl,b⟩,HN]
theorem Dt{m w:Nat}{A X:Mt}(B:m<=6)(C:m<=w)(x:w<=m+1)(ok:BOk m A X)(y:∀i j,i<m->j<m->(X i j).natAbs<=2^7)(t:∀i,i<m->(X i m).natAbs<=2^208){R:PV}(o:R = .lst (tL (Mw m w X))\/R = .tup (tL (Mw m w X))) :
  Ou [R]=ag (.tup [.int (WX m X m).2,.lst (tL (Mw m w (WX m X m).1))]):=by
 have k:∀{p:Nat},p<=m->∀i j,i<m->j<m+1->((WX m X p).1 i j).natAbs<2^1000:=λ{p} c i j a f=>by
  obtain⟨b1,u⟩:=Qr ok y t c;by_cases q:j<m
  ·exact dE (b1 i j a q) (Zj8 (by omega))
  ·rw[show j=m by omega];exact dE (u i a) (Zly (by omega))
 have z:∀{p:Nat},p<=m->(WX m X p).2.natAbs<2^1000:=λ{p} c=>by
  cases p with
  | zero=>show(1:Int).natAbs<_;decide +kernel
  | succ p=>exact k (p:=p) (by omega) p p (by omega) (by omega)
 let st:Nat->Option PV->Option PV->ZG:=λp b d=>[ag R,ag (.lst (tL (Mw m w (WX m X p).1))),ag (.int (WX m X p).2),b,d]
 have l:T2 [R]=ag (.lst (tL (Mw m w X)))/\ZZ [R]=ag (.int (m:Int)):=by
  rcases o with rfl | rfl
  ·exact⟨by rw[C0,oX (FI _)],by show ag (PV.int ((tL (Mw m w X)).length:Int))=_;rw[Na]⟩
  ·exact⟨by rw[CZ,oX (FI _)],by show ag (PV.int ((tL (Mw m w X)).length:Int))=_;rw[Na]⟩
 suffices h:Yz K2 (ZK 5 [R]) λv=>v = .tup [.int (WX m X m).2,.lst (tL (Mw m w (WX m X m).1))] by obtain⟨v,e,rfl⟩:=QD h;exact e
 refine ZR (Zp (c1 rfl l.1)) (ZR (Zp (vP rfl)) (Wf (O6 (n:=m) (λp s=>∃b d,s=st p b d) (c1 rfl l.2) ⟨aA,aA,rfl⟩ ?_) ?_))
 ·rintro p s c ⟨b,d,rfl⟩;have I:=Wx ok (p:=p) (by omega);have g:=λi j a f=>k (p:=p) (by omega) i j a f;refine Yc (Zp (J2 (o2 rfl rfl (U0 (HP c))))) (Yc (Zp (LO (w:=w) (WX m X (p+1)).1 (q:=λi=>.tup [.int (i:Int),pP (Xg w ((WX m X p).1 i))]) ?_ (by omega) λi a=>⟨_,rfl,J2 ?_⟩)) (QG (Zp (vP (o2 rfl rfl (HL (by omega))))) ⟨_,_,rfl⟩))
  ·show ag (Y7 (tL (Mw m w (WX m X p).1)))=_;rw[YO,Na];congr 1;refine ar λi a=>?_;rw[aF,HP (aW.mp a)];rfl
  ·by_cases q:i=p
   ·exact O7 (xb ((Dr rfl rfl).trans (by rw[decide_eq_true (by omega)]))) (by rw[show(WX m X (p+1)).1 i=(WX m X p).1 i from funext λj=>oX q];rfl)
   ·refine O8 (xb ((Dr rfl rfl).trans (by rw[decide_eq_false (by omega)]))) ?_;rw[show(WX m X (p+1)).1 i=_ from funext λj=>oY q];exact c4 rfl rfl rfl rfl (HM (by omega) (by omega) (λj f=>g i j a (by omega)) (λj f=>g p j c (by omega)) I.nz (z (by omega)))
 ·rintro s ⟨b,d,rfl⟩;exact⟨_,rfl,rfl⟩
theorem Du{m:Nat}{A X:Mt}(d:m<=6)(ok:BOk m A X)(b:∀i j,i<m->j<m->(X i j).natAbs<=2^7)(c:∀i,i<m->(X i m).natAbs<=2^208) :
  WH [wP (Mw m m A),pP (Xg m λi=>X i m)]=ag (.lst (iL (Xg m λi=>((WX m X m).1 i m).fdiv (WX m X m).2))):=by
 have I:=Wx ok (aa m)
 have g:(WX m X m).2.natAbs<2^1000:=by
  cases m with
  | zero=>show(1:Int).natAbs<_;decide +kernel
  | succ k=>exact dE ((Qr ok b c (p:=k) (by omega)).1 k k (by omega) (by omega)) (Zj8 (by omega))
 refine YZ (sq (Zp (c1 (LO (w:=m+1) X (q:=λi=>.tup [pP (Xg m (A i)),.int (X i m)]) ?_ (by omega) λi a=>⟨_,rfl,?_⟩) (Dt d (by omega) (by omega) ok b c (.inl rfl)))) (ret (LN (q:=λi=>pP (Xg (m+1) ((WX m X m).1 i))) _ ?_ (by omega) λi a=>⟨_,rfl,vP (vC (C:=Qz) (op:=n8) (o2 rfl rfl ?_) rfl (FG I.nz g))⟩)))
 ·show ag (Tt (tL (Mw m m A)) (iL (Xg m λi=>X i m)))=_;rw[V3 _ _ (by rw[Na,aL,XQ]),Na];congr 1;refine ar λi a=>?_;have a:=aW.mp a;rw[Xq _ i (by rw[XQ];exact a),Qs a,aF,HP a];rfl
 ·have f:iL (Xg m (A i))++[PV.int (X i m)]=iL (Xg (m+1) (X i)):=by unfold Xg;rw[eQ,bM];simp;exact λj e=>(ok.ext i j a e).symm
  show(if(iL (Xg m (A i))).length+[PV.int (X i m)].length<=10000 then ag (PV.tup (iL (Xg m (A i))++[PV.int (X i m)])) else aA)=_;rw[oX (by simp[XQ];omega),f]
 ·show ag (tL (Mw m (m+1) (WX m X m).1))=_;rw[HN]
 ·show Rz (iL (Xg (m+1) ((WX m X m).1 i))) (-1)=_;unfold Rz Kd;rw[aL,XQ,oY (by omega),oX (by omega),show(-1+((m+1:Nat):Int)).toNat=m by omega];show(iL (Xg (m+1) ((WX m X m).1 i)))[m]?=_;rw[M6 (by rw[XQ];omega),Qs (by omega)]
noncomputable def Vl(b i:Nat):Nat:=if i<b then i else i+1
noncomputable def DQ(b h:Nat):Nat:=if h<b then h else h-1
theorem Aw(b i:Nat):Vl b i≠b:=by unfold Vl;split<;>omega
theorem Uc{b i m:Nat}(h:i<m):Vl b i<m+1:=by unfold Vl;split<;>omega
theorem FJ(b i:Nat):DQ b (Vl b i)=i:=by unfold DQ Vl;split<;>(try split)<;>omega
theorem LP{b h:Nat}(q:h≠b):Vl b (DQ b h)=h:=by unfold DQ Vl;split<;>(try split)<;>omega
theorem Zhg{b h m:Nat}(a:b<m+1)(c:h<m+1)(q:h≠b):DQ b h<m:=by unfold DQ;split<;>omega
theorem JH{n b:Nat}(c:n<=7)(a:b<n):(aD n).filter (λh=>!decide (h=b))=(aD (n-1)).map (Vl b):=by
 have:∀n,n<8->∀b,b<8->b<n->(aD n).filter (λh=>!decide (h=b))=(aD (n-1)).map (Vl b):=by decide
 exact this n (by omega) b (by omega) a
theorem Ax{f:Nat->Int}{b:Nat}(a:f b=0):∀{m:Nat},b<m+1->sN (m+1) f=sN m (λi=>f (Vl b i))
 | 0,h=>by
  have:b=0:=by omega
  subst this;show 0+f 0=0;rw[a];rfl
 | m+1,h=>by
  by_cases q:b=m+1
  ·subst q;show sN (m+1) f+f (m+1)=_;rw[a,jB];exact Zj λi c=>by unfold Vl;rw[oX c]
  ·show sN (m+1) f+f (m+1)=sN m (λi=>f (Vl b i))+f (Vl b m);rw[Ax a (m:=m) (by omega),show Vl b m=m+1 by unfold Vl;rw[oY (by omega)]]
theorem QH{f:Nat->Int}:∀{n:Nat},(∀i,i<n->0<=f i)->sN n f<=0->∀i,i<n->f i=0
 | 0,_,_,i,h=>by omega
 | n+1,h,s,i,a=>by
  have s:sN n f+f n<=0:=s
  have d:0<=sN n f:=by
   have:∀k,k<=n->0<=sN k f:=by
    intro k
    induction k with
    | zero=>intro _;exact dq 0
    | succ k ih=>intro b;have:=ih (by omega);have:=h k (by omega);show 0<=sN k f+f k;omega
   exact this n (aa n)
  have c:=h n (by omega);by_cases q:i=n
  ·subst q;omega
  ·exact QH (n:=n) (λi a=>h i (by omega)) (by omega) i (by omega)
theorem Vz{f:Nat->Int}:∀{n:Nat},(∀i,i<n->0<=f i)->0<=sN n f
 | 0,_=>dq 0
 | n+1,h=>by have:=Vz (n:=n) λi a=>h i (by omega);have:=h n (by omega);show 0<=sN n f+f n;omega
theorem JI(Y:Nat->Int):∀{n:Nat},0<n->∃h,h<n/\∀g,g<n->Y h<=Y g
 | 0,h=>by omega
 | 1,_=>⟨0,by omega,λg a=>by rw[show g=0 by omega];exact dq _⟩
 | n+2,_=>by
  obtain⟨h,c,b⟩:=JI Y (n:=n+1) (by omega);by_cases q:Y h<=Y (n+1)
  ·exact⟨h,by omega,λg a=>by
    by_cases e:g=n+1
    ·rw[e];exact q
    ·exact b g (by omega)⟩
  ·exact⟨n+1,by omega,λg a=>by
    by_cases e:g=n+1
    ·rw[e];exact dq _
    ·have:=b g (by omega);omega⟩
noncomputable def gN(W:List (List Int))(Y:Nat->Int)(h:Nat):Int:=sN W.length (λg=>ZW W h g*(Y g-Y h))
theorem Zj9{W:List (List Int)}(ok:ZA W)(u:Sg W){Y:Nat->Int}{b:Nat}(v:b<W.length)(j:∀h,h<W.length->h≠b->Y h<Y b->gN W Y h<=0):∀h,h<W.length->Y b<=Y h:=by
 intro h o;refine Int.not_lt.mp λp=>?_;obtain⟨e,q,l⟩:=JI Y (n:=W.length) (by omega);have w:Y e<Y b:=by have:=l h o;omega
 have step:∀a c,a<W.length->c<W.length->0<ZW W a c->Y a=Y e->Y c=Y e:=λa c d i k ea=>by
  have s:=j a d (λz=>by rw[z] at ea;omega) (by omega);have t:=QH (f:=λg=>ZW W a g*(Y g-Y a)) (λg m=>iI (ok.lo a g d m) (by have:=l g m;omega)) s c i
  have:Y c-Y a=0:=by
   rcases Int.mul_eq_zero.mp t with z | z
   ·omega
   ·exact z
  omega
 have:=(u (λx=>Y x=Y e) (λa c d i k=>⟨step a c d i k,step c a i d (by rw[ok.sym c a i d];exact k)⟩) e b q v).mp rfl;omega
theorem Nc{W:List (List Int)}(Y Z:Nat->Int)(h:Nat):gN W (λx=>Y x+Z x) h=gN W Y h+gN W Z h:=by
 unfold gN;rw[<-Z1];exact Zj λg _=>by show ZW W h g*(Y g+Z g-(Y h+Z h))=_;rw[<-kn];congr 1;omega
theorem HQ{W:List (List Int)}(c:Int)(Y:Nat->Int)(h:Nat):gN W (λx=>c*Y x) h=c*gN W Y h:=by
 unfold gN;rw[<-ZM];exact Zj λg _=>by show ZW W h g*(c*Y g-c*Y h)=_;rw[<-j4,fY]
theorem Nd{W:List (List Int)}{Y Z:Nat->Int}{h:Nat}(b:h<W.length)(e:∀g,g<W.length->Y g=Z g):gN W Y h=gN W Z h:=Zj λg a=>by rw[e g a,e h b]
theorem Zc7(W:List (List Int))(S:List Int)(h:Nat):Rq W S h=gN W (Zr S) h:=by unfold Rq gN;rw[XY]
noncomputable def Qt(W:List (List Int))(b:Nat):Mt:=λi j=>if Vl b j=Vl b i then(Zx W (Vl b i)).sum else-ZW W (Vl b i) (Vl b j)
noncomputable def Uo(W:List (List Int))(b:Nat)(c:Nat->Int):Mt:=λi j=>if j<W.length-1 then Qt W b i j else c (Vl b i)
theorem Ay{W:List (List Int)}(ok:ZA W){b:Nat}(w:b<W.length){Y:Nat->Int}(t:Y b=0){k:Nat}(e:k<W.length-1):gN W Y (Vl b k) = - sN (W.length-1) (λi=>Qt W b k i*Y (Vl b i)):=by
 have v:=ok.pos;obtain⟨m,c⟩:∃m,W.length=m+1:=⟨W.length-1,by omega⟩;have d:W.length-1=m:=by omega
 rw[d] at e ⊢;generalize j:Vl b k=h;have a:h<W.length:=by rw[c,<-j];exact Uc e
 have o:sN m (λi=>Qt W b k i*Y (Vl b i))=sN (m+1) (λg=>(if g=h then(Zx W h).sum else-ZW W h g)*Y g):=by
  rw[Ax (b:=b) (f:=λg=>(if g=h then(Zx W h).sum else-ZW W h g)*Y g) (by rw[t,gF]) (by omega)];exact Zj λi _=>by unfold Qt;rw[j]
 have n:sN (m+1) (λg=>(if g=h then(Zx W h).sum else-ZW W h g)*Y g)=(-1)*sN (m+1) (λg=>ZW W h g*Y g)+(Zx W h).sum*Y h:=by
  have:sN (m+1) (λg=>if g=h then(Zx W h).sum*Y h else 0)=(Zx W h).sum*Y h:=by rw[Yq (k:=h) (by omega) λi _ l=>oY l,oX rfl]
  rw[<-this,<-ZM,<-Z1];refine Zj λg u=>?_;by_cases q:g=h
  ·subst q;rw[oX rfl,oX rfl,ok.dia g a];omega
  ·rw[oY q,oY q,e7,e7,ko];omega
 have s:(Zx W h).sum=sN (m+1) (λg=>ZW W h g):=by rw[Pf ok a,XY,c]
 have p:gN W Y h=sN (m+1) (λg=>ZW W h g*Y g)+(- Y h)*sN (m+1) (λg=>ZW W h g):=by
  unfold gN;rw[c,<-ZM,<-Z1];exact Zj λg _=>by rw[j4,cP (- Y h),Int.mul_neg];omega
 rw[p,o,n,s,cP (sN (m+1) λg=>ZW W h g) (Y h),e7];omega
theorem HR{W:List (List Int)}(ok:ZA W)(E:Sg W){b:Nat}(B:b<W.length)(c:Nat->Int):BOk (W.length-1) (Qt W b) (Uo W b c):=by
 have H:=ok.pos;obtain⟨m,t⟩:∃m,W.length=m+1:=⟨W.length-1,by omega⟩;have d:W.length-1=m:=by omega
 have n:∀i j,i<m->j<m->Qt W b i j=Qt W b j i:=λi j s g=>by
  unfold Qt;by_cases q:Vl b j=Vl b i
  ·rw[oX q,oX q.symm,q]
  ·rw[oY q,oY (λz=>q z.symm),ok.sym _ _ (by rw[t];exact Uc s) (by rw[t];exact Uc g)]
 rw[d];refine⟨n,λp v z G k w=>?_,λi j s g=>by unfold Uo;rw[d,oX g]⟩;obtain⟨Z,y⟩:∃Z:Nat->Int,∀h,Z h=if h=b then 0 else if DQ b h<p then z (DQ b h) else 0:=⟨_,λ_=>rfl⟩
 have f:Z b=0:=by rw[y,oX rfl]
 have A:∀i,Z (Vl b i)=if i<p then z i else 0:=λi=>by rw[y,oY (Aw b i),FJ]
 have o:∀j,j<p->gN W Z (Vl b j)=0:=λj g=>by
  rw[Ay ok B f (by omega),d]
  have e:sN m (λi=>Qt W b j i*Z (Vl b i))=sN p (λk=>z k*Qt W b k j):=by
   rw[Qq (q:=p) v λk C D=>by rw[A,oY (by omega),gF]];exact Zj λk w=>by rw[A,oX w,n j k (by omega) (by omega),cP]
  rw[e,G j g];rfl
 have off:∀h,h<W.length->Z h≠0->gN W Z h=0:=λh u ne=>by
  have l:h≠b:=λz=>ne (by rw[z];exact f);have s:DQ b h<p:=by refine Nat.not_le.mp λq=>ne ?_;rw[y,oY l,oY (by omega)]
  have:=o _ s;rw[LP l] at this;exact this
 have up:=Zj9 ok E (Y:=Z) B (λh u _ a=>by rw[off h u (by rw[f] at a;omega)];exact dq _)
 have F:=Zj9 ok E (Y:=λx=>(-1)*Z x) B (λh u _ a=>by
  simp only[f] at a;rw[HQ,off h u (by omega)];decide)
 have C:=up (Vl b k) (by rw[t];exact Uc (by omega));have D:=F (Vl b k) (by rw[t];exact Uc (by omega));simp only[f,A,oX w] at C D;omega
theorem Dv{W:List (List Int)}(ok:ZA W)(l:Sg W){b:Nat}(k:b<W.length)(c:Nat->Int) :
  ∃R:Nat->Int,R b=0/\(∀i,i<W.length-1->R (Vl b i)=(WX (W.length-1) (Uo W b c) (W.length-1)).1 i (W.length-1))/\∀h,h<W.length->h≠b->gN W R h = - ((WX (W.length-1) (Uo W b c) (W.length-1)).2*c h):=by
 have n:=ok.pos;have bk:=HR ok l k c;obtain⟨R,d⟩:∃R:Nat->Int,∀h,R h=if h=b then 0 else(WX (W.length-1) (Uo W b c) (W.length-1)).1 (DQ b h) (W.length-1):=⟨_,λ_=>rfl⟩
 have j:R b=0:=by rw[d,oX rfl]
 have g:∀i,R (Vl b i)=(WX (W.length-1) (Uo W b c) (W.length-1)).1 i (W.length-1):=λi=>by rw[d,oY (Aw b i),FJ]
 refine⟨R,j,λi _=>g i,λh o a=>?_⟩;have f:DQ b h<W.length-1:=Zhg (m:=W.length-1) (by omega) (by omega) a;have e:=Ay ok k j f;rw[LP a] at e;have s:=Ds bk f;have x:Uo W b c (DQ b h) (W.length-1)=c h:=by unfold Uo;rw[oY (by omega),LP a]
 rw[x] at s;rw[e,<-s];congr 1;exact Zj λi _=>by rw[g]
theorem Az(l:List Int)(g:Int->Int):l.map g=(aD l.length).map λi=>g (Zr l i):=by refine Ua (by simp) λi a=>?_;rw[aL] at a;rw[ZC (by omega)];simp[Zr,aF,aJ a]
theorem HS{n:Nat}{ix:List Nat}{d:XL}{c:XT}{b:XE}{s:ZG}{l:List Int}(g:Int->Int)(a:d s=ag (iL l))(f:l.length<=1000)(h:∀x∈l,∃s1,Xy (.one 0) (.int x) (ZP n ix s)=ag s1/\c s1=ag aC/\b s1=ag (.int (g x))) :
  Zt n ix d (.one 0) c b s=ag (.lst (iL (l.map g))):=by
 rw[ZI l (λ(x:Int)=>.int x) (λx=>.int (g x)) a (by omega) (λx e=>h x e)];simp
theorem HU{l:List Int}(c:0<l.length)(b:l.length<=1000):Pa [pP l]=ag (pP (XN l)):=by
 have d:Zt 1 [1] (Ts (Za 0)) (.one 0) ZD (Zk Xk (Za 0) (Za 1)) [ag (pP l),ag (.int (Wa l))]=ag (.lst (iL (XN l))):=by rw[show XN l=l.map λx=>x-Wa l from(Az l λx=>x-Wa l).symm];exact HS (λx=>x-Wa l) (S2 rfl) b λx e=>⟨_,rfl,rfl,by simp[ZP]⟩
 have a:=Fe Wa (l:=l) (ig.mp c);simp[Pa,Fh,YL,ZK,a,d]
theorem Dw{W:List (List Int)}{h m:Nat}{f:Nat->Nat}(ok:ZA W)(a:h<W.length)(d:m<=6)(c:∀i,i<m->f i<W.length) :
  Ox [wP W,.int (h:Int),.lst (iL (nL ((aD m).map f)))]=ag (pP (Xg m λj=>if f j=h then(Zx W h).sum else-ZW W h (f j))):=by
 refine YZ (ret (J2 (c1 (LN (q:=λj=>.int ((f j:Nat):Int)) _ (by show ag (iL (nL ((aD m).map f)))=_;simp[nL]) (by omega) λj b=>⟨_,rfl,?_⟩) rfl)));by_cases q:f j=h
 ·rw[oX q];exact O7 (xb ((Dr rfl rfl).trans (by rw[decide_eq_true (by omega)]))) (c2 rfl rfl (OZ a))
 ·rw[oY q];exact O8 (xb ((Dr rfl rfl).trans (by rw[decide_eq_false (by omega)]))) (un1 (o2 (o2 rfl rfl (SW a)) rfl (Ys (by rw[ok.sq h a];exact c j b))) rfl)
theorem Rv{W:List (List Int)}{b:Nat}(ok:ZA W)(k:b<W.length) :
  XD [wP W,.int (b:Int)]=ag (wP (Mw (W.length-1) (W.length-1) (Qt W b))):=by
 have o:=ok.pos;have l:=ok.few;obtain⟨m,e⟩:∃m,W.length=m+1:=⟨W.length-1,by omega⟩;have a:W.length-1=m:=by omega
 rw[a];have d:∀i,i<m->Vl b i<W.length:=λi c=>by rw[e];exact Uc c
 have j:Zt 1 [1] (Z8 [Zc ZZ [Za 0]]) (.one 0) (xB (Zk (Xx aC) (Za 0) (Za 1))) (eP (Za 0)) [ag (wP W),ag (.int (b:Int)),aA]=ag (.lst (iL (nL ((aD m).map (Vl b))))):=by
  rw[Xp (aD W.length) (λ(i:Nat)=>.int (i:Int)) (λ(i:Nat)=>.int (i:Int)) (λh=>!decide (h=b)) (Yl (n:=W.length) (by simp) (by omega)) (by simp;omega) λy p=>⟨[ag (.int (y:Int)),ag (.int (b:Int))],rfl,?_,λ_=>by simp⟩]
  ·rw[JH l k,a];simp[nL]
  ·by_cases q:y=b
   ·simp[q]
   ·have g:¬(y:Int)=(b:Int):=by omega
    simp[q,g]
 exact YZ (sq (Zp j) (ret (ep (c1 (LO (w:=m) (Qt W b) (q:=λi=>.int ((Vl b i:Nat):Int)) (by show ag (iL (nL ((aD m).map (Vl b))))=_;simp[nL]) (by omega) λi c=>⟨_,rfl,c3 rfl rfl rfl (Dw (f:=Vl b) ok (d i c) (by omega) d)⟩) rfl) (KW _))))
theorem FK{f:Nat->Int}:∀{n:Nat},(∀i,i<n->0<=f i/\f i<=9)->0<=sN n f/\sN n f<=9*n
 | 0,_=>⟨dq _,by show(0:Int)<=_;omega⟩
 | n+1,h=>by
  obtain⟨a,b⟩:=FK (n:=n) λi c=>h i (by omega);have:=h n (by omega);refine⟨?_,?_⟩
  ·show 0<=sN n f+f n;omega
  ·show sN n f+f n<=_;omega
theorem Dx{W:List (List Int)}(ok:ZA W){b:Nat}{c:Nat->Int}{i j:Nat}(h:i<W.length-1)(d:j<W.length-1):(Uo W b c i j).natAbs<=2^7:=by
 have l:=ok.pos;have k:=ok.few;have e:Vl b i<W.length:=by have:=Uc (b:=b) h;omega
 have g:Vl b j<W.length:=by have:=Uc (b:=b) d;omega
 unfold Uo Qt;rw[oX d];split
 ·rw[Pf ok e,XY];obtain⟨a,b⟩:=FK (f:=λj=>ZW W (Vl b i) j) (n:=W.length) λj d=>⟨ok.lo _ j e d,ok.hi _ j e d⟩;omega
 ·have:=ok.lo _ _ e g;have:=ok.hi _ _ e g;omega
noncomputable def FL(W:List (List Int))(D:List Int)(b:Nat):List Int:=
 (Xg (W.length-1) λi=>((WX (W.length-1) (Uo W b (Zr D)) (W.length-1)).1 i (W.length-1)).fdiv (WX (W.length-1) (Uo W b (Zr D)) (W.length-1)).2).take b++0::(Xg (W.length-1) λi=>((WX (W.length-1) (Uo W b (Zr D)) (W.length-1)).1 i (W.length-1)).fdiv (WX (W.length-1) (Uo W b (Zr D)) (W.length-1)).2).drop b
theorem AA{W:List (List Int)}{D:List Int}{b:Nat}(a:b<W.length):(FL W D b).length=W.length:=by unfold FL;rw[aY,br,bK,bh,XQ];omega
theorem AB{W:List (List Int)}{D:List Int}{b:Nat}(ok:ZA W)(k:Sg W)(hd:D.length=W.length)(c:b<W.length)(f:∀h,h<W.length->(Zr D h).natAbs<=2^208):RU [wP W,pP D,.int (b:Int)]=ag (pP (FL W D b)):=by
 have l:=ok.few
 have g:D.take b++D.drop (b+1)=Xg (W.length-1) λi=>Uo W b (Zr D) i (W.length-1):=by
  refine Ua (by rw[aY,br,bh,XQ];omega) λi a=>?_;have a:i<W.length-1:=by rw[aY,br,bh] at a;omega
  rw[Qs a];unfold Uo Vl Zr;rw[oY (by omega),aF,aF];by_cases q:i<b
  ·rw[oX q,au (by rw[br];omega),gQ q]
  ·rw[oY q,bH (by rw[br];omega),br,fS (by omega),gk];congr 2;omega
 have d:=Du (by omega) (HR ok k c (Zr D)) (λi j a e=>Dx ok a e) (λi a=>by
  unfold Uo;rw[oY (by omega)];exact f _ (by have:=Uc (b:=b) a;omega))
 rw[<-g] at d;exact YZ (sq (Zp (J2 (o2 (Zcz rfl rfl (by omega)) (Zc0 rfl rfl (by omega)) (LM (by rw[br,bh];omega))))) (sq (Zp (c2 (c2 rfl rfl (Rv ok c)) rfl d)) (sq (Au (n:=b) rfl rfl rfl (by omega) (by rw[XQ];omega)) (ret (J2 (c1 rfl rfl))))))
theorem Zhh{c:XT}{fb:XS}(g:Nat->ZG->Prop)(step:∀k st,g k st->c st=ag aB\/(c st=ag aC/\∃s2 k',fb st=ag (.nx s2)/\k'<k/\g k' s2)){k:Nat}{s:ZG}(o:g k s) :
  ∃f k',WE c fb s=ag (.nx f)/\g k' f/\c f=ag aB:=by
 have l:∀(n k:Nat)(st:ZG),k<n->g k st->∃f k',Y2 c fb n st=ag (.nx f)/\g k' f/\c f=ag aB:=by
  intro n
  induction n with
  | zero=>intro k st h;omega
  | succ n ih=>
   intro k st p m;rcases step k st m with i | ⟨i,s2,k',e,q,j⟩
   ·exact⟨st,k,by unfold Y2;rw[i];rfl,m,i⟩
   ·obtain⟨f,k2,a,b,d⟩:=ih k' s2 (by omega) j;refine⟨f,k2,?_,b,d⟩;unfold Y2;rw[i];simp only[e];exact a
 obtain⟨f,k',a,b,d⟩:=l (k+1) k s (by omega) o;exact⟨f,k',Ew a,b,d⟩
noncomputable def LQ(n:Nat)(L:List Nat):List Int:=(aD n).map λh=>if h∈L then -1 else 0
theorem FN{n:Nat}{L:List Nat}{h:Nat}(a:h<n):Zr (LQ n L) h=if h∈L then -1 else 0:=ZC a
theorem Qu{W:List (List Int)}{D S:List Int}{h:Nat}(a:h<D.length):Zr (WU W D S) h=Zr D h+gN W (Zr S) h:=by rw[B8 a,Zc7]
theorem gIx_p{n:Nat}{l:List Int}(h:l.length=n):∀k:Nat,k<n->ZJ (pP l) (.int (k:Int))=ag (.int (Zr l k)):=λk a=>Ys (by omega)
theorem Zex{n:Nat}{l:List Int}(h:l.length=n):∀k:Nat,k<n->ZJ (.lst (iL l)) (.int (k:Int))=ag (.int (Zr l k)):=λk a=>Ys (by omega)
theorem Nf{W:List (List Int)}{T:Nat->Int}{c:Int}(e:∀h,h<W.length->T h=c){h:Nat}(b:h<W.length):gN W T h=0:=YY λg a=>by rw[e g a,e h b];simp
theorem AD{f:Nat->Int}{M:Nat}:∀{n:Nat},(∀i,i<n->(f i).natAbs<=M)->(sN n f).natAbs<=n*M
 | 0,_=>by show(0:Int).natAbs<=_;simp
 | n+1,h=>by have c:=AD (n:=n) λi b=>h i (by omega);have a:=h n (by omega);show(sN n f+f n).natAbs<=_;rw[Nat.add_mul,Nat.one_mul];omega
theorem Ng(l:List Int):l.sum=sN l.length (Zr l):=by rw[<-XY,MR]
theorem Nh{b:Type}{p q:b->Bool}:∀{l:List b},(∀x∈l,p x=q x)->l.find? p=l.find? q
 | [],_=>rfl
 | a::r,h=>by rw[dP,dP,h a ao,Nh (l:=r) λx c=>h x (aR _ c)]
theorem Qv{f:Nat->Int}:∀{n:Nat},(∀i,i<n->0<=f i)->∀{k:Nat},k<n->f k<=sN n f
 | 0,_,k,h=>by omega
 | n+1,z,k,h=>by
  show f k<=sN n f+f n;have b:=z n (by omega);by_cases q:k=n
  ·subst q;have:=Vz (n:=k) λi a=>z i (by omega);omega
  ·have:=Qv (n:=n) (λi a=>z i (by omega)) (k:=k) (by omega);omega
noncomputable def AE(n h:Nat):List Int:=(aD n).map λg=>if g=h then 1 else 0
theorem Dy{W:List (List Int)}{h:Nat}(d:W.length<=7):Oy [wP W,.int (h:Int)]=ag (pP (AE W.length h)):=by
 have b:Zt 1 [1] (Z8 [Zc ZZ [Za 0]]) (.one 0) ZD (J1 (xB (Zk (Xx aB) (Za 0) (Za 1))) (eC (.int 1)) (eC (.int 0))) [ag (wP W),ag (.int (h:Int))]=ag (.lst (iL (AE W.length h))):=
  Vy (λg=>if g=h then 1 else 0) (Yl (by simp) (by omega)) (by omega) λg c=>⟨[ag (.int (g:Int)),ag (.int (h:Int))],rfl,rfl,by
   by_cases q:g=h
   ·subst q;simp
   ·have a:¬(g:Int)=(h:Int):=by omega
    simp[q,a]⟩
 show(ZO _ [ag (wP W),ag (.int (h:Int))]).bind Oa=_;rw[Ao (by rw[Oc,XC,Zz,b];exact Zlz)];rfl
theorem Wr{a:List Int}(h:a.length<=63)(k:Nat):Yk [.cst (iL a),.int (k:Int)]=ag (.int (Zr a k)):=by
 have c:xB (Zk GJ (Za 1) (Zc ZZ [Za 0])) [ag (.cst (iL a)),ag (.int (k:Int))]=ag (decide (k<a.length)):=by
  show ag (decide ((k:Int)<((iL a).length:Int)))=_;congr 1;rw[aL];by_cases q:k<a.length
  ·rw[decide_eq_true q,decide_eq_true (by omega)]
  ·rw[decide_eq_false q,decide_eq_false (by omega)]
 have v:J1 (xB (Zk GJ (Za 1) (Zc ZZ [Za 0]))) (Zk ZJ (Za 0) (Za 1)) (eC (.int 0)) [ag (.cst (iL a)),ag (.int (k:Int))]=ag (.int (Zr a k)):=by
  rw[M5,c];by_cases q:k<a.length
  ·rw[decide_eq_true q];exact Ys q
  ·rw[decide_eq_false q];have:Zr a k=0:=by unfold Zr;rw[aF,cK (by omega)];rfl
   rw[this];rfl
 show(ZO _ [ag (.cst (iL a)),ag (.int (k:Int))]).bind Oa=_;rw[Ao (vP v)];rfl
theorem YE(c:Int){t m:Nat}(p:t<=1000)(o:0<m):∃v:Nat,v<m/\ZU [.int c,.int (t:Int),.int (m:Int)]=ag (.int (v:Int)):=by
 have b:(0:Int)<(m:Int):=by omega
 have h:∀x:Int,∃v:Nat,v<m/\x%(m:Int)=(v:Int):=λx=>by have q:=kZ x (show(m:Int)≠0 by omega);have n:=jP x b;exact⟨(x%(m:Int)).toNat,by omega,by omega⟩
 generalize d:(c%999983+(t:Int))*((t:Int)+389)%999983=x1;have b1:0<=x1/\x1<2000000:=by omega
 generalize g:(x1*x1+c/999983+(t:Int))%999979=x2;obtain⟨v,k,l⟩:=h (x2/3);refine⟨v,k,?_⟩;have e:CMul (c%999983+(t:Int)) ((t:Int)+389):=.inl (by omega);have f:CMul x1 x1:=.inl (by omega)
 have j:Zu 3 (eP (Zk X1 (Zk NC (Zk Z6 (Zk X1 (Za 0) (eC (.int 999983))) (Za 1)) (Zk Z6 (Za 1) (eC (.int 389)))) (eC (.int 999983)))) [ag (.int c),ag (.int (t:Int)),ag (.int (m:Int)),aA]=ag (.nx [ag (.int c),ag (.int (t:Int)),ag (.int (m:Int)),ag (.int x1)]):=by
  rw[SV,vP (a:=x1) (by
   rw[<-d];exact vC (vC (vI (vC rfl rfl (by decide)) rfl) (vI rfl rfl) e) rfl (by decide))]
  rfl
 have i:Zu 3 (eP (Zk X1 (Zk Z6 (Zk Z6 (Zk NC (Za 3) (Za 3)) (Zk SA (Za 0) (eC (.int 999983)))) (Za 1)) (eC (.int 999979)))) [ag (.int c),ag (.int (t:Int)),ag (.int (m:Int)),ag (.int x1)]=ag (.nx [ag (.int c),ag (.int (t:Int)),ag (.int (m:Int)),ag (.int x2)]):=by
  rw[SV,vP (a:=x2) (by
   rw[<-g];exact vC (vI (vI (vC rfl rfl f) (vC rfl rfl ⟨by decide,by decide⟩)) rfl) rfl (by decide))]
  rfl
 show(Zm _ _ [ag (.int c),ag (.int (t:Int)),ag (.int (m:Int)),aA]).bind Oa=_
 rw[B7 j,B7 i,Ao (v:=.int (v:Int)) (vP (by
  rw[<-l];exact vC (vC rfl rfl ⟨by decide,by decide⟩) rfl b))]
 rfl
theorem Mx{a:Type}(l:List a)(f:a->Int):iL (l.map f)=l.map λg=>.int (f g):=bQ
theorem Zhi(a:List Int)(x:Int):iL (a++[x])=iL a++[.int x]:=bM ..
noncomputable def Ni(n:Nat)(M:List (List Int)):Int:=sN n (λi=>sN n (λj=>ZW M i j))
structure Tied(n:Nat)(M:List (List Int))(t:Nat):Prop where
 mat:MatOk n M
 few:∀i j,i<n->j<n->ZW M i j<=(t:Int)
 sum:Ni n M=2*(t:Int)
noncomputable def upM(M:List (List Int))(a b:Nat):List (List Int):=Dq M a b (ZW M a b+1)
theorem AF{n:Nat}{M:List (List Int)}{a b:Nat}(ok:MatOk n M)(f:a<n)(e:b<n)(ne:a≠b)(i j:Nat):ZW (upM M a b) i j=ZW M i j+((if i=a then(if j=b then 1 else 0) else 0)+(if i=b then(if j=a then 1 else 0) else 0)):=by
 unfold upM;rw[Pj ok f e];by_cases d:b=i/\a=j
 ·obtain⟨rfl,rfl⟩:=d;rw[ok.sym a b f e];omega
 ·rw[oY d];by_cases c:a=i/\b=j
  ·obtain⟨rfl,rfl⟩:=c;rw[oY ne];omega
  ·rw[oY c]
   have h:(if i=a then(if j=b then(1:Int) else 0) else 0)=0:=by
    by_cases z:i=a
    ·rw[oX z,oY (λy=>c ⟨z.symm,y.symm⟩)]
    ·rw[oY z]
   have g:(if i=b then(if j=a then(1:Int) else 0) else 0)=0:=by
    by_cases z:i=b
    ·rw[oX z,oY (λy=>d ⟨z.symm,y.symm⟩)]
    ·rw[oY z]
   rw[h,g];omega
theorem FP{n a b:Nat}(e:a<n)(d:b<n):sN n (λi=>sN n (λj=>if i=a then(if j=b then(1:Int) else 0) else 0))=1:=by rw[Yq e λi _ f=>YY λj _=>oY f];rw[Yq d λj _ c=>by rw[oX rfl,oY c],oX rfl,oX rfl]
theorem Tied.up{n t:Nat}{M:List (List Int)}{a b:Nat}(h:Tied n M t)(o:t<=8)(c:a<n)(d:b<n)(ne:a≠b):Tied n (upM M a b) (t+1):=by
 have f:=h.few a b c d;have lo:=h.mat.lo a b c d;refine⟨Zg9 h.mat c d ne (by omega) (by omega),λi j l m=>?_,?_⟩
 ·rw[AF h.mat c d ne];have g:=h.few i j l m;by_cases e:i=a
  ·have:=λz=>ne (e.symm.trans z);split<;>omega
  ·rw[oY e];by_cases k:i=b
   ·rw[oX k];split<;>omega
   ·rw[oY k];omega
 ·unfold Ni
  have:sN n (λi=>sN n (λj=>ZW (upM M a b) i j))=sN n (λi=>sN n (λj=>ZW M i j)+(sN n (λj=>if i=a then(if j=b then(1:Int) else 0) else 0)+sN n (λj=>if i=b then(if j=a then(1:Int) else 0) else 0))):=
   Zj λi _=>by rw[<-Z1,<-Z1];exact Zj λj _=>AF h.mat c d ne i j
  rw[this,Z1,Z1,FP c d,FP d c];have:=h.sum;unfold Ni at this;omega
theorem Tied.zero(n:Nat):Tied n (aQ n (aQ n 0)) 0:=by
 have z:∀i j,i<n->j<n->ZW (aQ n (aQ n (0:Int))) i j=0:=λi j c b=>by
  have a:=(MatOk.zero n).lo i j c b;have:Zx (aQ n (aQ n (0:Int))) i=aQ n 0:=by unfold Zx;rw[aF,bc,oX c];rfl
  unfold ZW;rw[this];unfold Zr;rw[aF,bc,oX b];rfl
 refine⟨MatOk.zero n,λi j c b=>by rw[z i j c b];omega,?_⟩;unfold Ni;exact YY λi c=>YY λj b=>z i j c b
theorem Tied.grow{n t:Nat}{M:List (List Int)}{a b:Nat}(h:Tied n M t)(d:a<n)(c:b<n):(∀i j,0<ZW M i j->0<ZW (upM M a b) i j)/\0<ZW (upM M a b) a b:=by have lo:=h.mat.lo a b d c;exact Zcy h.mat d c (by omega)
theorem JJ{i:Nat}{f fb e:XE}{s:ZG}{n:Nat}{M:List (List Int)}{a b:Nat}(ok:MatOk n M)(d:a<n)(h:b<n)(hs:N6 s i=ag (rL M))(t:Int)(j:f s=ag (.int (a:Int)))(g:fb s=ag (.int (b:Int)))(k:e s=ag (.int t)) :
  Xo i f fb e s=ag (.nx (s.set i (ag (.lst (rL (RI M a b t)))))):=by
 have c:(rL M).length=n:=by unfold rL;rw[aL];exact ok.len
 rw[Og k j g hs (S4 (by rw[c];exact d)) (HE (by rw[ok.len];exact d)) (Z5 _) rfl (S4 (by rw[aL,ok.row a d];exact h)),B6]
theorem My{i:Nat}{h fb f:XE}{s:ZG}{n:Nat}{M:List (List Int)}{a b:Nat}{u:Int}(ok:MatOk n M)(g:a<n)(e:b<n)(hs:N6 s i=ag (rL (RI M a b u)))(t:Int)(k:h s=ag (.int (b:Int)))(j:fb s=ag (.int (a:Int)))(l:f s=ag (.int t)) :
  Xo i h fb f s=ag (.nx (s.set i (ag (.lst (rL (RI (RI M a b u) b a t)))))):=by
 have d:=WB (t:=u) (b:=b) ok.len ok.row g;have c:(rL (RI M a b u)).length=n:=by unfold rL;rw[aL];exact d.1
 rw[Og l k j hs (S4 (by rw[c];exact e)) (HE (by rw[d.1];exact e)) (Z5 _) rfl (S4 (by rw[aL,d.2 b e];exact g)),B6]
theorem LR{s:ZG}{c d fb:XE}{n:Nat}{M:List (List Int)}{a b:Nat}(o:M.length=n)(f:∀i,i<n->(Zx M i).length=n)(e:a<n)(j:b<n)(k:c s=ag (.lst (rL M)))(m:d s=ag (.int (a:Int)))(h:fb s=ag (.int (b:Int))):Zk ZJ (Zk ZJ c d) fb s=ag (.int (ZW M a b)):=by
 have l:=U0 (HE (by rw[o];exact e));have g:=Ys (by rw[f a e];exact j);have p:Zk ZJ c d s=ag (.lst (iL (Zx M a))):=by rw[Vc,k,m];exact l
 rw[Vc,p,h];exact g
theorem FQ{M:List (List Int)}{n k:Nat}{s:ZG}(c:M.length<=7)(h:s[k]?=ag (ag (.lst (rL M)))):eP (Zc ZV [Zt 1 [] (XB (Za k)) (.one 0) ZD (Zc ZV [Za 0])]) s=ag (wP M):=by
 have a:Za k s=ag (.lst (rL M)):=by show s[k]?.bind id=_;rw[h];rfl
 have b:Zt 1 [] (XB (Za k)) (.one 0) ZD (Zc ZV [Za 0]) s=ag (.lst (tL M)):=by refine ZI M (λr=>.lst (iL r)) pP (by unfold XB;rw[a];rfl) (by omega) (λr _=>⟨[ag (.lst (iL r))],rfl,rfl,rfl⟩)
 rw[Oc,XC,Zz,b];show(if ZT (wP M)=aC then ag (wP M) else aA)=_;rw[oX (by simp)]
structure SzOk(Z:List Int)(mo:Nat):Prop where
 ne:0<Z.length
 le:Z.length<=100
 m8:mo<=8
 rg:∀v,v<Z.length->1<=Zr Z v/\Zr Z v<=5/\Zr Z v<=(mo:Int)+1
variable {Z:List Int} {mo:Nat}
theorem SzOk.at(z:SzOk Z mo){v:Nat}(h:v<Z.length):∃n:Nat,1<=n/\n<=5/\n<=mo+1/\ZJ (.lst (iL Z)) (.int (v:Int))=ag (.int (n:Int)):=by have:=z.rg v h;exact⟨(Zr Z v).toNat,by omega,by omega,by omega,(Ys h).trans (by rw[gK (by omega)])⟩
theorem AG{l:List Int}:ZZ [.lst (iL l)]=ag (.int (l.length:Int)):=by show ag (PV.int ((iL l).length:Int))=_;rw[aL]
theorem X6(x:Int){m:Nat}(h:0<m):∃v:Nat,v<m/\x%(m:Int)=(v:Int):=by have a:=kZ x (show(m:Int)≠0 by omega);have b:=jP x (show(0:Int)<(m:Int) by omega);exact⟨(x%(m:Int)).toNat,by omega,by omega⟩
theorem vmn{f g:XE}{s:ZG}{x:Int}{m v:Nat}(e:x%(m:Int)=(v:Int))(h:0<m)(q:f s=ag (.int x))(a:g s=ag (.int (m:Int))):Zk X1 f g s=ag (.int (v:Int)):=by rw[<-e];exact vmd q a
theorem vsc{f:XE}{s:ZG}{i:Nat}(q:f s=ag (.int (i:Int))):Zk Z6 f (eC (.int 1)) s=ag (.int ((i+1:Nat):Int)):=J3 (b:=1) q rfl
theorem FR{a b c n:Nat}(g:a<n)(f:b<n-1)(e:((a:Int)+1+(b:Int))%(n:Int)=(c:Int)):a≠c:=λz=>by
 subst z;have d:(a+1+b)%n=a:=by rw[show((a:Int)+1+(b:Int))=((a+1+b:Nat):Int) by omega,<-Int.natCast_emod] at e;omega
 by_cases w:a+1+b<n
 ·rw[gG w] at d;omega
 ·rw[mF (by omega),gG (by omega)] at d;omega
noncomputable def Zhj(n:Nat)(p:Nat×Nat):Prop:=p.1<n/\p.2<n/\p.1≠p.2
noncomputable def Sj(p:Nat×Nat):PV:=.tup [.int (p.1:Int),.int (p.2:Int)]
theorem Ze0{f g:XE}{s:ZG}{a b:Nat}(q:f s=ag (.int (a:Int)))(c:g s=ag (.int (b:Int))):eP (Wk [f,g]) s=ag (Sj (a,b)):=ep (by rw[SS,Zz,q,Zz,c];rfl)
theorem JK(z:SzOk Z mo)(x:Int):∃(W:List (List Int)) (t:Nat),Wn [.int x,.lst (iL Z),.int (mo:Int)]=ag (wP W)/\ZA W/\Sg W/\W.length<=5/\Ni W.length W=2*(t:Int)/\t<=mo:=by
 have m8:=z.m8;have zl:=z.le;have zn:=z.ne
 suffices h:Yz V6 (ZK 12 [.int x,.lst (iL Z),.int (mo:Int)]) λv=>∃(W:List (List Int)) (t:Nat),v=wP W/\ZA W/\Sg W/\W.length<=5/\Ni W.length W=2*(t:Int)/\t<=mo by obtain⟨v,e,W,t,rfl,r⟩:=QD h;exact⟨W,t,e,r⟩
 obtain⟨v,hv,ev⟩:=X6 x zn;obtain⟨n,n1,n5,nm,en⟩:=z.at hv;let st:Int->List Int->List (Nat×Nat)->Option PV->Option PV->Option PV->ZG:=λx o d x6 x7 x8=>[ag (.int x),ag (.lst (iL Z)),ag (.int (mo:Int)),ag (.int (n:Int)),ag (.lst (iL o)),ag (.lst (d.map Sj)),x6,x7,x8,aA,aA,aA];refine ZR (Zp (vP (o2 rfl (vmn ev zn rfl (c1 rfl AG)) en))) (ZR (Zp (vP (vdv rfl (c1 rfl AG)))) (ZR rfl (ZR rfl ?_)));refine Wf (O6 (n:=n) (λi s=>∃y o u,s=st y o [] u aA aA/\NamesOk i o) rfl ⟨_,[],aA,rfl,NamesOk.nil⟩ ?_) ?_
 ·rintro i s U ⟨y,o,u,rfl,F⟩;obtain⟨r,hr,P⟩:=X6 y (m:=i+1) (by omega);exact Yc (Au (n:=r) (vmn P (by omega) rfl (vsc rfl)) rfl rfl (by omega) (by rw[F.len];omega)) (QG (Zp (vP (vdv rfl (J3 rfl rfl)))) ⟨_,_,_,rfl,F.ins r⟩)
 rintro s ⟨y1,o,u,rfl,F⟩;let Pre:List (Nat×Nat)->Prop:=λd=>∀j p,d[j]?=ag p->p.1=j+1/\p.2<j+1;refine Wf (Aq (m:=1) (n:=n) (λi s=>∃y d u,s=st y o d u aA aA/\d.length+1=i/\Pre d) rfl rfl ⟨y1,[],u,rfl,rfl,λj p h=>by simp at h⟩ ?_) ?_
 ·rintro i s E U ⟨y,d,u,rfl,lp,A⟩;obtain⟨r,hr,P⟩:=X6 y (m:=i) (by omega);refine Yc (Pl Sj (y:=(i,r)) (Ze0 rfl (vmn P (by omega) rfl rfl)) rfl (by omega)) (QG (Zp (vP (vdv rfl rfl))) ⟨_,d++[(i,r)],_,rfl,by simp;omega,λj p h=>?_⟩);by_cases z:j<d.length
  ·rw[au z] at h;exact A j p h
  ·have:j=d.length:=by have:=(aS.mp h).1;simp at this;omega
   subst this;simp at h;subst h;exact⟨lp.symm,by omega⟩
 rintro s ⟨y2,d,w6,rfl,lp,A⟩;obtain⟨r,hr,P⟩:=X6 y2 (m:=mo+2-n) (by omega);have c7:(mo:Int)-(n:Int)+2=((mo+2-n:Nat):Int):=by omega
 obtain⟨I,hmo,m1,em⟩:∃I:Nat,I+n<=mo+1/\(1<=I->2<=n)/\Zk NC (Zc Qx [Zk DO (Za 3) (eC (.int 1))]) (Zk X1 (Za 0) (Zk Z6 (Zk Xk (Za 2) (Za 3)) (eC (.int 2)))) (st y2 o d w6 aA aA)=ag (.int (I:Int)):=by
  have g:Zc Qx [Zk DO (Za 3) (eC (.int 1))] (st y2 o d w6 aA aA)=ag (.int (if 1<n then 1 else 0)):=c1 (vgt (b:=1) rfl rfl) (by
   by_cases q:1<n
   ·rw[decide_eq_true q,oX q];rfl
   ·rw[decide_eq_false q,oY q];rfl)
  refine⟨if 1<n then r else 0,by split<;>omega,λh=>by revert h;split<;>omega,(vC (C:=CMul) (op:=(· * ·)) g (vmn P (by omega) rfl (by rw[<-c7];exact J3 (J4 rfl rfl) rfl)) (.inl (by split<;>omega))).trans ?_⟩;split<;>simp
 refine ZR (Zp (vP em)) (ZR (Zp (vP (vdv rfl (J3 (J4 rfl rfl) rfl)))) ?_);let Q:List (Nat×Nat)->Prop:=λk=>(∀j,j<n-1->k[j]?=d[j]?)/\∀p∈k,Zhj n p
 have R:Q d:=⟨λj _=>rfl,λp J=>by
  obtain⟨j,hj,e⟩:=cq J;have:=A j p (by rw[aJ hj,e]);exact⟨by omega,by omega,by omega⟩⟩
 refine Wf (O6 (n:=I) (λi s=>∃y k u N,s=st y o k u (ag (.int (I:Int))) N/\k.length=n-1+i/\Q k) rfl ⟨_,d,w6,aA,rfl,by omega,R⟩ ?_) ?_
 ·rintro i s U ⟨y,k,u,N,rfl,lq,all⟩;have n2:=m1 (by omega);obtain⟨a,H,ea⟩:=X6 y (m:=n) (by omega);obtain⟨b,L,T⟩:=X6 (y/(n:Int)) (m:=n-1) (by omega);obtain⟨c,hc,ec⟩:=X6 ((a:Int)+1+(b:Int)) (m:=n) (by omega);have cn:(n:Int)-1=((n-1:Nat):Int):=by omega
  refine Yc (Zp (vP (vmn ea (by omega) rfl rfl))) (Yc (Zp (vP (vdv rfl rfl))) (Yc (Pl Sj (y:=(a,c)) (Ze0 rfl (vmn ec (by omega) (J3 (J3 rfl rfl) (vmn T (by omega) rfl (by rw[<-cn];exact J4 rfl rfl))) rfl)) rfl (by omega)) (QG (Zp (vP (vdv rfl (J4 rfl rfl)))) ⟨_,k++[(a,c)],_,_,rfl,by simp;omega,λj hj=>?_,λp J=>?_⟩)))
  ·rw[au (by omega)];exact all.1 j hj
  ·rcases ah.mp J with h | h
   ·exact all.2 p h
   ·rw[aN.mp h];exact⟨H,hc,FR H L ec⟩
 rintro s ⟨y3,k,v6,v8,rfl,lq,all⟩;let stT:List (List Int)->Option PV->Option PV->Option PV->ZG:=λM N G B=>[ag (.int y3),ag (.lst (iL Z)),ag (.int (mo:Int)),ag (.int (n:Int)),ag (.lst (iL o)),ag (.lst (k.map Sj)),v6,ag (.int (I:Int)),N,ag (.lst (rL M)),G,B];refine ZR (Zp (Mu (n:=n) rfl (by omega))) (Wf (Qp (ls:=k.map Sj) (λi s=>∃M N G B,s=stT M N G B/\Tied n M i/\Grown M o (min (i+1) n)) rfl ⟨_,v8,aA,aA,rfl,Tied.zero n,λj E O=>by omega⟩ ?_) ?_)
 ·rintro i l s hl ⟨M,N,G,B,rfl,f,S⟩;obtain⟨⟨D,p2⟩,J,rfl⟩:∃p,k[i]?=ag p/\Sj p=l:=by simpa using hl
  have U:i<k.length:=(aS.mp J).1;obtain⟨E,O,h3⟩:D<n/\p2<n/\D≠p2:=all.2 _ (cE J);have na:=F.at (x:=D) E;have nb:=F.at (x:=p2) O;have nn:=F.ne (x:=D) (y:=p2) E O h3;obtain⟨a,ea⟩:∃a:Nat,Zr o D=(a:Int):=⟨(Zr o D).toNat,by omega⟩;obtain⟨b,T⟩:∃b:Nat,Zr o p2=(b:Int):=⟨(Zr o p2).toNat,by omega⟩;have H:a<n:=by omega
  have L:b<n:=by omega
  have ia:Rz (iL o) (D:Int)=ag (.int (a:Int)):=by rw[Ys (by rw[F.len];exact E),ea]
  have Y:Rz (iL o) (p2:Int)=ag (.int (b:Int)):=by rw[Ys (by rw[F.len];exact O),T]
  obtain⟨X,gr2⟩:=f.grow H L;refine⟨_,rfl,Yc (Zp (vP (J3 (LR f.mat.len f.mat.row H L rfl (o2 rfl rfl ia) (o2 rfl rfl Y)) rfl))) (Yc (JJ f.mat H L rfl _ (o2 rfl rfl ia) (o2 rfl rfl Y) rfl) (QG (My f.mat H L rfl _ (o2 rfl rfl Y) (o2 rfl rfl ia) rfl) ⟨upM M a b,_,_,_,rfl,f.up (by omega) H L (by omega),λj E O=>?_⟩))⟩;by_cases w:j<min (i+1) n
  ·exact(S.mono X) j E w
  ·have pp:=A i (D,p2) (by rw[<-all.1 i (by omega)];exact J);refine⟨p2,by omega,?_⟩;rw[show j=D by have:=pp.1;simp at this;omega,ea,T];exact gr2
 rintro s ⟨M,t8,t10,t11,rfl,f,S⟩;rw[aL,lq] at f S;exact WW (FQ (n:=n) (by rw[f.mat.len];omega) rfl) ⟨M,n-1+I,rfl,f.mat.web (by omega) (by omega),Grown.conn (n:=n) (λj E O=>S j E (by omega)) f.mat.len F,by rw[f.mat.len];exact n5,by rw[f.mat.len];exact f.sum,by omega⟩
end PW
namespace PW
open L2 VL
variable {Z:List Int} {mo:Nat}
theorem JL{t:Nat}{W:List (List Int)}(ok:ZA W)(hs:Ni W.length W=2*(t:Int)):(Yo W).length=t:=by
 have c:=JA ok;have a:sN W.length (λi=>(Zx W i).sum)=Ni W.length W:=Zj λi b=>by rw[Pf ok b,XY]
 rw[XY,a,hs] at c;omega
theorem Zc8(l:List PV){k:Nat}(h:k<=l.length):W3 l aA (ag (k:Int))=l.take k:=by unfold W3;rw[HT.sIx_nat,HT.sIx_none,fS h,km,m7]
theorem FT(l:List PV){k:Nat}(h:k<=l.length):W3 l (ag (k:Int)) aA=l.drop k:=by unfold W3;rw[HT.sIx_nat,HT.sIx_none,fS h,cB (by rw[bh];omega)]
noncomputable def QZ{α:Type}(k:Nat)(l:List α):List α:=l.drop k++l.take k
theorem LS{a:Type}{k:Nat}{l:List a}(h:k<=l.length):(QZ k l).length=l.length:=by unfold QZ;rw[aY,bh,br];omega
theorem LU{a:Type}{k i:Nat}{l:List a}(h:k<=l.length)(b:i<l.length):(QZ k l)[i]?=l[(i+k)%l.length]?:=by
 unfold QZ;by_cases q:i<l.length-k
 ·rw[au (by rw[bh];exact q),gk,gG (by omega),Nat.add_comm]
 ·rw[bH (by rw[bh];omega),bh,mF (by omega),gG (by omega),gQ (by omega)];congr 1;omega
noncomputable def Q0(k:Nat)(M:List (List Int)):List (List Int):=(QZ k M).map (QZ k)
theorem WY{n k:Nat}{M:List (List Int)}(ok:MatOk n M)(f:k<n){i j:Nat}(e:i<n)(c:j<n):ZW (Q0 k M) i j=ZW M ((i+k)%n) ((j+k)%n):=by
 have a:(i+k)%n<n:=kM _ (by omega);have d:Zx (Q0 k M) i=QZ k (Zx M ((i+k)%n)):=by unfold Zx Q0;rw[aF,aU,LU (by rw[ok.len];omega) (by rw[ok.len];exact e),ok.len,aJ (by rw[ok.len];exact a),aF,aJ (by rw[ok.len];exact a)];rfl
 have b:=ok.row _ a;unfold ZW;rw[d];unfold Zr;rw[aF,aF,LU (by rw[b];omega) (by rw[b];exact c),b]
theorem FU{n k:Nat}{M:List (List Int)}(ok:MatOk n M)(d:k<n):MatOk n (Q0 k M):=by
 have a:∀i,(i+k)%n<n:=λi=>kM _ (by omega);refine⟨by unfold Q0;rw[aL,LS (by rw[ok.len];omega),ok.len],λi b=>?_,λi j b c=>?_,λi j b c=>?_,λi j b c=>?_,λi b=>?_⟩
 ·have:Zx (Q0 k M) i=QZ k (Zx M ((i+k)%n)):=by unfold Zx Q0;rw[aF,aU,LU (by rw[ok.len];omega) (by rw[ok.len];exact b),ok.len,aJ (by rw[ok.len];exact a i),aF,aJ (by rw[ok.len];exact a i)];rfl
  rw[this,LS (by rw[ok.row _ (a i)];omega),ok.row _ (a i)]
 ·rw[WY ok d b c];exact ok.lo _ _ (a i) (a j)
 ·rw[WY ok d b c];exact ok.hi _ _ (a i) (a j)
 ·rw[WY ok d b c,WY ok d c b];exact ok.sym _ _ (a i) (a j)
 ·rw[WY ok d b b];exact ok.dia _ (a i)
theorem JM{n k:Nat}(b:n<=5)(a:k<n)(f:Nat->Int):sN n (λi=>f ((i+k)%n))=sN n f:=by
 have:n=1\/n=2\/n=3\/n=4\/n=5:=by omega
 have:k=0\/k=1\/k=2\/k=3\/k=4:=by omega
 rcases ‹n=1\/_› with rfl | rfl | rfl | rfl | rfl<;>rcases ‹k=0\/_› with rfl | rfl | rfl | rfl | rfl<;>first
  | (exfalso;omega)
  | (simp[sN];done)
  | (simp[sN];omega)
theorem Zc9{n k:Nat}{M:List (List Int)}(ok:MatOk n M)(b:n<=5)(a:k<n):Ni n (Q0 k M)=Ni n M:=by unfold Ni;rw[Zj (g:=λi=>sN n (λj=>ZW M ((i+k)%n) ((j+k)%n))) λi d=>Zj λj c=>WY ok a d c];rw[JM b a (λx=>sN n (λj=>ZW M x ((j+k)%n)))];exact Zj λx _=>JM b a (λy=>ZW M x y)
noncomputable def upL(n:Nat):List Int:=(aD n).map λ(i:Nat)=>(i:Int)
theorem LV{n i:Nat}(h:i<n):Zr (upL n) i=(i:Int):=ZC h
noncomputable def bkL(n k:Nat):List Int:=(aD n).map λ(i:Nat)=>(((i+n-k)%n:Nat):Int)
theorem AH{n k i:Nat}(h:i<n):Zr (bkL n k) i=(((i+n-k)%n:Nat):Int):=ZC h
theorem FV{n k i:Nat}(b:k<n)(a:i<n):((i+n-k)%n+k)%n=i:=by rw[Nat.mod_add_mod,show i+n-k+k=i+n by omega,Nat.add_mod_right,gG a]
theorem AI{n k:Nat}(c:n<=5)(b:k<n):NamesOk n (bkL n k):=by
 refine⟨by simp[bkL],?_,λx a=>?_,λx a=>?_⟩
 ·have:n=1\/n=2\/n=3\/n=4\/n=5:=by omega
  have:k=0\/k=1\/k=2\/k=3\/k=4:=by omega
  rcases ‹n=1\/_› with rfl | rfl | rfl | rfl | rfl<;>rcases ‹k=0\/_› with rfl | rfl | rfl | rfl | rfl<;>first
   | (exfalso;omega)
   | decide
 ·obtain⟨i,_,rfl⟩:=bJ.mp a;omega
 ·obtain⟨i,_,rfl⟩:=bJ.mp a;have:(i+n-k)%n<n:=kM _ (by omega);omega
theorem AJ{n k:Nat}{M:List (List Int)}(ok:MatOk n M)(d:n<=5)(a:k<n)(f:Grown M (upL n) n):Sg (Q0 k M):=by refine Grown.conn (n:=n) (l:=bkL n k) (λj h b=>?_) (FU ok a).len (AI d a);obtain⟨g,c,e⟩:=f j h b;refine⟨g,c,?_⟩;rw[AH b,AH (by omega),cC,cC,WY ok a (kM _ (by omega)) (kM _ (by omega)),FV a b,FV a (by omega)];rw[LV b,LV (by omega),cC,cC] at e;exact e
theorem AK{n k:Nat}{M:List (List Int)}(ok:MatOk n M)(t:n<=5)(p:k<n){s:ZG}(j:Za 4 s=ag (.lst (rL M)))(c:Za 11 s=ag (.int (k:Int)))(o:ZP 1 [11] s=[aA,ag (.int (k:Int))]) :
  Zt 1 [11] (XB (Zk Ez (SO VZ (Za 4) (TJ (Za 11)) Rw) (SO VZ (Za 4) Rw (TJ (Za 11))))) (.one 0) ZD (Zk Mc (SO VZ (Za 0) (TJ (Za 1)) Rw) (SO VZ (Za 0) Rw (TJ (Za 1)))) s=ag (.lst (rL (Q0 k M))):=by
 have f:(rL M).length=n:=by unfold rL;rw[aL];exact ok.len
 have g:TJ (Za 11) s=ag (ag (k:Int)):=by unfold TJ;rw[c]
 have s1:SO VZ (Za 4) (TJ (Za 11)) Rw s=ag (.lst ((rL M).drop k)):=by rw[Q5,j,g];show ag (PV.lst (W3 (rL M) (ag (k:Int)) aA))=_;rw[FT _ (by omega)]
 have s2:SO VZ (Za 4) Rw (TJ (Za 11)) s=ag (.lst ((rL M).take k)):=by rw[Q5,j,g];show ag (PV.lst (W3 (rL M) aA (ag (k:Int))))=_;rw[Zc8 _ (by omega)]
 have m:XB (Zk Ez (SO VZ (Za 4) (TJ (Za 11)) Rw) (SO VZ (Za 4) Rw (TJ (Za 11)))) s=ag ((QZ k M).map λr=>.lst (iL r)):=by unfold XB;rw[Vc,s1,s2];show((if((rL M).drop k).length+((rL M).take k).length<=10000 then ag (PV.lst ((rL M).drop k++(rL M).take k)) else aA).bind _)=_;rw[oX (by rw[bh,br];omega)];unfold QZ rL;rw[bM,lY,lV];rfl
 rw[ZI (QZ k M) (λr=>.lst (iL r)) (λr=>.lst (iL (QZ k r))) m (by rw[LS (by rw[ok.len];omega),ok.len];omega) (λr l=>⟨[ag (.lst (iL r)),ag (.int (k:Int))],by rw[o];rfl,rfl,?_⟩)]
 ·unfold Q0 rL;rw[bQ];rfl
 ·have q:r.length=n:=by
   have:r∈M:=by
    rcases ah.mp l with h | h
    ·exact kg h
    ·exact iX h
   obtain⟨i,d,e⟩:=cq this;have:=ok.row i (by rw[<-ok.len];exact d);unfold Zx at this;rw[aF,aJ d] at this;rw[<-e];exact this
  refine o2 (a:=.lst (iL (r.drop k))) (b:=.lst (iL (r.take k))) ?_ ?_ ?_
  ·show ag (PV.lst (W3 (iL r) (ag (k:Int)) aA))=_;rw[HG]
  ·show ag (PV.lst (W3 (iL r) aA (ag (k:Int))))=_;rw[Ac]
  ·show(if(iL (r.drop k)).length+(iL (r.take k)).length<=10000/\ZE (iL (r.drop k))=aC/\ZE (iL (r.take k))=aC then ag (PV.lst (iL (r.drop k)++iL (r.take k))) else aA)=_;rw[oX ⟨by rw[aL,aL,bh,br];omega,Z5 _,Z5 _⟩,<-bM];rfl
abbrev Zhk:PV:=.lst (iL [1,2,3,4,5])
theorem Zl2:SzOk [1,2,3,4,5] 8:=⟨by decide,by decide,by decide,by decide⟩
theorem AL{p:List Int}(B:p.length<=63)(z:SzOk Z mo):∃W,Zbu [.cst (iL p),.lst (iL Z),.int (mo:Int)]=ag (wP W)/\ZA W/\Sg W/\W.length<=5/\(Yo W).length<=mo:=by
 have m8:=z.m8
 suffices h:Yz Fi (ZK 12 [.cst (iL p),.lst (iL Z),.int (mo:Int)]) λv=>∃W,v=wP W/\ZA W/\Sg W/\W.length<=5/\(Yo W).length<=mo by obtain⟨v,e,W,rfl,r⟩:=QD h;exact⟨W,e,r⟩
 have at0:=Wr B 0;have U:=λ{s:ZG} (h:Za 0 s=ag (.cst (iL p)))=>xb (Dr (vmd (c2 (g:=eC (.int 0)) h rfl at0) (show eC (.int 2) s=ag (.int 2) from rfl) (by decide)) (show eC (.int 1) s=ag (.int 1) from rfl));by_cases q:Zr p 0%2=1
 ·obtain⟨W,t,e,ok,cn,l5,sm,C⟩:=JK z (Zr p 1);exact Zev ((U rfl).trans (by rw[decide_eq_true q])) (WW (c3 (c2 rfl rfl (Wr B 1)) rfl rfl e) ⟨W,rfl,ok,cn,l5,by rw[JL ok sm];exact C⟩)
 obtain⟨v,hv,ev⟩:=YE (Zr p 0) (t:=1) (m:=Z.length) (by omega) z.ne;obtain⟨n,n1,E,nm,en⟩:=z.at hv;let st:List (List Int)->Nat->Option PV->Option PV->Option PV->Option PV->Option PV->ZG:=λM t G D I H o=>[ag (.cst (iL p)),ag (.lst (iL Z)),ag (.int (mo:Int)),ag (.int (n:Int)),ag (.lst (rL M)),ag (.int (t:Int)),G,D,I,H,o,aA];refine ZR (FD ((U rfl).trans (by rw[decide_eq_false q]))) (ZR (Zp (vP (o2 rfl (c3 (c2 rfl rfl at0) rfl (c1 rfl AG) ev) en))) (ZR (Zp (Mu (n:=n) rfl (by omega))) (ZR (Zp (vP rfl)) (Wf (Aq (m:=1) (n:=13) (λi s=>∃M t G D I H o,s=st M t G D I H o/\Tied n M t/\t<=mo/\(i<=n->t+1=i)/\Grown M (upL n) (min i n)) rfl rfl ⟨_,0,aA,aA,aA,aA,aA,rfl,Tied.zero n,by omega,λ_=>rfl,λj A O=>by omega⟩ ?_) ?_))))
 ·rintro i s A hi ⟨M,t,G,D,I,H,o,rfl,f,C,tl,F⟩;let c:=Zr p i;obtain⟨a,l,N⟩:=YE c (t:=13) (m:=n) (by omega) (by omega);obtain⟨b,hb,eb⟩:=YE c (t:=17) (m:=max 1 (n-1)) (by omega) (by omega);obtain⟨d,hd,S⟩:=X6 ((a:Int)+1+(b:Int)) (m:=n) (by omega);obtain⟨r,hr,er⟩:=YE c (t:=3) (m:=3) (by omega) (by omega);obtain⟨u,X,eu⟩:=YE c (t:=5) (m:=i) (by omega) (by omega)
  refine Yc (Zp (c2 rfl rfl (Wr B i))) (Yc (Zp (c3 rfl rfl rfl N)) (Yc (Zp (vP (vmn S (by omega) (J3 (J3 rfl rfl) (c3 rfl rfl (c2 (b:=.int ((n:Int)-1)) rfl (J4 rfl rfl) (R:=ag (.int ((max 1 (n-1):Nat):Int))) (by
   show ag (PV.int (if(n:Int)-1>1 then(n:Int)-1 else 1))=_;congr 2;split<;>omega)) eb)) rfl))) (JF (R:=λs=>∃a d:Nat,s=st M t (ag (.int (i:Int))) (ag (.int c)) (ag (.int (a:Int))) (ag (.int (d:Int))) o/\a<n/\d<n/\(1<n->a≠d)/\(i<n->a=i/\d<i)) (FE (xb (vlt rfl rfl)) (λw=>Yc (Zp (vP rfl)) (QG (Zp (c3 rfl rfl rfl eu)) ⟨i,u,rfl,of_decide_eq_true w,mW X (of_decide_eq_true w),λ_=>by omega,λ_=>⟨rfl,X⟩⟩)) λw=>QG rfl ⟨a,d,rfl,l,hd,λT=>FR l (by omega) S,λw2=>absurd w2 (of_decide_eq_false w)⟩) ?_)))
  rintro s ⟨a,d,rfl,l,hd,ne,ia⟩;refine Yc (Zp (ep (ea (vgt (b:=1) rfl rfl) (ea (vlt rfl rfl) (vgt (b:=0) (c3 rfl rfl rfl er) rfl))))) (FE (xo (xb (vlt rfl rfl)) (xb rfl)) (λw=>?_) λw=>QG rfl ⟨M,t,_,_,_,_,_,rfl,f,C,λh=>?_,λj A O=>?_⟩)
  ·have w:i<n\/1<n/\t<mo/\0<r:=by simpa using w
   have T:1<n:=by omega
   have Q:=WB (t:=ZW M a d+1) (b:=d) f.mat.len f.mat.row l;obtain⟨L,P⟩:=f.grow l hd;refine Yc (JJ f.mat l hd rfl _ rfl rfl (J3 (LR f.mat.len f.mat.row l hd rfl rfl rfl) rfl)) (Yc (My f.mat l hd rfl (ZW M a d+1) rfl rfl ((LR Q.1 Q.2 l hd rfl rfl rfl).trans (by rw[PN f.mat.len f.mat.row l hd,oX ⟨rfl,rfl⟩]))) (QG (Zp (vP (vsc rfl))) ⟨upM M a d,t+1,_,_,_,_,_,rfl,f.up (by omega) l hd (ne T),by omega,λh=>by omega,λj A O=>?_⟩));by_cases y:j<min i n
   ·exact(F.mono L) j A y
   ·obtain⟨rfl,hd'⟩:=ia (by omega);have hj:j=a:=by omega
    refine⟨d,by omega,?_⟩;rw[hj,LV l,LV hd,cC,cC];exact P
  ·have:¬i<n:=λy=>by rw[decide_eq_true y] at w;cases w
   omega
  ·have:¬i<n:=λy=>by rw[decide_eq_true y] at w;cases w
   exact F j A (by omega)
 rintro s ⟨M,t,y6,y7,y8,y9,Y,rfl,f,C,_,F⟩;obtain⟨k,J,ek⟩:=YE (Zr p 0) (t:=7) (m:=n) (by omega) (by omega);have x:=FU f.mat J;have ok:ZA (Q0 k M):=x.web (by omega) (by omega);exact ZR (Zp (c3 (c2 rfl rfl at0) rfl rfl ek)) (ZR (Zp (AK f.mat E J rfl rfl rfl)) (WW (FQ (n:=n) (by rw[x.len];omega) rfl) ⟨_,rfl,ok,AJ f.mat E J λj A O=>F j A (by omega),by rw[x.len];exact E,by rw[JL (t:=t) ok (by rw[x.len,Zc9 f.mat E J];exact f.sum)];exact C⟩))
end PW
namespace PW
open L2 VL VX PK
noncomputable def eW(W:List (List Int)):List ZL:=JE W.length (ZW W)
noncomputable def eAB(W:List (List Int))(a b:Nat):List ZL:=aQ (ZW W a b).toNat (a,b)
noncomputable def eA(W:List (List Int))(a:Nat):List ZL:=(aD (W.length-(a+1))).flatMap λj=>eAB W a (a+1+j)
theorem LW(W:List (List Int)):eW W=(aD W.length).flatMap (eA W):=by unfold eW JE prs;rw[List.flatMap_assoc];congr 1;funext a;rw[List.flatMap_map];rfl
theorem We(W:List (List Int)):(eW W).length=(Yo W).length:=by rw[LW];unfold Yo;rw[gM,gM];congr 1;refine ar λa _=>?_;unfold eA Uj;rw[gM,gM];congr 1;refine ar λj _=>?_;unfold eAB Xv;simp
theorem Zl3{W:List (List Int)}(ok:ZA W):Wt W.length (ZW W):=⟨λa b c d=>ok.lo a b c d,λa b c d=>ok.sym a b c d,λa c=>ok.dia a c⟩
theorem Ze1{W:List (List Int)}:∀e∈eW W,e.1<e.2/\e.2<W.length/\0<ZW W e.1 e.2:=λe b=>by unfold eW JE at b;obtain⟨p,d,c⟩:=iN.mp b;have a:=List.mem_replicate.mp c;obtain⟨f,rfl⟩:=a;have:=mem_prs.mp (show(e.1,e.2)∈prs W.length from d);exact⟨by omega,by omega,by omega⟩
theorem To{W:List (List Int)}(ok:ZA W){G:List Nat}(e:G.Nodup)(d:∀g∈G,g<W.length):tw (ZW W) G=2*Um G (eW W):=by
 let u:Nat->Nat->Int:=λi j=>b1 (decide (i∈G))*(b1 (decide (j∈G))*ZW W i j);have k:tw (ZW W) G=sN W.length (λi=>sN W.length (u i)):=by unfold tw;rw[Tn _ e d];refine Zj λi l=>?_;unfold HJ;rw[Tn _ e d,<-ZM]
 have h:Um G (eW W)=sN W.length λa=>sN W.length λb=>if a<b then u a b else 0:=by
  unfold Um eW;rw[Dn (Zl3 ok)];refine Zj λa _=>Zj λb _=>?_;split
  ·show ZW W a b*b1 (decide (a∈G)&&decide (b∈G))=b1 (decide (a∈G))*(b1 (decide (b∈G))*ZW W a b);by_cases x:a∈G<;>by_cases y:b∈G<;>simp[x,y,b1]
  ·rfl
 rw[k,h];refine Zcw (λa b c f=>?_) λa c=>?_
 ·show b1 (decide (a∈G))*(b1 (decide (b∈G))*ZW W a b)=b1 (decide (b∈G))*(b1 (decide (a∈G))*ZW W b a);rw[ok.sym a b c f,<-c9,<-c9,cP (b1 _) (b1 _)]
 ·show b1 (decide (a∈G))*(b1 (decide (a∈G))*ZW W a a)=0;rw[ok.dia a c];simp
theorem Zdb{W:List (List Int)}:Um (aD W.length) (eW W)=((eW W).length:Int):=by
 have:∀T:List ZL,(∀e∈T,e.1<W.length/\e.2<W.length)->Um (aD W.length) T=(T.length:Int):=by
  intro T
  induction T with
  | nil=>intro _;rfl
  | cons e T ih=>
   intro a;have q:Ak (aD W.length) e=aC:=by have:=a e (by simp);unfold Ak;simp[this.1,this.2]
   have:=ih λx b=>a x (by simp[b]);unfold Um at this ⊢;rw[ak,bp,this,q,bK];show(1:Int)+_=_;omega
 exact this _ λe c=>by have:=Ze1 e c;exact⟨by omega,by omega⟩
theorem Zdc{W:List (List Int)}(ok:ZA W){a b:Nat}(d:a<W.length)(c:b<W.length):(eAB W a b).length<=9:=by have:=ok.hi a b d c;unfold eAB;simp;omega
theorem Zhl{W:List (List Int)}(ok:ZA W){a b:Nat}(c:a<W.length)(d:b<W.length){s:ZG}(f:Za 0 s=ag (wP W))(e:Za 2 s=ag (.int (a:Int)))(h:Za 3 s=ag (.int (b:Int)))(g:ZP 1 [2,3] s=[aA,ag (.int (a:Int)),ag (.int (b:Int))]):Zt 1 [2,3] (Z8 [Zk ZJ (Zk ZJ (Za 0) (Za 2)) (Za 3)]) (.one 0) ZD (eP (Wk [Za 1,Za 2])) s=ag (.lst ((eAB W a b).map Sj)):=by have b1:=ok.lo a b c d;have j:=ok.hi a b c d;rw[ZI (aD (ZW W a b).toNat) (λ(i:Nat)=>.int (i:Int)) (λ_=>Sj (a,b)) (Yl ((Zj7 c (by rw[ok.sq a c];exact d) f e h).trans (by rw[gK b1])) (by omega)) (by simp;omega) (λi k=>⟨_,by rw[g];rfl,rfl,rfl⟩)];unfold eAB;rw[mE];congr 2;exact iO (by simp) (by intros;simp)
theorem Mz{W:List (List Int)}(ok:ZA W):Ra [wP W]=ag (.lst ((eW W).map Sj))/\(eW W).length<=441:=by
 have f:=ok.few;refine⟨QE (ZR (s1:=[ag (wP W),ag (.lst []),aA,aA]) rfl (Wf (O6 (n:=W.length) (λi st=>∃y z,st=[ag (wP W),ag (.lst (((aD i).flatMap (eA W)).map Sj)),y,z]/\((aD i).flatMap (eA W)).length<=63*i) (c1 rfl Uk) ⟨aA,aA,by simp,by simp⟩ ?_) ?_)),by rw[We];exact(Y4 ok).2⟩
 ·rintro i s c ⟨y,z,rfl,d⟩;let A:Nat->List ZL:=λj=>(aD (j-(i+1))).flatMap λj=>eAB W i (i+1+j);refine Zc1 (Aq (m:=i+1) (n:=W.length) (λj st=>∃z,st=[ag (wP W),ag (.lst (((aD i).flatMap (eA W)++A j).map Sj)),ag (.int (i:Int)),z]/\(A j).length<=9*(j-(i+1))) (vsc rfl) (c1 rfl Uk) ⟨z,by simp[A],by simp[A]⟩ ?_) ?_
  ·rintro j s h a ⟨z,rfl,b⟩;have e:A (j+1)=A j++eAB W i j:=by show(aD (j+1-(i+1))).flatMap _=_;rw[show j+1-(i+1)=j-(i+1)+1 by omega,Xb,show i+1+(j-(i+1))=j by omega]
   have g:=Zdc ok c a;refine QG (Zc3 Sj (Zhl ok c a rfl rfl rfl rfl) rfl (by rw[aY];omega)) ⟨_,by rw[e,<-fX];rfl,?_⟩;rw[e,aY];omega
  ·rintro s ⟨z,rfl,b⟩;refine⟨_,z,by rw[Xb];rfl,?_⟩;rw[Xb,aY];have:(eA W i).length<=9*(W.length-(i+1)):=b;omega
 ·rintro s ⟨y,z,rfl,_⟩;rw[<-LW];exact⟨_,rfl,rfl⟩
theorem JN{W:List (List Int)}(ok:ZA W):Vd [wP W]=ag (.int (((eW W).length:Int)-(W.length:Int)+1)):=by rw[We];exact B4 ok
noncomputable def JO(n:Nat)(m:Nat->Nat):List Int:=(aD n).map λx=>((m x:Nat):Int)
theorem Zdd(n:Nat)(m:Nat->Nat):(JO n m).length=n:=by simp[JO]
theorem Zde{n:Nat}{m:Nat->Nat}{x:Nat}(h:x<n):Zr (JO n m) x=(m x:Int):=ZC h
theorem HV{F:List Nat}(h:F.length<64):Q9 [.lst (iL (nL F))]=ag (.lst (iL (Xa (nL F)))):=by show(Yj (iL (nL F))).bind (λa=>if a.length<64 then ag (PV.lst (iL (Xa a))) else aA)=_;rw[Yd];rw[aV,oX (by simpa [nL] using h)]
theorem JP(b:Bool)(a:Int)(l:List Int):Nw b (.int a) (pP l)=ag (.bl (if b then !decide (a∈l) else decide (a∈l))):=by
 unfold Nw;have c:((iL l).all λz=>X2 8 z (.int a))=aC:=by rw[kF,bN];intro x _;rfl
 show(ag (iL l)).bind _=_;simp only[aV,oX c]
 have:decide (PV.int a∈iL l)=decide (a∈l):=decide_eq_decide.mpr (by
  rw[bJ];constructor
  ·rintro⟨x,d,e⟩;cases e;exact d
  ·intro h;exact⟨a,h,rfl⟩)
 rw[this]
noncomputable def Sk(W:List (List Int))(F:List Nat):List ZL:=(Al (eW W) F).map (Zy (eW W))
theorem AM{W:List (List Int)}{F:List Nat}:(Sk W F).length<=(eW W).length:=by unfold Sk Al;rw[aL];exact bO (k7 _ _) (by simp)
theorem FX{W:List (List Int)}{i:Nat}(a:i<(eW W).length):ZJ (.lst ((eW W).map Sj)) (.int (i:Int))=ag (Sj (Zy (eW W) i)):=by refine KY (l:=(eW W).map Sj) (k:=i) ?_;unfold Zy;rw[aU,aF,aJ a];rfl
theorem Ze2{W:List (List Int)}:ZZ [.lst ((eW W).map Sj)]=ag (.int ((eW W).length:Int)):=by show ag (PV.int (((eW W).map Sj).length:Int))=_;rw[aL]
theorem LX{W:List (List Int)}(ok:ZA W){F:List Nat}{T:List Int}(b:∀k:Nat,(k:Int)∈T↔k∈F):Vf [wP W,pP T]=ag (.lst ((Sk W F).map Sj)):=by
 obtain⟨a,le⟩:=Mz ok;refine YZ (sq (Zp (c1 rfl a)) (ret ((Xp (aD (eW W).length) (λ(i:Nat)=>.int (i:Int)) (λi=>Sj (Zy (eW W) i)) (λk=>decide (k∉F)) (Yl (c1 rfl Ze2) (by omega)) (by simp;omega) λi c=>⟨_,rfl,(xb (o2 rfl rfl (JP aC i T))).trans ?_,λ_=>ep (o2 rfl rfl (FX (aW.mp c)))⟩).trans ?_)))
 ·simp[b i]
 ·unfold Sk Al;rw[bQ];rfl
noncomputable def Y5(n:Nat)(X:List Nat):List Int:=(aD n).map λh=>((X.count h:Nat):Int)
theorem WZ(n:Nat)(X:List Nat):(Y5 n X).length=n:=by simp[Y5]
theorem Tp{n:Nat}{X:List Nat}{h:Nat}(a:h<n):Zr (Y5 n X) h=((X.count h:Nat):Int):=ZC a
theorem HW{W:List (List Int)}(ok:ZA W){X:List Nat}(j:∀x∈X,x<W.length):Ta [wP W,pP (nL X)]=ag (pP (Y5 W.length X)):=by
 have k:=ok.few;let st:Nat->Option PV->ZG:=λi c=>[ag (wP W),ag (pP (nL X)),ag (.lst (iL (Y5 W.length (X.take i)))),c];refine QE (ZR (s1:=st 0 aA) (Zp (v:=.lst (iL (Y5 W.length []))) (o2 (a:=.lst [.int 0]) rfl (c1 rfl Uk) ?_)) (Wf (Ar (λi s=>∃c,s=st i c) rfl ⟨aA,rfl⟩ ?_) ?_))
 ·have z:Y5 W.length []=aQ W.length 0:=iO (by simp[Y5]) (by intros;simp[Y5]);rw[z];show(if ZE [PV.int 0]=aC/\(-1000000:Int)<=(W.length:Int)/\(W.length:Int)<=1000000/\[PV.int 0].length*((W.length:Int)).toNat<=10000 then ag (PV.lst (aQ ((W.length:Int)).toNat [PV.int 0]).flatten) else aA)=_;rw[oX ⟨rfl,by omega,by omega,by simp;omega⟩,cC,Ky];simp
 ·rintro i s f ⟨c,rfl⟩;have d:X[i]<W.length:=j _ (bT f)
  have e:(Y5 W.length (X.take i)).set X[i] ((((X.take i).count X[i]:Nat):Int)+1)=Y5 W.length (X.take (i+1)):=by
   refine Ua (by simp[Y5]) λh g=>?_;have b:h<W.length:=by simpa [Y5] using g
   rw[PW.nth_set (by rw[WZ];exact b),Tp b,Tp b,dM f,List.count_append];by_cases q:h=X[i]
   ·subst q;simp
   ·rw[oY q];have:X[i]≠h:=λz=>q z.symm;simp[List.count_singleton,this]
  have:=Zex (WZ W.length (X.take i)) X[i] d;rw[Tp d] at this;exact QG (As rfl (J3 (o2 rfl rfl this) rfl) rfl (by rw[WZ];exact d)) ⟨_,by rw[e];rfl⟩
 ·rintro s ⟨c,rfl⟩;exact WW (J2 (c1 rfl rfl)) (by rw[jq])
theorem HX{W:List (List Int)}{D S:List Int}{X Y:PV}(ok:ZA W)(hd:D.length=W.length)(u:∀k:Nat,k<W.length->ZJ X (.int (k:Int))=ag (.int (Zr D k)))(t:∀k:Nat,k<W.length->ZJ Y (.int (k:Int))=ag (.int (Zr S k))) :
  S8 [wP W,X,Y]=ag (pP (WU W D S)):=by
 have y:=ok.few;have x:(WU W D S).length=W.length:=by rw[Xw,hd]
 let st:Nat->Option PV->Option PV->Option PV->Option PV->ZG:=λi f m d b=>[ag (wP W),ag X,ag Y,ag (.lst (iL ((WU W D S).take i))),f,m,d,b];let part:Nat->Nat->Int:=λh j=>Zr D h-sN j (λg=>ZW W h g*(Zr S h-Zr S g));refine QE (ZR (s1:=st 0 aA aA aA aA) rfl (Wf (O6 (n:=W.length) (λi s=>∃f m d b,s=st i f m d b) (c1 rfl Uk) ⟨aA,aA,aA,aA,rfl⟩ ?_) ?_))
 ·rintro h s c ⟨f,m,d,b,rfl⟩
  have v:part h W.length=Zr (WU W D S) h:=by
   rw[Qu (by omega)];show Zr D h-sN W.length _=_
   have:sN W.length (λg=>ZW W h g*(Zr S h-Zr S g))=(-1)*gN W (Zr S) h:=by
    unfold gN;rw[<-ZM];exact Zj λg _=>by rw[j4,j4];omega
   rw[this];omega
  refine Yc (Zp (vP (a:=part h 0) ((o2 rfl rfl (u h c)).trans (by rw[show part h 0=Zr D h from Int.sub_zero _])))) (JF (O6 (n:=W.length) (λj s=>∃p q,s=st h (ag (.int (h:Int))) (ag (.int (part h j))) p q) (c1 rfl Uk) ⟨d,b,rfl⟩ ?_) ?_)
  ·rintro j s o ⟨p,q,rfl⟩;have lo:=ok.lo h j c o;have w:=ok.hi h j c o;have e:part h j-ZW W h j*(Zr S h-Zr S j)=part h (j+1):=by show Zr D h-sN j (λg=>ZW W h g*(Zr S h-Zr S g))-ZW W h j*(Zr S h-Zr S j)=Zr D h-(sN j (λg=>ZW W h g*(Zr S h-Zr S g))+ZW W h j*(Zr S h-Zr S j));omega
   exact Yc (Zp (vP (J4 (o2 rfl rfl (t h c)) (o2 rfl rfl (t j o))))) (QG (Zp (vP (a:=part h (j+1)) ((J4 rfl (vC (C:=CMul) (op:=(· * ·)) (Zj7 c (by rw[ok.sq h c];exact o) rfl rfl rfl) rfl (.inl (by omega)))).trans (by rw[<-e])))) ⟨_,_,rfl⟩)
  ·rintro s ⟨p,q,rfl⟩;exact QG (Zhc (l:=WU W D S) (k:=h) (by rw[<-v];exact vP rfl) rfl (by omega) (by omega)) ⟨_,_,_,_,rfl⟩
 ·rintro s ⟨f,m,d,b,rfl⟩;exact WW (J2 (c1 rfl (by rw[cB (by omega)];rfl))) rfl
end PW
namespace PK
open PW
theorem AN{f g:Nat->Int}:∀{n:Nat},(∀i,i<n->f i<=g i)->sN n f<=sN n g
 | 0,_=>dq _
 | n+1,h=>by have a:=AN λi c=>h i (eZ c);have b:=h n (fF n);show sN n f+f n<=sN n g+g n;omega
noncomputable def s2(n:Nat)(f:Nat->Nat->Int):Int:=sN n λi=>sN n (f i)
theorem Zka{n:Nat}{f g:Nat->Nat->Int}(h:∀i,i<n->∀j,j<n->f i j<=g i j):s2 n f<=s2 n g:=AN λi b=>AN λj a=>h i b j a
theorem Sl(n:Nat)(f g:Nat->Nat->Int):s2 n (λi j=>f i j+g i j)=s2 n f+s2 n g:=by unfold s2;rw[<-Z1];exact Zj λi _=>Z1 _ _ _
theorem UR{n:Nat}{f g:Nat->Nat->Int}(h:∀i,i<n->∀j,j<n->f i j=g i j):s2 n f=s2 n g:=Zj λi b=>Zj λj a=>h i b j a
theorem HY(n:Nat)(f:Nat->Nat->Int):2*s2 n f=s2 n λi j=>f i j+f j i:=by rw[Sl];have:s2 n (λi j=>f j i)=s2 n f:=(Ub f n n).symm;omega
noncomputable def lw(n:Nat)(D:Nat->Int)(g:Nat->Bool):Int:=sN n λi=>b1 (g i)*(D i+1)
noncomputable def qw(n:Nat)(w:Nat->Nat->Int)(g:Nat->Bool):Int:=s2 n λi j=>b1 (g i)*b1 (g j)*w i j
noncomputable def uw(n:Nat)(w:Nat->Nat->Int)(D:Nat->Int)(g:Nat->Bool):Int:=2*lw n D g-qw n w g
noncomputable def gw(n:Nat)(w:Nat->Nat->Int)(R:Nat->Int)(v:Nat):Int:=sN n λu=>w v u*(R u-R v)
theorem Zkb{w x:Int}(h:0<=w)(a:1<=x):w<=w*x:=by have:=Int.mul_le_mul_of_nonneg_left a h;omega
theorem AO{n:Nat}{w:Nat->Nat->Int}{N P R:Nat->Int}(p:∀a b,a<n->b<n->0<=w a b)(l:∀a b,a<n->b<n->w a b=w b a)(h:∀i,i<n->0<=R i)(q:∀i,i<n->N i=P i+gw n w R i)(g:Nat->Bool) :
  uw n w N (λi=>g i&&!decide (R i=0))+uw n w P (λi=>g i&&decide (R i=0))<=uw n w N g:=by
 have v:lw n N g=lw n N (λi=>g i&&!decide (R i=0))+lw n N (λi=>g i&&decide (R i=0)):=by
  unfold lw;rw[<-Z1];refine Zj λi _=>?_;by_cases z:R i=0<;>cases e:g i<;>simp[b1,z,e]
 have y:lw n N (λi=>g i&&decide (R i=0))=lw n P (λi=>g i&&decide (R i=0))+s2 n (λi u=>b1 (g i&&decide (R i=0))*(w i u*(R u-R i))):=by
  unfold lw s2;rw[<-Z1];refine Zj λi c=>?_;rw[ZM,q i c];unfold gw;by_cases z:R i=0<;>cases e:g i<;>simp[b1,z,e]
  omega
 have A:=HY n (λi u=>b1 (g i&&decide (R i=0))*(w i u*(R u-R i)))
 have B:qw n w g<=(qw n w (λi=>g i&&!decide (R i=0))+qw n w (λi=>g i&&decide (R i=0)))+s2 n λi j=>b1 (g i&&decide (R i=0))*(w i j*(R j-R i))+b1 (g j&&decide (R j=0))*(w j i*(R i-R j)):=by
  unfold qw;rw[<-Sl,<-Sl];refine Zka λi c j f=>?_;rw[l j i f c];have d:=p i j c f;have m:=h i c;have o:=h j f;have t:=iI d o;have x:=iI d m;by_cases k:R i=0<;>by_cases s:R j=0<;>cases ei:g i<;>cases ej:g j<;>simp[b1,k,s,ei,ej]<;>try omega
  ·exact Zkb d (by omega)
  ·exact Zkb d (by omega)
 unfold uw;omega
theorem Dz{n:Nat}{w:Nat->Nat->Int}{N P R:Nat->Int}(k:∀a b,a<n->b<n->0<=w a b)(f:∀a b,a<n->b<n->w a b=w b a)(d:∀i,i<n->0<=R i)(l:∀i,i<n->N i=P i+gw n w R i)
  {z:Nat} (p:z<n) (j:R z=0) (m:∀g:Nat->Bool,(∃i,i<n/\g i=aC)->2<=uw n w N g) (o:∀g:Nat->Bool,(∃i,i<n/\g i=aC)->2<=uw n w P g) (q:uw n w N (λ_=>aC)=2):∀i,i<n->R i=0:=λi e=>by
 refine cN λc=>?_;have h:=AO k f d l λ_=>aC;have a:=m (λi=>aC&&!decide (R i=0)) ⟨i,e,by simp[c]⟩;have b:=o (λi=>aC&&decide (R i=0)) ⟨z,p,by simp[j]⟩;omega
theorem LY{n:Nat}{w:Nat->Nat->Int}{N P R:Nat->Int}(u:∀a b,a<n->b<n->0<=w a b)(s:∀a b,a<n->b<n->w a b=w b a)(m:∀i,i<n->0<=R i)(v:∀i,i<n->N i=P i+gw n w R i)
  (x:∀g:Nat->Bool,(∃i,i<n/\g i=aC)->2<=uw n w P g) {g:Nat->Bool} (z:uw n w N g<2) (t:∀f:Nat->Bool,(∃i,i<n/\f i=aC)->(∀i,i<n->f i=aC->g i=aC)->uw n w N f<2->∀i,i<n->g i=aC->f i=aC):∀i,i<n->g i=aC->1<=R i:=λi l o=>by
 have y:=m i l;refine cN λc=>?_;have p:R i=0:=by omega
 have h:=AO u s m v g;have b:=x (λi=>g i&&decide (R i=0)) ⟨i,l,by simp[p,o]⟩;by_cases e:∃k,k<n/\(g k&&!decide (R k=0))=aC
 ·have:=t (λi=>g i&&!decide (R i=0)) e (λk _ q=>(kj.mp q).1) (by omega) i l o;simp[p] at this
 ·have:uw n w N (λi=>g i&&!decide (R i=0))=0:=by have f:=λk d=>Bool.eq_false_iff.mpr λq=>e ⟨k,d,q⟩;unfold uw lw qw s2;rw[YY λk d=>by simp only[f k d];simp[b1],YY λk d=>YY λj _=>by simp only[f k d];simp[b1]];rfl
  omega
theorem US:∀{n:Nat}{p:List Nat->Bool}{G:List Nat},(ZS n).find? p=ag G->∀H∈ZS n,(∀x∈H,x∈G)->p H=aC->H=G
 | 0,p,G,h,H,hH,_,hp=>by have e:H=[]:=aN.mp hH;subst e;have:(List.find? p [[]])=ag G:=h;rw[dP,hp] at this;exact bG this
 | n+1,p,G,h,H,hH,sub,hp=>by
  have h':(ZS n++(ZS n).map (·++[n])).find? p=ag G:=h;rw[List.find?_append] at h';have lt:∀{K:List Nat},K∈ZS n->∀x∈K,x<n:=λi=>(Ti i).2.1;rcases ah.mp (show H∈ZS n++(ZS n).map (·++[n]) from hH) with a | a
  ·cases q:(ZS n).find? p with
   | none=>exact absurd hp (by simpa using fQ.mp q H a)
   | some K=>
    rw[q] at h';cases h';exact US q H a sub hp
  ·obtain⟨d,c,rfl⟩:=bJ.mp a;have g:n∈G:=sub n (by simp)
   cases q:(ZS n).find? p with
   | some K=>
    rw[q] at h';cases h';exact absurd (lt (eI q) n g) (bu n)
   | none=>
    rw[q,Option.none_or,List.find?_map] at h';obtain⟨k,j,f⟩:=gz.mp h';subst f
    rw[US j d c (λx b=>by
     rcases ah.mp (sub x (by simp[b])) with z | z
     ·exact z
     ·have:=lt c x b;rw[aN.mp z] at this;exact absurd this (bu n)) hp]
theorem HZ{n:Nat}{w:Nat->Nat->Int}{D:Nat->Int}{G:List Nat}(d:G.Nodup)(c:∀g∈G,g<n)(e:tw w G%2=0):2*Kf w D G+2=uw n w D λi=>decide (i∈G):=by
 have a:(G.map D).sum+(G.length:Int)=lw n D λi=>decide (i∈G):=by
  unfold lw;rw[<-Tn (λi=>D i+1) d c,UQ];congr 1
  have:∀G:List Nat,(G.length:Int)=(G.map λ_=>(1:Int)).sum:=λG=>by
   induction G with
   | nil=>rfl
   | cons a G ih=>simp only[bK,ak,bp];omega
  exact this G
 have b:tw w G=qw n w λi=>decide (i∈G):=by unfold tw qw s2;rw[Tn _ d c];refine Zj λi _=>?_;unfold HJ;rw[Tn _ d c,<-ZM];exact Zj λj _=>(c9 _ _ _).symm
 unfold Kf uw;omega
end PK
namespace PW
open L2 VL VX PK
noncomputable def NI(W:List (List Int))(D:List Int)(G:List Nat):PV:=.tup [pP (nL G),.int (Kf (ZW W) (Zr D) G)]
theorem JQ(W:List (List Int))(D:List Int)(l:List (List Nat)):ZE (l.map (NI W D))=aC:=RN λG _=>by unfold NI;simp
theorem LZ{W:List (List Int)}{h:Nat}{F:List Nat}(ok:ZA W)(a:h<W.length)(c:∀x∈F,x<W.length)(d:F.length<=100):Uz [wP W,.int (h:Int),pP (nL F)]=ag (.int (HJ (ZW W) h F)):=
 YZ (ret (vP (c1 ((ZI F (λ(o:Nat)=>.int (o:Int)) (λo=>.int (ZW W h o)) (by
  rw[S2 (l:=iL (nL F)) rfl];simp[nL]) (by omega) λo b=>⟨_,rfl,rfl,o2 (o2 rfl rfl (SW a)) rfl (Ys (by rw[ok.sq h a];exact c o b))⟩).trans (by rw[<-Mx])) (M7 _))))
noncomputable def LG(W:List (List Int))(D:List Int):List (List Nat):=((ZS W.length).drop 1).filter λG=>decide (Kf (ZW W) (Zr D) G<0)
noncomputable def QI(W:List (List Int))(D:List Int):PV:=match LG W D with
 | []=>.non
 | G::_=>pP (nL G)
theorem VB{W:List (List Int)}(ok:ZA W){D:List Int}(hd:D.length=W.length):YB [wP W,pP D]=ag (QI W D):=by
 have u:=ok.few;have p:∀i,i<=7->(ZS i).length<=128:=λi c=>by rw[O4];have:2^i<=2^7:=Nat.pow_le_pow_right (by decide) c;omega
 let st:Nat->Option PV->Option PV->ZG:=λi f h=>[ag (wP W),ag (pP D),ag (.lst ((ZS i).map (NI W D))),f,h,aA];refine QE (ZR (s1:=st 0 aA aA) ?_ (Wf (Qp (ls:=Y7 (iL D)) (λi s=>∃f h,s=st i f h) rfl ⟨aA,aA,rfl⟩ ?_) ?_))
 ·have:(ZS 0).map (NI W D)=[.tup [.tup [],.int (-1)]]:=by show [NI W D []]=_;unfold NI Kf tw;simp[nL]
  show _=ag (Out.nx [_,_,ag (PV.lst ((ZS 0).map (NI W D))),aA,aA,aA]);rw[this];rfl
 ·rintro i l s m ⟨f,h,rfl⟩;have c:i<W.length:=by have:=(aS.mp m).1;rw[Ws,aL,hd] at this;exact this
  rw[YO,aL,hd,aU,bz c,dQ,Xq D i (by rw[hd];exact c)] at m;cases m;have w:=p i (by omega);refine⟨_,rfl,QG (Zp (o2 rfl (ZI (ZS i) (NI W D) (λG=>NI W D (G++[i])) rfl (by omega) λG o=>⟨_,rfl,rfl,?_⟩) ?_)) ⟨_,_,rfl⟩⟩
  ·obtain⟨_,lt,y,_⟩:=Ti o;have d:∀g∈G,g<W.length:=λg t=>mW (lt g t) c;refine(Zj6 (o2 (b:=pP [(i:Int)]) rfl rfl (LM (by simp[nL];omega))) (J4 (J3 (J3 rfl rfl) rfl) (c3 rfl rfl rfl (LZ ok c d (by omega))))).trans ?_;unfold NI;rw[An (ZW W) (n:=W.length) (λa b j x=>ok.sym a b j x) (λa j=>ok.dia a j) (Zr D) d c];simp[nL]
  ·have e:(ZS i).map (λG=>NI W D (G++[i]))=((ZS i).map (·++[i])).map (NI W D):=by rw[bQ];rfl
   rw[e];show(if((ZS i).map (NI W D)).length+(((ZS i).map (·++[i])).map (NI W D)).length<=10000/\ZE ((ZS i).map (NI W D))=aC/\ZE (((ZS i).map (·++[i])).map (NI W D))=aC then ag (PV.lst ((ZS i).map (NI W D)++((ZS i).map (·++[i])).map (NI W D))) else aA)=ag (PV.lst ((ZS (i+1)).map (NI W D)));rw[oX ⟨by simp;omega,JQ W D _,JQ W D _⟩,ZS,bM]
 ·rintro s ⟨f,h,rfl⟩;rw[Ws,aL,hd];have w:=p W.length u;refine ZR (Zp (v:=.lst ((LG W D).map λG=>pP (nL G))) (Xp ((ZS W.length).drop 1) (NI W D) (λG=>pP (nL G)) (λG=>decide (Kf (ZW W) (Zr D) G<0)) ?_ (by rw[bh];omega) λG o=>⟨_,rfl,rfl,λ_=>J2 rfl⟩)) ?_
  ·show ag (W3 ((ZS W.length).map (NI W D)) (ag ((1:Nat):Int)) aA)=_
   rw[FT _ (by
    rw[aL,O4];exact Nat.one_le_two_pow),lY]
  ·refine⟨QI W D,ret ?_,rfl⟩;unfold QI
   cases q:LG W D with
   | nil=>exact ep (O8 rfl rfl)
   | cons G r=>exact J2 (O7 (xb ((vgt (a:=r.length+1) (b:=0) (by show ag (PV.int (((G::r).map λG=>pP (nL G)).length:Int))=_;simp) rfl).trans (by rw[decide_eq_true (by omega)]))) (o2 rfl rfl (KY (l:=(G::r).map λG=>pP (nL G)) (k:=0) rfl)))
theorem Zdf{n:Nat}{G:List Nat}(h:G∈(ZS n).drop 1):G∈ZS n/\G≠[]:=by
 obtain⟨r,e,a⟩:=Tj n;rw[e] at h ⊢;have h':G∈r:=by simpa using h
 exact⟨aR _ h',a G h'⟩
theorem DA{n:Nat}{G:List Nat}(h:G∈ZS n)(ne:G≠[]):G∈(ZS n).drop 1:=by
 obtain⟨r,e,a⟩:=Tj n;rw[e] at h ⊢;rcases aX.mp h with z | z
 ·exact absurd z ne
 ·simpa using z
theorem FY{G:List Nat}(h:G.Pairwise (· < ·)):G.Nodup:=h.imp λz=>by omega
theorem AQ{W:List (List Int)}(ok:ZA W){D:List Int}(hd:D.length=W.length)(c:D.sum=((eW W).length:Int)-(W.length:Int)+1):Kf (ZW W) (Zr D) (aD W.length)=0:=by
 unfold Kf;have d:((aD W.length).map (Zr D)).sum=D.sum:=by rw[XY,Ng D,hd]
 have a:=To ok (G:=aD W.length) dt λg b=>aW.mp b;rw[Zdb] at a;rw[d,a,bt,c];omega
noncomputable def uW(W:List (List Int))(D:List Int)(g:Nat->Bool):Int:=uw W.length (ZW W) (Zr D) g
noncomputable def UT(W:List (List Int))(D:List Int):Prop:=∀g:Nat->Bool,(∃i,i<W.length/\g i=aC)->2<=uW W D g
theorem AR{n:Nat}{w:Nat->Nat->Int}{D:Nat->Int}{f g:Nat->Bool}(h:∀i,i<n->f i=g i):uw n w D f=uw n w D g:=by unfold uw lw qw s2;rw[Zj λi a=>by rw[h i a],Zj λi a=>Zj λj b=>by rw[h i a,h j b]]
section
variable {W:List (List Int)} {D:List Int} (ok:ZA W)
include ok
theorem AS{G:List Nat}(c:G∈ZS W.length):2*Kf (ZW W) (Zr D) G+2=uW W D λi=>decide (i∈G):=by obtain⟨a,lt,_,_⟩:=Ti c;have b:=FY a;refine HZ b lt ?_;rw[To ok b lt];omega
theorem L5(g:Nat->Bool):uW W D g=2*Kf (ZW W) (Zr D) ((aD W.length).filter g)+2:=by
 rw[AS ok (Vk g _)];exact AR λi a=>by cases e:g i<;>simp[e,a]
theorem AU(hd:D.length=W.length)(a:D.sum=((eW W).length:Int)-(W.length:Int)+1):uW W D (λ_=>aC)=2:=by have:=AQ ok hd a;rw[L5 ok,ij.mpr λ_ _=>rfl,this];rfl
theorem Nj:(QI W D = .non/\UT W D)\/∃G,QI W D=pP (nL G)/\G≠[]/\(∀x∈G,x<W.length)/\G.Nodup/\uW W D (λi=>decide (i∈G))<2/\
  ∀f:Nat->Bool,(∃i,i<W.length/\f i=aC)->(∀i,i<W.length->f i=aC->decide (i∈G)=aC)->uW W D f<2->∀i,i<W.length->decide (i∈G)=aC->f i=aC:=by
 have ne:∀{f:Nat->Bool},(∃i,i<W.length/\f i=aC)->(aD W.length).filter f≠[]:=λ⟨i,j,t⟩=>jQ (cQ.mpr ⟨aW.mpr j,t⟩);unfold QI
 cases e:LG W D with
 | nil=>
  refine .inl ⟨rfl,λg c=>?_⟩;have:=List.filter_eq_nil_iff.mp e _ (DA (Vk g _) (ne c));rw[L5 ok g];simp only[decide_eq_true_eq] at this;omega
 | cons G r=>
  have o:G∈LG W D:=by rw[e];simp
  obtain⟨n,s⟩:=cQ.mp o;obtain⟨k,h⟩:=Zdf n;obtain⟨b,lt,_,_⟩:=Ti k;have y:uW W D (λi=>decide (i∈G))<2:=by rw[<-AS ok k];have:=of_decide_eq_true s;omega
  refine .inr ⟨G,rfl,h,lt,FY b,y,λf z sub u i j c=>?_⟩
  have d:(ZS W.length).find? (λG=>decide (G≠[])&&decide (Kf (ZW W) (Zr D) G<0))=ag G:=by
   obtain⟨q,l,p⟩:=Tj W.length;have:(LG W D).head?=ag G:=by rw[e];rfl
   unfold LG at this;rw[List.head?_filter,l] at this;rw[l,dP];have a:(decide (([]:List Nat)≠[])&&decide (Kf (ZW W) (Zr D) []<0))=aB:=by simp
   rw[a];rw[<-this];show q.find? _=q.find? _;refine Nh λK w=>?_;simp[p K w]
  have v:=US d _ (Vk f W.length) (λx m=>of_decide_eq_true (sub x (aW.mp (cQ.mp m).1) (cQ.mp m).2)) (by
   rw[L5 ok f] at u;rw[decide_eq_true (ne z),decide_eq_true (show Kf (ZW W) (Zr D) ((aD W.length).filter f)<0 by omega)];rfl)
  have:i∈(aD W.length).filter f:=by rw[v];exact of_decide_eq_true c
  exact(cQ.mp this).2
end
end PW
namespace PW
open PySem L2 VL VX
theorem FZ{F:XS}{x:XT}{s:ZG}{k:Nat}(J:Nat->ZG->Prop)(g:J k s)(st:∀k s,J k s->x s=ag aB\/(x s=ag aC/\Wq F s λs2=>∃k',k'<k/\J k' s2)):Wq (WE x F) s λd=>∃k,J k d/\x d=ag aB:=by
 obtain⟨d,k',a,b,c⟩:=Zhh (c:=x) (fb:=F) J (λk s h=>by
  rcases st k s h with z | ⟨z,s2,e,k',i,f⟩
  ·exact .inl z
  ·exact .inr ⟨z,s2,k',e,i,f⟩) g
 exact⟨d,a,k',b,c⟩
end PW
namespace PW
open L2 VL VX PK
theorem JR{W:List (List Int)}{L:List Nat}(a:W.length<=7):Ve [wP W,pP (nL L)]=ag (pP (LQ W.length L)):=by
 refine YZ (ret (J2 (c1 (Vy (λh=>if h∈L then -1 else 0) (Yl (c1 rfl Uk) (by omega)) (by omega) λi b=>⟨_,rfl,rfl,?_⟩) (Oe _))));have t:Nw aB (.int (i:Int)) (pP (nL L))=ag (.bl (decide (i∈L))):=by rw[JP];simp only[O5];rfl
 by_cases q:i∈L
 ·rw[oX q];exact O7 (xb ((o2 rfl rfl t).trans (by rw[decide_eq_true q]))) rfl
 ·rw[oY q];exact O8 (xb ((o2 rfl rfl t).trans (by rw[decide_eq_false q]))) rfl
theorem Zhm(f:Nat->Int){n:Nat}(c:0<n):∃z,z<n/\∀i,i<n->f z<=f i:=by have s:=U7 (l:=(aD n).map f) (by simp;omega);obtain⟨z,a,e⟩:=bJ.mp s.1;exact⟨z,aW.mp a,λi b=>by rw[e];exact s.2 _ (bJ.mpr ⟨i,aW.mpr b,rfl⟩)⟩
theorem Zhn{W:List (List Int)}(Y:Nat->Int)(c:Int){h:Nat}(a:h<W.length):gN W (λx=>Y x-c) h=gN W Y h:=by show gN W (λx=>Y x + -c) h=_;rw[Nc,Nf (T:=λ_=>-c) (c:=-c) (λ_ _=>rfl) a];omega
abbrev stQ(W:List (List Int))(D S N:List Int)(x5:Option PV):ZG:=[ag (wP W),ag (pP D),ag (pP S),ag (pP N),ag (QI W N),x5,aA]
structure Way(W:List (List Int))(P:List Int)(L:Nat->Int)(c:Int)(S N:List Int):Prop where
 ls:S.length=W.length
 ln:N.length=W.length
 sm:N.sum=P.sum
 lo:∀i,i<W.length->0<=L i+Zr S i-c
 z:∃i,i<W.length/\L i+Zr S i-c=0
 at':∀i,i<W.length->Zr N i=Zr P i+gN W (λi=>L i+Zr S i-c) i
section
variable {W:List (List Int)} {P:List Int} {L:Nat->Int} {c:Int} {D S N:List Int}
theorem Way.step(ok:ZA W)(t:UT W P)(w:Way W P L c S N){G:List Nat}(ne:G≠[])(lt:∀x∈G,x<W.length)(m:∀i,i<W.length->i∈G->1<=L i+Zr S i-c) :
  Way W P L c (O1 S (LQ W.length G)) (WU W N (LQ W.length G))/\sN W.length (λi=>L i+Zr (O1 S (LQ W.length G)) i-c)<sN W.length (λi=>L i+Zr S i-c):=by
 have e:∀i,i<W.length->Zr (O1 S (LQ W.length G)) i=Zr S i+if i∈G then -1 else 0:=λi d=>by rw[Jy (by rw[w.ls];exact d),FN d]
 obtain⟨z,h,s⟩:=w.z;refine⟨⟨by rw[UO,w.ls],by rw[Xw,w.ln],by rw[Pg ok w.ln,w.sm],λi d=>?_,⟨z,h,?_⟩,λi d=>?_⟩,?_⟩
 ·have a:=w.lo i d;have b:=m i d;rw[e i d];split
  ·rename_i q;have:=b q;omega
  ·omega
 ·rw[e z h];have b:=m z h;split
  ·rename_i q;have:=b q;omega
  ·omega
 ·rw[Qu (by rw[w.ln];exact d),w.at' i d,Int.add_assoc,<-Nc];congr 1;exact Nd d λk j=>by rw[e k j,FN j];omega
 ·obtain⟨g,l⟩:=gH G ne
  have p:sN W.length (λi=>L i+Zr (O1 S (LQ W.length G)) i-c)+sN W.length (λi=>if i∈G then 1 else 0)=sN W.length (λi=>L i+Zr S i-c):=by
   rw[<-Z1]
   exact Zj λi d=>by
    rw[e i d];split<;>omega
  have o:=Qv (f:=λi=>if i∈G then 1 else 0) (n:=W.length) (λi _=>by split<;>decide) (lt g l);rw[oX l] at o;omega
theorem AV{F:XS}{f:Option PV}{Z:PV->Prop}(ok:ZA W)(s:UT W P)(u:P.length=W.length)(hs:P.sum=((eW W).length:Int)-(W.length:Int)+1)(w:Way W P L c S N)(h:∀m x5',QI W P = .non->m.length=W.length->(∀i,i<W.length->L i+Zr m i=c)->Yz F (stQ W D m P x5') Z) :
  Yz (Zm (WE (xB (KD aC (Za 4))) (Zm (Zu 5 (Zc Ve [Za 0,Za 4])) (Zm (Zu 2 (Zc RQ [Za 2,Za 5])) (Zm (Zu 3 (Zc Mh [Za 0,Za 3,Za 5])) (Zu 4 (Zc YB [Za 0,Za 3])))))) F) (stQ W D S N f) Z:=by
 have J:=ok.few;refine Wf (FZ (λk st=>∃S N f,Way W P L c S N/\st=stQ W D S N f/\k=(sN W.length (λi=>L i+Zr S i-c)).toNat) ⟨S,N,f,w,rfl,rfl⟩ ?_) ?_
 ·rintro k st ⟨S,N,f,w,rfl,rfl⟩;rcases Nj (D:=N) ok with⟨e,_⟩ | ⟨G,e,ne,lt,_,I,C⟩
  ·rw[show stQ W D S N f=[ag (wP W),ag (pP D),ag (pP S),ag (pP N),ag .non,f,aA] by unfold stQ;rw[e]];exact .inl rfl
  ·have H:∀i,i<W.length->i∈G->1<=L i+Zr S i-c:=λi g v=>LY (P:=Zr P) (λa b j l=>ok.lo a b j l) (λa b j l=>ok.sym a b j l) w.lo w.at' s I C i g (decide_eq_true v);obtain⟨q,O⟩:=w.step ok s ne lt H;have Q:=Vz (n:=W.length) q.lo;have t:(LQ W.length G).length=W.length:=by simp[LQ]
   rw[show stQ W D S N f=[ag (wP W),ag (pP D),ag (pP S),ag (pP N),ag (pP (nL G)),f,aA] by unfold stQ;rw[e]];exact .inr ⟨rfl,Yc (Zp (c2 rfl rfl (JR J))) (Yc (Zp (c2 rfl rfl (Fw (by rw[t,w.ls]) (by rw[w.ls];omega)))) (Yc (Zp (c3 rfl rfl rfl (B3 ok w.ln t))) (QG (Zp (c2 rfl rfl (VB ok q.ln))) ⟨_,by omega,_,_,_,q,rfl,rfl⟩)))⟩
 rintro st ⟨k,⟨m,o,y,d,rfl,_⟩,p⟩;rcases Nj (D:=o) ok with⟨B,E⟩ | ⟨G,e,_⟩
 case inr=>
  unfold stQ at p;rw[e] at p;cases p
 obtain⟨z,M,x⟩:=d.z;have all:=Dz (N:=Zr o) (P:=Zr P) (w:=ZW W) (λa b j l=>ok.lo a b j l) (λa b j l=>ok.sym a b j l) d.lo d.at' M x E s (AU ok d.ln (by rw[d.sm,hs]));have A:o=P:=Ua (by rw[d.ln,u]) λi g=>by rw[d.ln] at g;rw[d.at' i g,Nf (T:=λi=>L i+Zr m i-c) (c:=0) all g];omega
 subst A;exact h m y B d.ls λi g=>by have:=all i g;omega
end
end PW
namespace PK
open PW
noncomputable def hd(h:List Nat)(k:Nat):Nat:=h.getD k 0
noncomputable def Ud(e:ZL)(x:Nat):Nat:=if x=e.1 then e.2 else e.1
noncomputable def UU(E:List ZL)(h:List Nat)(k:Nat):List Nat:=h.set k (Ud (Zy E k) (hd h k))
noncomputable def W0(E:List ZL)(h ks:List Nat):List Nat:=ks.foldl (UU E) h
structure HOk(E:List ZL)(h:List Nat):Prop where
 len:h.length=E.length
 at':∀k,k<E.length->hd h k=(Zy E k).1\/hd h k=(Zy E k).2
theorem AW{h:List Nat}{k j y:Nat}(a:k<h.length):hd (h.set k y) j=if k=j then y else hd h j:=by
 unfold hd;rw[aF,bS];split<;>rfl
theorem Zdg{h:List Nat}{k y v:Nat}(b:k<h.length):((h.set k y).count v:Int)=h.count v-b1 (decide (hd h k=v))+b1 (decide (y=v)):=by
 have e:hd h k=h[k]:=by unfold hd;rw[aF,aJ b];rfl
 have le:h[k]=v->1<=h.count v:=λq=>List.count_pos_iff.mpr (by rw[<-q];exact bT b);rw[List.count_set b,e];by_cases a:h[k]=v
 ·have:=le a;by_cases c:y=v<;>simp[a,c,b1]<;>omega
 ·by_cases c:y=v<;>simp[a,c,b1]
theorem HOk.turn{E:List ZL}{h:List Nat}(o:HOk E h){k:Nat}:HOk E (UU E h k):=by
 refine⟨by unfold UU;rw[cR,o.len],λj a=>?_⟩;by_cases q:k<h.length
 ·unfold UU;rw[AW q];split
  ·rename_i e;subst e;unfold Ud;split
   ·exact .inr rfl
   ·exact .inl rfl
  ·exact o.at' j a
 ·unfold UU;rw[gV (by omega)];exact o.at' j a
structure Pth(E:List ZL)(h F:List Nat)(a:Nat)(ks:List Nat)(x:Nat):Prop where
 lt:∀k∈ks,k<E.length
 inn:∀k∈ks,hd h k∈F/\hd h k≠x
 keep:∀k,k∉ks->hd (W0 E h ks) k=hd h k
 ok:HOk E (W0 E h ks)
 cn:∀v,((W0 E h ks).count v:Int)=h.count v-b1 (decide (a=v))+b1 (decide (x=v))
theorem Pth.start{E:List ZL}{h F:List Nat}{a:Nat}(o:HOk E h):Pth E h F a [] a:=
 ⟨λ_ z=>(cM z).elim,λ_ z=>(cM z).elim,λ_ _=>rfl,o,λv=>by show(h.count v:Int)=_;omega⟩
theorem Pth.more{E:List ZL}{h F G:List Nat}{a x:Nat}{c:List Nat}(p:Pth E h F a c x)(s:∀z∈F,z∈G):Pth E h G a c x:=⟨p.lt,λk b=>⟨s _ (p.inn k b).1,(p.inn k b).2⟩,p.keep,p.ok,p.cn⟩
theorem Pth.snoc{E:List ZL}{h F:List Nat}{a x k:Nat}{c:List Nat}(o:HOk E h)(p:Pth E h F a c x)(n:x∈F)(f:k<E.length)(d:hd h k=x)(i:Ud (Zy E k) x∉F):Pth E h F a (c++[k]) (Ud (Zy E k) x):=by
 have q:=λz=>(p.inn k z).2 d;have e:W0 E h (c++[k])=UU E (W0 E h c) k:=by unfold W0;rw[List.foldl_append];rfl
 have g:k<(W0 E h c).length:=by rw[p.ok.len];exact f
 have m:hd (W0 E h c) k=x:=by rw[p.keep k q,d]
 refine⟨λj b=>?_,λj b=>?_,λj b=>?_,by rw[e];exact p.ok.turn,λv=>?_⟩
 ·rcases ah.mp b with z | z
  ·exact p.lt j z
  ·rw[aN.mp z];exact f
 ·have:hd h j∈F:=by
   rcases ah.mp b with z | z
   ·exact(p.inn j z).1
   ·rw[aN.mp z,d];exact n
  exact⟨this,λz=>i (by rw[<-z];exact this)⟩
 ·have s:=λz=>b (bA _ z);have l:¬k=j:=λz=>b (by rw[z];simp);rw[e];unfold UU;rw[AW g,oY l];exact p.keep j s
 ·rw[e];unfold UU;rw[Zdg g,p.cn v,m];omega
structure BSr(E:List ZL)(h:List Nat)(q:Nat->Int)(n a:Nat)(F:List Nat)(p:Nat->List Nat)(j:Nat):Prop where
 nd:F.Nodup
 lt:∀x∈F,x<n
 fl:a∈F
 jl:j<=F.length
 pt:∀x∈F,Pth E h F a (p x) x
 sh:∀x∈F,(p x).length<F.length
 cl:∀x∈F.take j,∀k,k<E.length->hd h k=x->Ud (Zy E k) x∈F
 ge:∀x∈F.take j,q x<=(h.count x:Int)
theorem L6{f g:Nat->Int}:∀{l:List Nat},(∀x∈l,f x<=g x)->(l.map f).sum<=(l.map g).sum
 | [],_=>dq _
 | x::l,h=>by have a:=h x (by simp);have b:=L6 (l:=l) λy c=>h y (by simp[c]);simp only[ak,bp];omega
theorem H9{f g:Nat->Int}{a:Nat}:∀{l:List Nat},(∀x∈l,f x<=g x)->a∈l->f a<g a->(l.map f).sum<(l.map g).sum
 | x::l,h,ha,lt=>by
  have d:=h x (by simp);simp only[ak,bp];rcases aX.mp ha with rfl | z
  ·have b:=L6 (l:=l) λy c=>h y (by simp[c]);omega
  ·have b:=H9 (l:=l) (λy c=>h y (by simp[c])) z lt;omega
theorem hd_list{h:List Nat}:(aD h.length).map (hd h)=h:=Rt h 0
theorem BSr.goes{E:List ZL}{h:List Nat}{q:Nat->Int}{n a:Nat}{F:List Nat}{p:Nat->List Nat}{j:Nat}(i:BSr E h q n a F p j)(o:HOk E h)(NH:q a<(h.count a:Int))(t:∀G:List Nat,G.Nodup->(∀g∈G,g<n)->G≠[]->Um G E<=(G.map q).sum):j<F.length:=by
 refine cN λc=>?_;have s:F.take j=F:=cB (by omega);have cl:=i.cl;have d:=i.ge;rw[s] at cl d;have u:=t F i.nd i.lt (jQ i.fl);have l:=H9 d i.fl NH;rw[Ru i.nd h] at l
 have v:(h.map λx=>b1 (decide (x∈F))).sum<=Um F E:=by
  have m:h.map (λx=>b1 (decide (x∈F)))=(aD E.length).map λk=>b1 (decide (hd h k∈F)):=by
   conv=>lhs;rw[<-hd_list (h:=h),o.len]
   rw[bQ];rfl
  have f:E.map (λe=>b1 (Ak F e))=(aD E.length).map λk=>b1 (Ak F (Zy E k)):=by
   conv=>lhs;rw[<-Rt E (0,0)]
   rw[bQ];rfl
  unfold Um;rw[m,f];refine L6 λk b=>?_;have b:=aW.mp b;by_cases z:hd h k∈F
  ·have y:=cl _ z k b rfl
   have:Ak F (Zy E k)=aC:=by
    unfold Ak;unfold Ud at y;rcases o.at' k b with w | w
    ·rw[w] at y z;rw[oX rfl] at y;rw[decide_eq_true z,decide_eq_true y];rfl
    ·rw[w] at y z;split at y
     ·rename_i e;rw[e] at z;rw[decide_eq_true z,decide_eq_true y];rfl
     ·rw[decide_eq_true z,decide_eq_true y];rfl
   rw[this];exact Aj _
  ·rw[decide_eq_false z];exact Ai _
 omega
structure BIn(E:List ZL)(h:List Nat)(q:Nat->Int)(n a:Nat)(F:List Nat)(p:Nat->List Nat)(j x i:Nat):Prop where
 b:BSr E h q n a F p j
 hx:F[j]?=ag x
 dn:∀k,k<i->hd h k=x->Ud (Zy E k) x∈F
theorem BIn.pass{E:List ZL}{h:List Nat}{q:Nat->Int}{n a:Nat}{F:List Nat}{p:Nat->List Nat}{j x i:Nat}(s:BIn E h q n a F p j x i)(c:hd h i=x->Ud (Zy E i) x∈F):BIn E h q n a F p j x (i+1):=
 ⟨s.b,s.hx,λk b e=>by
  rcases jk.mp b with z | rfl
  ·exact s.dn k z e
  ·exact c e⟩
noncomputable def Ga(p:Nat->List Nat)(y:Nat)(ks:List Nat):Nat->List Nat:=λz=>if z=y then ks else p z
theorem BIn.add{E:List ZL}{h:List Nat}{q:Nat->Int}{n a:Nat}{F:List Nat}{p:Nat->List Nat}{j x i:Nat}(s:BIn E h q n a F p j x i)(o:HOk E h)(A:∀e∈E,e.1<n/\e.2<n)(f:i<E.length)(c:hd h i=x)(m:Ud (Zy E i) x∉F) :
  BIn E h q n a (F++[Ud (Zy E i) x]) (Ga p (Ud (Zy E i) x) (p x++[i])) j x (i+1):=by
 have b:=s.b;have sub:∀z∈F,z∈F++[Ud (Zy E i) x]:=λz d=>bA _ d;have y:(F++[Ud (Zy E i) x]).take j=F.take j:=List.take_append_of_le_length b.jl;have l:=cE s.hx;have t:Zy E i∈E:=by unfold Zy;rw[aF,aJ f];exact bT f
 refine⟨⟨?_,λz d=>?_,sub _ b.fl,by rw[aY];exact bO b.jl (fG _ _),λz d=>?_,λz d=>?_,λz d k g e=>?_,λz d=>?_⟩,?_,λk g e=>?_⟩
 ·exact dJ.mpr ⟨b.nd,by simp,λu C w B z=>m (by rw[<-aN.mp B,<-z];exact C)⟩
 ·rcases ah.mp d with w | w
  ·exact b.lt z w
  ·rw[aN.mp w];unfold Ud;split
   ·exact(A _ t).2
   ·exact(A _ t).1
 ·unfold Ga;by_cases w:z=Ud (Zy E i) x
  ·rw[oX w,w];exact((b.pt x l).snoc o l f c m).more sub
  ·rw[oY w];rcases ah.mp d with v | v
   ·exact(b.pt z v).more sub
   ·exact absurd (aN.mp v) w
 ·unfold Ga;rw[aY];by_cases w:z=Ud (Zy E i) x
  ·rw[oX w,aY];exact Nat.add_lt_add_right (b.sh x l) 1
  ·rw[oY w];rcases ah.mp d with v | v
   ·exact eZ (b.sh z v)
   ·exact absurd (aN.mp v) w
 ·rw[y] at d;exact sub _ (b.cl z d k g e)
 ·rw[y] at d;exact b.ge z d
 ·rw[au (aS.mp s.hx).1];exact s.hx
 ·rcases jk.mp g with z | rfl
  ·exact sub _ (s.dn k z e)
  ·simp
theorem BIn.done{E:List ZL}{h:List Nat}{q:Nat->Int}{n a:Nat}{F:List Nat}{p:Nat->List Nat}{j x:Nat}(s:BIn E h q n a F p j x E.length)(i:q x<=(h.count x:Int)):BSr E h q n a F p (j+1):=by
 have b:=s.b;have g:=(aS.mp s.hx).1;have e:F.take (j+1)=F.take j++[x]:=by rw[List.take_succ,s.hx];rfl
 refine⟨b.nd,b.lt,b.fl,g,b.pt,b.sh,λz c k f d=>?_,λz c=>?_⟩
 ·rw[e] at c;rcases ah.mp c with w | w
  ·exact b.cl z w k f d
  ·rw[aN.mp w] at d ⊢;exact s.dn k f d
 ·rw[e] at c;rcases ah.mp c with w | w
  ·exact b.ge z w
  ·rw[aN.mp w];exact i
noncomputable def DB(x:Int):Int:=if 0<x then x else 0
noncomputable def AX(n:Nat)(q:Nat->Int)(h:List Nat):Int:=sN n λv=>DB ((h.count v:Int)-q v)
theorem Zho(n:Nat)(q:Nat->Int)(h:List Nat):0<=AX n q h:=Af λv _=>by unfold DB;split<;>omega
theorem AY{n:Nat}{q:Nat->Int}{h h':List Nat}{a x:Nat}(d:a<n)(NH:q a<(h.count a:Int))(free:(h.count x:Int)<q x)(b:∀v,(h'.count v:Int)=h.count v-b1 (decide (a=v))+b1 (decide (x=v))):AX n q h'<AX n q h:=by
 have ne:x≠a:=λz=>by rw[z] at free;omega
 have c:=Ae (f:=λv=>DB ((h'.count v:Int)-q v)) (g:=λv=>DB ((h.count v:Int)-q v)) d λv _ j=>by
  have i:b1 (decide (a=v))=0:=by rw[decide_eq_false λz=>j z.symm];rfl
  rw[b v,i];by_cases z:x=v
  ·subst z;have k:b1 (decide (x=x))=1:=by rw[decide_eq_true rfl];rfl
   unfold DB;rw[oY (by omega),oY (by omega)]
  ·rw[decide_eq_false z];have:b1 aB=0:=rfl;rw[this,Int.sub_zero,jB]
 unfold AX;rw[c];have e:=b a;rw[decide_eq_true rfl,decide_eq_false ne] at e;have e:(h'.count a:Int)=h.count a-1+0:=e;unfold DB;split<;>omega
end PK
namespace PW
open PK
structure WS where
 L:List Nat
 F:List Nat
 B:List (Nat×Nat×Nat)
noncomputable def UW(E:List ZL)(L F:List Nat):Option Nat:=(aD E.length).find? λk=>!decide (k∈L)&&(decide ((Zy E k).1∈F) != decide ((Zy E k).2∈F))
noncomputable def Up(E:List ZL)(F:List Nat)(k:Nat):Nat:=if(Zy E k).1∈F then(Zy E k).2 else(Zy E k).1
noncomputable def atE(E:List ZL)(h j:Nat):Bool:=decide (h=(Zy E j).1) || decide (h=(Zy E j).2)
noncomputable def MA(E:List ZL)(L:List Nat)(h:Nat):Nat:=(L.filter (atE E h)).length
noncomputable def VC(E:List ZL)(φ:Nat->Nat->Nat->Bool)(s:WS)(k:Nat):WS:=
 if φ k (Up E s.F k) (MA E (s.L++[k]) (Up E s.F k))=aC then⟨s.L++[k],s.F++[Up E s.F k],s.B++[(k,Up E s.F k,MA E (s.L++[k]) (Up E s.F k))]⟩ else⟨s.L++[k],s.F,s.B⟩
noncomputable def Xc(E:List ZL)(φ:Nat->Nat->Nat->Bool):Nat->WS->WS
 | 0,s=>s
 | n+1,s=>match UW E s.L s.F with
  | some k=>Xc E φ n (VC E φ s k)
  | none=>s
noncomputable def Kg(b:Nat):WS:=⟨[],[b],[]⟩
theorem Tq{E:List ZL}{L F:List Nat}{k:Nat}(h:UW E L F=ag k):k<E.length/\k∉L/\(decide ((Zy E k).1∈F) != decide ((Zy E k).2∈F))=aC:=by have a:=kX h;have b:=eI h;simp only[bC,mZ,decide_eq_false_iff_not] at a;exact⟨aW.mp b,a⟩
theorem DC{E:List ZL}{L F:List Nat}(h:UW E L F=aA){k:Nat}(c:k<E.length)(d:k∉L):(Zy E k).1∈F↔(Zy E k).2∈F:=by
 have:=fQ.mp h k (aW.mpr c);simp only[d] at this;by_cases a:(Zy E k).1∈F
 ·by_cases b:(Zy E k).2∈F
  ·exact⟨λ_=>b,λ_=>a⟩
  ·simp[a,b] at this
 ·by_cases b:(Zy E k).2∈F
  ·simp[a,b] at this
  ·exact⟨λz=>absurd z a,λz=>absurd z b⟩
theorem Gb{E:List ZL}{L F:List Nat}{k:Nat}(h:UW E L F=ag k):Up E F k∉F/\atE E (Up E F k) k=aC/\∃o∈F,(Zy E k=(o,Up E F k)\/Zy E k=(Up E F k,o)):=by
 obtain⟨_,_,c⟩:=Tq h;unfold Up atE;by_cases a:(Zy E k).1∈F
 ·by_cases b:(Zy E k).2∈F
  ·simp[a,b] at c
  ·rw[oX a];exact⟨b,by simp,_,a,.inl rfl⟩
 ·by_cases b:(Zy E k).2∈F
  ·rw[oY a];exact⟨a,by simp,_,b,.inr rfl⟩
  ·simp[a,b] at c
structure WInv(E:List ZL)(n b:Nat)(s:WS):Prop where
 ndL:s.L.Nodup
 ltL:∀k∈s.L,k<E.length
 ndF:s.F.Nodup
 ltF:∀h∈s.F,h<n
 hB:s.F=b::s.B.map (·.2.1)
 bl:∀x∈s.B,x.1∈s.L
 ndB:(s.B.map (·.1)).Nodup
 cn:∀q:Nat->Nat,(∀x∈s.B,q (Zy E x.1).1=q (Zy E x.1).2)->∀h∈s.F,q h=q b
theorem WInv.start{E:List ZL}{n b:Nat}(e:b<n):WInv E n b (Kg b):=
 ⟨cF,λk c=>by simp[Kg] at c,by simp[Kg],λh a=>by simp[Kg] at a;omega,rfl,λx d=>by simp[Kg] at d,by simp[Kg],λq _ h a=>by simp[Kg] at a;rw[a]⟩
theorem Pn{b:Type}{l:List b}{a:b}(h:l.Nodup)(n:a∉l):(l++[a]).Nodup:=by grind
theorem WInv.step{E:List ZL}{n b k:Nat}{s:WS}{φ:Nat->Nat->Nat->Bool}(C:∀e∈E,e.1<n/\e.2<n)(i:WInv E n b s)(l:UW E s.L s.F=ag k):WInv E n b (VC E φ s k):=by
 obtain⟨k1,k2,_⟩:=Tq l;obtain⟨A,D,o,B,m⟩:=Gb l;have c:=Pn i.ndL k2
 have d:∀j∈s.L++[k],j<E.length:=λj w=>by
  rcases ah.mp w with z | z
  ·exact i.ltL j z
  ·rw[aN.mp z];exact k1
 have u:Zy E k∈E:=by unfold Zy;rw[aF,aJ k1];exact bT k1
 have lt:Up E s.F k<n:=by
  have:=C _ u;rcases m with z | z<;>rw[z] at this
  ·exact this.2
  ·exact this.1
 unfold VC;split
 ·refine⟨c,d,Pn i.ndF A,λh g=>?_,?_,λx a=>?_,?_,λq t h g=>?_⟩
  ·rcases ah.mp g with z | z
   ·exact i.ltF h z
   ·rw[aN.mp z];exact lt
  ·show s.F++[_]=b::(s.B++[_]).map _;rw[bM,<-mv,<-i.hB];rfl
  ·rcases ah.mp a with z | z
   ·exact bA _ (i.bl x z)
   ·rw[aN.mp z];exact aq _ (by simp)
  ·show((s.B++[_]).map _).Nodup;rw[bM];refine Pn i.ndB λz=>?_;obtain⟨x,a,v⟩:=bJ.mp z;have:=i.bl x a;rw[v] at this;exact k2 this
  ·have f:=i.cn q λx a=>t x (bA _ a);rcases ah.mp g with z | z
   ·exact f h z
   ·rw[aN.mp z];have:=t (k,Up E s.F k,MA E (s.L++[k]) (Up E s.F k)) (aq _ (by simp));have p:=f o B;rcases m with y | y
    ·rw[y] at this;exact this.symm.trans p
    ·rw[y] at this;exact this.trans p
 ·exact⟨c,d,i.ndF,i.ltF,i.hB,λx a=>bA _ (i.bl x a),i.ndB,i.cn⟩
theorem WInv.walk{E:List ZL}{n b:Nat}{φ:Nat->Nat->Nat->Bool}(a:∀e∈E,e.1<n/\e.2<n):∀{m:Nat}{s:WS},WInv E n b s->WInv E n b (Xc E φ m s)
 | 0,s,i=>i
 | m+1,s,i=>by
  unfold Xc;split
  ·rename_i k c;exact WInv.walk a (i.step a c)
  ·exact i
theorem QJ{n:Nat}:∀{l:List Nat},l.Nodup->(∀x∈l,x<n)->l.length<=n:=by
 induction n with
 | zero=>
  intro l _ h
  cases l with
  | nil=>simp
  | cons a r=>exact absurd (h a (by simp)) (by omega)
 | succ n ih=>
  intro l d h
  have i:=ih (l:=l.filter (· != n)) (d.filter _) λx b=>by
   have:=cQ.mp b;have g:=h x this.1;have j:x≠n:=by simpa using this.2
   omega
  have g:l.length<=(l.filter (· != n)).length+1:=by
   clear h i ih
   induction l with
   | nil=>simp
   | cons a r ih2=>
    have c:=aw.mp d;rw[List.filter_cons];by_cases e:a=n
    ·subst e;have:r.filter (· != a)=r:=ij.mpr λx b=>by have:x≠a:=λz=>c.1 (z▸b);simpa using this
     simp[this]
    ·have f:(a != n)=aC:=by simpa using e
     rw[f];simp only[if_true,bK];have:=ih2 c.2;omega
  omega
theorem Nk{E:List ZL}{n b:Nat}{φ:Nat->Nat->Nat->Bool}(a:∀e∈E,e.1<n/\e.2<n):∀{m:Nat}{s:WS},WInv E n b s->E.length<=m+s.L.length->UW E (Xc E φ m s).L (Xc E φ m s).F=aA
 | 0,s,i,h=>by
  unfold Xc
  cases z:UW E s.L s.F with
  | none=>rfl
  | some k=>
   obtain⟨k1,k2,_⟩:=Tq z
   have:=QJ (n:=E.length) (Pn i.ndL k2) λx c=>by
    rcases ah.mp c with y | y
    ·exact i.ltL x y
    ·rw[aN.mp y];exact k1
   rw[aY,dS] at this;omega
 | m+1,s,i,h=>by
  unfold Xc
  cases z:UW E s.L s.F with
  | none=>exact z
  | some k=>
   refine Nk a (i.step a z) ?_
   have:(VC E φ s k).L.length=s.L.length+1:=by
    unfold VC;split<;>simp
   omega
theorem Zhp(E:List ZL)(φ:Nat->Nat->Nat->Bool)(s:WS)(k:Nat):(VC E φ s k).L=s.L++[k]:=by unfold VC;split<;>rfl
end PW
namespace PK
open PW
noncomputable def Xf(m:Nat->Nat):List ZL->Nat->Nat
 | []=>m
 | e::T=>Xf (ZN m e.1 e.2) T
noncomputable def swE(e:ZL):ZL:=(e.2,e.1)
theorem JS:∀{T:List ZL}{m:Nat->Nat}{x y:Nat},m x=m y->Xf m T x=Xf m T y
 | [],m,x,y,h=>h
 | e::T,m,x,y,h=>JS (T:=T) (HI h)
theorem Gd(m:Nat->Nat)(a b:Nat):ZN m a b a=ZN m a b b:=by
 unfold ZN;rw[oX rfl];split<;>rfl
theorem Nl:∀{T:List ZL}{m:Nat->Nat},∀e∈T,Xf m T e.1=Xf m T e.2
 | [],m,e,h=>by simp at h
 | f::T,m,e,h=>by
  rcases aX.mp h with rfl | h
  ·exact JS (T:=T) (Gd m _ _)
  ·exact Nl (T:=T) e h
theorem JT{n:Nat}{q:Nat->Nat}:∀{T:List ZL}{m:Nat->Nat},(∀e∈T,q e.1=q e.2/\e.1<n/\e.2<n)->(∀x y,x<n->y<n->m x=m y->q x=q y)->∀x y,x<n->y<n->Xf m T x=Xf m T y->q x=q y
 | [],m,_,h,x,y,b,a,e=>h x y b a e
 | f::T,m,hT,h,x,y,b,a,e=>by
  obtain⟨i,c,g⟩:=hT f (by simp);refine JT (T:=T) (λe k=>hT e (by simp[k])) (λx y b a e=>?_) x y b a e;unfold ZN at e;split at e
  ·rename_i j;split at e
   ·rename_i d;rw[h x _ b c j,h y _ a c d]
   ·rw[h x _ b c j,i,h _ y g a e]
  ·split at e
   ·rename_i d;rw[h x _ b g e,<-i,h y _ a c d]
   ·exact h x y b a e
theorem JU{m:Nat->Nat}{a b:Nat}(h:m a=m b):ZN m a b=m:=by
 funext x;unfold ZN;split
 ·rename_i z;rw[z,h]
 ·rfl
theorem Ge{n:Nat}:∀{T:List ZL}{m:Nat->Nat},(∀e∈T,e.1<n/\e.2<n)->(∀x,x<n->m x<n)->∀x,x<n->Xf m T x<n
 | [],m,_,h,x,a=>h x a
 | f::T,m,hT,h,x,a=>Ge (T:=T) (λe b=>hT e (by simp[b])) (λx a=>by
   unfold ZN;split
   ·exact h _ (hT f (by simp)).2
   ·exact h x a) x a
theorem Gf{n:Nat}(G:List Nat):∀{T:List ZL}{m:Nat->Nat},(∀e∈T,e.1<n/\e.2<n)->(∀x,x<n->m x<n)->LL n m G-(T.length:Int)<=LL n (Xf m T) G
 | [],m,_,h=>by show LL n m G-(0:Int)<=LL n m G;omega
 | f::T,m,hT,h=>by
  have a:=hT f (by simp)
  have lt:∀x,x<n->ZN m f.1 f.2 x<n:=λx b=>by
   unfold ZN;split
   ·exact h _ a.2
   ·exact h x b
  have d:=Gf G (T:=T) (m:=ZN m f.1 f.2) (λe c=>hT e (by simp[c])) lt
  have st:LL n m G-1<=LL n (ZN m f.1 f.2) G:=by
   by_cases q:m f.1=m f.2
   ·rw[JU q];omega
   ·rw[Ah (h _ a.1) (h _ a.2) q];have:=Aj (X5 m G (m f.1)&&X5 m G (m f.2));omega
  show LL n m G-((T.length+1:Nat):Int)<=LL n (Xf (ZN m f.1 f.2) T) G;omega
theorem F0:∀(A B:List ZL)(m:Nat->Nat),Xf m (A++B)=Xf (Xf m A) B
 | [],B,m=>rfl
 | e::A,B,m=>F0 A B (ZN m e.1 e.2)
theorem Zhq{n:Nat}{m:Nat->Nat}(a:0<n)(lt:∀x,x<n->m x<n)(one:∀x,x<n->m x=m 0):LL n m (aD n)=1:=by
 unfold LL;rw[Yq (lt 0 a) λi e d=>?_]
 ·rw[hasM_iff.mpr ⟨0,aW.mpr a,rfl⟩];rfl
 ·cases q:X5 m (aD n) i with
  | false=>rfl
  | true=>
   obtain⟨g,c,b⟩:=hasM_iff.mp q;rw[one g (aW.mp c)] at b;exact absurd b.symm d
theorem Zkd(n:Nat):LL n (λx=>x) (aD n)=n:=by have:=(MkOk.start n).eq;have z:Um (aD n) []=0:=rfl;omega
theorem Zdi{n:Nat}{T:List ZL}(k:0<n)(b:∀e∈T,e.1<n/\e.2<n)(len:(T.length:Int)=n-1)(one:∀x,x<n->Xf (λx=>x) (T.map swE) x=Xf (λx=>x) (T.map swE) 0){A B:List ZL}{e:ZL}(hs:T=A++e::B) :
  Xf (λx=>x) A e.1≠Xf (λx=>x) A e.2:=λc=>by
 have p:=λx l=>by refine JT (q:=Xf (λx=>x) T) (λf d=>?_) (λx y _ _ h=>by rw[h]) x 0 l k (one x l);obtain⟨g,i,rfl⟩:=bJ.mp d;exact⟨(Nl g i).symm,(b g i).2,(b g i).1⟩
 have a:∀x,x<n->(λx:Nat=>x) x<n:=λx h=>h;have m:=Zhq k (Ge b a) p;have j:∀f∈A,f.1<n/\f.2<n:=λf d=>b f (by rw[hs];simp[d]);have s:∀f∈B,f.1<n/\f.2<n:=λf d=>b f (by rw[hs];simp[d]);have u:=Gf (aD n) j a;have t:=Gf (aD n) s (Ge j a);have o:Xf (λx=>x) T=Xf (Xf (λx=>x) A) B:=by rw[hs,F0];show Xf (ZN (Xf (λx=>x) A) e.1 e.2) B=_;rw[JU c]
 rw[o] at m;have v:(T.length:Int)=A.length+B.length+1:=by rw[hs];simp;omega
 have:=Zkd n;omega
theorem AZ{l acc:List Int}:∀x,x∈acc\/x∈l->x∈l.foldl (λ(U:List Int) k=>if U.any (·==k) then U else U++[k]) acc:=by
 induction l generalizing acc with
 | nil=>intro x h;simpa using h
 | cons a l ih=>
  intro x h;rw[i5];refine ih x ?_;rcases h with h | h
  ·left;split
   ·exact h
   ·simp[h]
  ·rcases aX.mp h with rfl | h
   ·left;split
    ·rename_i z;obtain⟨y,b,e⟩:=js.mp z;have:y=x:=by simpa using e
     rw[<-this];exact b
    ·simp
   ·exact .inr h
theorem Nm{a:Int}:∀{l:List Int},(∀x∈l,x=a)->l.foldl (λ(U:List Int) k=>if U.any (·==k) then U else U++[k]) [a]=[a]
 | [],_=>rfl
 | b::l,h=>by
  have d:=h b (by simp);subst d;rw[i5];have:([b].any (·==b))=aC:=by simp
  rw[oX this];exact Nm λx c=>h x (by simp[c])
end PK
namespace PW
open L2 VL VX PK
theorem A0{W:List (List Int)}{i:Nat}(h:i<(eW W).length):∃t:Int,(Yo W)[i]?=ag [((Zy (eW W) i).1:Int),((Zy (eW W) i).2:Int),t]:=by
 have k:(Yo W).map (λr=>((Zr r 0).toNat,(Zr r 1).toNat))=eW W:=by rw[LW];unfold Yo;rw[mw];congr 1;funext a;unfold Uj eA;rw[mw];congr 1;funext j;unfold Xv eAB;exact iO (by simp) (by intros;simp[Zr];omega)
 have c:∀r∈Yo W,∃(a b:Nat) (t:Int),r=[(a:Int),(b:Int),t]:=λr d=>by obtain⟨a,_,d⟩:=iN.mp d;obtain⟨j,_,d⟩:=iN.mp d;obtain⟨t,_,rfl⟩:=bJ.mp d;exact⟨a,a+1+j,t,rfl⟩
 have f:i<(Yo W).length:=by rw[<-We];exact h
 obtain⟨a,b,t,e⟩:=c _ (bT f);refine⟨t,?_⟩;have m:Zy (eW W) i=(a,b):=by have g:=congrArg (λl=>l[i]?) k;simp only[aU] at g;rw[aJ f,aJ h,e] at g;unfold Zy;rw[aF,aJ h];rw[<-g];rfl
 rw[aJ f,e,m]
noncomputable def pcs(W:List (List Int))(K:List Nat):Nat->Nat:=Xf (λx=>x) ((K.map (Zy (eW W))).map swE)
noncomputable def Zke(K:List Nat):List Int:=(nL K).foldl Zb8 []
noncomputable def Zkf(W:List (List Int))(K:List Nat):Bool:=K.all λk=>decide (k<(eW W).length)
noncomputable def ddW(W:List (List Int))(K:List Nat):Nat:=((JO W.length (pcs W K)).foldl fH []).length
noncomputable def isT(W:List (List Int))(K:List Nat):Bool:=decide (K.length+1=W.length)&&Zkf W K&&(decide (nL K=Xa (Zke K))&&decide (ddW W K=1))
theorem Zhr{n:Nat}{m:Nat->Nat}(h:((JO n m).foldl fH []).length=1)(d:0<n):∀x,x<n->m x=m 0:=λx e=>by
 obtain⟨a,ea⟩:=List.length_eq_one_iff.mp h;have b:=λy c=>by have:(m y:Int)∈(JO n m).foldl fH []:=AZ _ (.inr (bJ.mpr ⟨y,aW.mpr c,rfl⟩));rw[ea] at this;simpa using this
 have g:=b x e;have f:=b 0 d;omega
theorem Zhs{n:Nat}{m:Nat->Nat}(d:0<n)(h:∀x,x<n->m x=m 0):((JO n m).foldl fH []).length=1:=by
 have e:JO n m=(m 0:Int)::(JO n m).tail:=by unfold JO;obtain⟨k,rfl⟩:∃k,n=k+1:=⟨n-1,by omega⟩;rw[iD,ak,List.tail_cons]
 rw[e];have:=Nm λx c=>by have a:x∈JO n m:=List.mem_of_mem_tail c;obtain⟨y,b,rfl⟩:=bJ.mp a;rw[h y (aW.mp b)]
 exact congrArg iR this
theorem JV:∀{l acc:List Int},(acc++l).Nodup->l.foldl Zb8 acc=acc++l
 | [],acc,_=>by simp
 | k::l,acc,h=>by
  have a:k∉acc:=λz=>by rw[dJ] at h;exact h.2.2 k z k (by simp) rfl
  have ea:Zb8 acc k=acc++[k]:=by unfold Zb8;rw[oY a]
  rw[i5,ea];have:=JV (l:=l) (acc:=acc++[k]) (by simpa using h);rw[this];simp
noncomputable def Nn(F:List Nat):List Nat:=(Xa (nL F)).map lE
theorem F1(F:List Nat):nL (Nn F)=Xa (nL F):=by
 show((Xa (nL F)).map lE).map (λ(i:Nat)=>(i:Int))=_;rw[bQ]
 conv=>rhs;rw[<-List.map_id (Xa (nL F))]
 refine ar λx a=>?_;have:=(WG _).mem_iff.mp a;obtain⟨j,_,rfl⟩:=bJ.mp this;rfl
theorem A1{a b:Nat}:(λ(i:Nat)=>(i:Int)) a=(λ(i:Nat)=>(i:Int)) b->a=b:=by grind
theorem MB(F:List Nat):(Nn F).Perm F:=by
 have:=(WG (nL F)).map lE
 have e:(nL F).map lE=F:=by
  unfold nL;rw[bQ]
  conv=>rhs;rw[<-List.map_id F]
  exact ar λx _=>rfl
 rw[e] at this;exact this
theorem Zdj{n b:Nat}{E:List ZL}{s:WS}(i:WInv E n b s)(all:∀h,h<n->h∈s.F):s.B.length+1=n:=by
 have f:=QJ i.ndF i.ltF;have d:=O2 (ma.mpr (dt.imp λz e=>z (A1 e))) λx c=>by obtain⟨k,a,rfl⟩:=bJ.mp c;exact bJ.mpr ⟨k,all k (aW.mp a),rfl⟩
 have e:s.F.length=s.B.length+1:=by rw[i.hB];simp
 simp only[nL,aL,bt] at d;omega
theorem A2{W:List (List Int)}(ok:ZA W){b:Nat}{s:WS}(i:WInv (eW W) W.length b s)(all:∀h,h<W.length->h∈s.F):isT W (Nn (s.B.map (·.1)))=aC:=by
 have f:=MB (s.B.map (·.1));have l:=Zdj i all;have m:∀k∈Nn (s.B.map (·.1)),k<(eW W).length:=λk c=>by obtain⟨x,d,rfl⟩:=bJ.mp (f.mem_iff.mp c);exact i.ltL _ (i.bl x d)
 have g:(nL (Nn (s.B.map (·.1)))).Nodup:=by exact ma.mpr ((f.nodup_iff.mpr i.ndB).imp λz e=>z (A1 e))
 unfold isT;simp only[bC,decide_eq_true_eq];refine⟨⟨by rw[f.length_eq,aL];exact l,?_⟩,?_,?_⟩
 ·unfold Zkf;exact bN.mpr λk c=>decide_eq_true (m k c)
 ·unfold Zke;rw[JV (by simpa using g)];refine S6 (nt _) ?_;rw[F1];exact V4 _
 ·have a:∀x,x<W.length->pcs W (Nn (s.B.map (·.1))) x=pcs W (Nn (s.B.map (·.1))) b:=λx d=>i.cn _ (λy j=>by
   have c:=f.mem_iff.mpr (bJ.mpr ⟨y,j,rfl⟩);have:swE (Zy (eW W) y.1)∈((Nn (s.B.map (·.1))).map (Zy (eW W))).map swE:=ik (ik c);exact(Nl _ this).symm) x (all x d)
  exact Zhs ok.pos λx d=>(a x d).trans (a 0 ok.pos).symm
end PW
namespace PW
open PySem L2 VL VX PK
noncomputable def Q1(W:List (List Int))(k:Nat):List Int:=(Yo W).getD k []
theorem Zdk{W:List (List Int)}{k:Nat}(a:k<(eW W).length):∃t:Int,Q1 W k=[((Zy (eW W) k).1:Int),((Zy (eW W) k).2:Int),t]:=by obtain⟨t,e⟩:=A0 a;refine⟨t,?_⟩;unfold Q1;rw[aF,e];rfl
noncomputable def UX(W:List (List Int)):PV:=.lst ((Yo W).map pP)
theorem DD(W:List (List Int)):Y7 ((Yo W).map pP)=(aD (eW W).length).map λ(i:Nat)=>.tup [.int (i:Int),pP (Q1 W i)]:=by rw[YO,aL,We];refine ar λi a=>?_;have a:=aW.mp a;rw[aF,aU,aJ a];unfold Q1;rw[aF,aJ a];rfl
theorem L7{W:List (List Int)}{k:Nat}(b:k<(eW W).length):ZJ (UX W) (.int (k:Int))=ag (pP (Q1 W k)):=by
 have a:k<(Yo W).length:=by rw[<-We];exact b
 refine U0 (xs:=(Yo W).map pP) ?_;unfold Q1;rw[aU,aF,aJ a];rfl
theorem UY{W:List (List Int)}{k:Nat}(a:k<(eW W).length):ZJ (pP (Q1 W k)) (.int 0)=ag (.int ((Zy (eW W) k).1:Int))/\ZJ (pP (Q1 W k)) (.int 1)=ag (.int ((Zy (eW W) k).2:Int))/\Tu (pP (Q1 W k)) aA (ag 2)=ag (pP [((Zy (eW W) k).1:Int),((Zy (eW W) k).2:Int)]):=by obtain⟨t,b⟩:=Zdk a;rw[b];exact⟨rfl,rfl,rfl⟩
theorem QK{W:List (List Int)}{L F:List Nat}:YX [UX W,.lst (iL (nL L)),.lst (iL (nL F))]=ag (Ap (UW (eW W) L F)):=by
 refine QE (Zew (L:=aD (eW W).length) (q:=λ(i:Nat)=>.tup [.int (i:Int),pP (Q1 W i)]) (g:=λ(i:Nat)=>.int (i:Int)) (λk=>!decide (k∈L)&&(decide ((Zy (eW W) k).1∈F) != decide ((Zy (eW W) k).2∈F))) (λst=>∃x y,st=[ag (UX W),ag (.lst (iL (nL L))),ag (.lst (iL (nL F))),x,y]) (by rw[<-DD];rfl) ⟨aA,aA,rfl⟩ ?_ (λa e=>by unfold UW;rw[e];rfl) λe s=>?_)
 ·rintro k b s ⟨x,y,rfl⟩;obtain⟨c,f,_⟩:=UY (aW.mp b)
  have d:∀p q:Bool,Xx aC (.bl p) (.bl q)=ag (.bl (p != q)):=λp q=>by
   unfold Xx;rw[oX (by rfl)];cases p<;>cases q<;>simp
  exact⟨_,rfl,xa (xb (o2 rfl rfl (Zha k L))) (xb (o2 (o2 (o2 rfl rfl c) rfl (Pk _ F)) (o2 (o2 rfl rfl f) rfl (Pk _ F)) (d _ _))),rfl,_,_,rfl⟩
 ·rintro⟨x,y,rfl⟩;refine⟨.non,rfl,?_⟩;unfold UW;rw[e];rfl
noncomputable def bI(x:Nat×Nat×Nat):List Int:=[(x.1:Int),(x.2.1:Int),(x.2.2:Int)]
abbrev Zkg(W:List (List Int))(b:Nat)(C:PV)(s:WS)(x7 x8 x9:Option PV):ZG:=[ag (wP W),ag (.int (b:Int)),ag C,ag (UX W),ag (.lst (iL (nL s.F))),ag (.lst (iL (nL s.L))),ag (.lst (s.B.map λx=>pP (bI x))),x7,x8,x9]
theorem TR{W:List (List Int)}:∀e∈eW W,e.1<W.length/\e.2<W.length:=λe a=>by have:=Ze1 e a;omega
theorem L8{E:List ZL}{k:Nat}(h:k<E.length):Zy E k∈E:=by unfold Zy;rw[aF,aJ h];exact bT h
theorem Zht{s:ZG}{i:Nat}{fs:List XE}{ls:List PV}{Lm:Nv}{l:PV}{v:Bool}(g:s[i]?=ag (ag (.clo Lm l)))(c:SG fs s=ag ls)(pl:YG l=aC)(a:Xs ls=aC)(b:QS Lm l ls=ag (.bl v)):xV (BH QS i fs) s=ag v:=by unfold xV BH;rw[g];simp only;rw[c];simp only[aV];rw[oX (by rw[pl,a];rfl),b];rfl
theorem DE{W:List (List Int)}{L:List Nat}{h:Nat}{s:ZG}(c:∀j∈L,j<(eW W).length)(g:L.length<=1000)(f:Za 5 s=ag (.lst (iL (nL L))))(e:ZP 1 [8,3] s=[aA,ag (.int (h:Int)),ag (UX W)]) :
  Zc ZZ [Zt 1 [8,3] (XB (Za 5)) (.one 0) (xB (Zk (Nw aB) (Za 1) (SO Tu (Zk ZJ (Za 2) (Za 0)) Rw (TJ (eC (.int 2)))))) (Za 0)] s=ag (.int (MA (eW W) L h:Int)):=by
 refine c1 (Xp L (λ(i:Nat)=>.int (i:Int)) (λ(i:Nat)=>.int (i:Int)) (atE (eW W) h) (by unfold XB;rw[f];simp[nL]) (by omega) λy a=>⟨[ag (.int (y:Int)),ag (.int (h:Int)),ag (UX W)],by rw[e];rfl,?_,λ_=>rfl⟩) (by simp[MA]);obtain⟨_,_,d⟩:=UY (c y a);refine xb (o2 (b:=pP [((Zy (eW W) y).1:Int),((Zy (eW W) y).2:Int)]) rfl ?_ ?_)
 ·show((ZJ (UX W) (.int (y:Int))).bind λx=>Tu x aA (ag 2))=_;rw[L7 (c y a)];exact d
 ·rw[JP];simp[atE,lZ]
theorem DF{W:List (List Int)}(ok:ZA W){b:Nat}(I:b<W.length){Lm:Nv}{l:PV}{φ:Nat->Nat->Nat->Bool}(pl:YG l=aC)
  (G:∀k h c:Nat,k<(eW W).length->h<W.length->QS Lm l [.int (k:Int),.int (h:Int),.int (c:Int)]=ag (.bl (φ k h c))) :
  Rg [wP W,.int (b:Int),.clo Lm l]=ag (.lst ((Xc (eW W) φ (eW W).length (Kg b)).B.map λx=>pP (bI x))):=by
 have U:=ok.few;have B:=Y4 ok;have J:(eW W).length<=441:=by rw[We];exact B.2
 refine QE (ZR (Zp (c1 rfl B.1)) (ZR rfl (ZR rfl (ZR rfl (ZR (Zp (c3 rfl rfl rfl (QK (L:=[]) (F:=[b])))) (Wf (FZ (k:=(eW W).length) (λk st=>∃s u p,st=Zkg W b (.clo Lm l) s (ag (Ap (UW (eW W) s.L s.F))) u p/\WInv (eW W) W.length b s/\(eW W).length<=k+s.L.length/\Xc (eW W) φ k s=Xc (eW W) φ (eW W).length (Kg b)) ⟨Kg b,aA,aA,rfl,WInv.start I,by simp,rfl⟩ ?_) ?_))))))
 ·rintro k st ⟨s,u,p,rfl,d,D,A⟩
  cases e:UW (eW W) s.L s.F with
  | none=>exact .inl rfl
  | some j=>
   cases k with
   | zero=>
    have:=Nk (φ:=φ) TR d (m:=0) (by omega);unfold Xc at this;rw[e] at this;cases this
   | succ k=>
    obtain⟨f,Q,_⟩:=Tq e;obtain⟨T,M,o,O,H⟩:=Gb e
    have w:Up (eW W) s.F j<W.length:=by
     have:=TR _ (L8 f);rcases H with z | z<;>rw[z] at this
     ·exact this.2
     ·exact this.1
    have S:=QJ d.ndL d.ltL;have N:=QJ d.ndF d.ltF;have P:s.F.length=s.B.length+1:=by rw[d.hB];simp
    obtain⟨t,E,_⟩:=UY f;have g:=L7 f;let h:=Up (eW W) s.F j;let c:=MA (eW W) (s.L++[j]) h;refine .inr ⟨rfl,Yc (HK rfl rfl (by omega)) (Yc (Zp (vP (a:=(h:Int)) ?_)) (Yc (Zp (vP (DE (h:=h) (L:=s.L++[j]) (λi C=>?_) (by rw[aY,dS];omega) rfl rfl))) (JF (R:=λst=>st=Zkg W b (.clo Lm l) (VC (eW W) φ s j) (ag (.int (j:Int))) (ag (.int (h:Int))) (ag (.int (c:Int)))) (FE (Zht rfl rfl pl rfl (G j h c f w)) (λv=>Yc (HK (k:=h) rfl rfl (by omega)) (QG (Pl (λx=>pP (bI x)) (y:=(j,h,c)) rfl rfl (by omega)) ?_)) λv=>QG rfl ?_) ?_)))⟩
    ·show _=ag (PV.int (Up (eW W) s.F j:Int));unfold Up;by_cases q:(Zy (eW W) j).1∈s.F
     ·rw[oX q];exact O7 (xb ((o2 (o2 (o2 rfl rfl g) rfl t) rfl (Pk _ _)).trans (by rw[decide_eq_true q]))) (o2 (o2 rfl rfl g) rfl E)
     ·rw[oY q];exact O8 (xb ((o2 (o2 (o2 rfl rfl g) rfl t) rfl (Pk _ _)).trans (by rw[decide_eq_false q]))) (o2 (o2 rfl rfl g) rfl t)
    ·rcases ah.mp C with z | z
     ·exact d.ltL i z
     ·rw[aN.mp z];exact f
    ·unfold VC;rw[oX v];rfl
    ·unfold VC;rw[oY (by rw[v];decide)];rfl
    ·rintro st rfl;refine QG (Zp (c3 rfl rfl rfl QK)) ⟨k,by omega,VC (eW W) φ s j,_,_,rfl,d.step TR e,by rw[Zhp,aY,dS];omega,?_⟩;rw[<-A]
     conv=>rhs;unfold Xc
     rw[e]
 ·rintro st ⟨k,⟨s,u,p,rfl,d,D,A⟩,q⟩;refine⟨_,rfl,?_⟩;rw[<-A]
  cases k with
  | zero=>rfl
  | succ n=>
   unfold Xc
   cases e:UW (eW W) s.L s.F with
   | none=>rfl
   | some h=>rw[e] at q;cases q
noncomputable def hV(h:List Nat):PV:=.lst (iL (nL h))
theorem F2{h:List Nat}{k:Nat}(a:k<h.length):Zr (nL h) k=(hd h k:Int):=by unfold Zr hd nL;rw[aF,aU,aJ a,aF,aJ a];rfl
theorem Zhu{h:List Nat}{k:Nat}(a:k<h.length):ZJ (hV h) (.int (k:Int))=ag (.int (hd h k:Int)):=by rw[<-F2 a];exact Ys (by simpa [nL] using a)
theorem Zhv(h:List Nat)(v:Nat):(nL h).count (v:Int)=h.count v:=by
 induction h with
 | nil=>rfl
 | cons a h ih=>
  show((a:Int)::nL h).count (v:Int)=_;rw[fT,fT,ih];by_cases q:a=v
  ·simp[q]
  ·have:¬(a:Int)=(v:Int):=by omega
   simp[q,this]
theorem OE(h:List Nat)(v:Nat):Tb (hV h) (.int (v:Int))=ag (.int (h.count v:Int)):=by show(Yj (iL (nL h))).map _=_;rw[Yd];show ag (PV.int (((nL h).count (v:Int):Nat):Int))=_;rw[Zhv]
theorem JW{W:List (List Int)}{k x:Nat}(b:k<(eW W).length):Vh [pP (Q1 W k),.int (x:Int)]=ag (.int (Ud (Zy (eW W) k) x:Int)):=by
 obtain⟨a,c,_⟩:=UY b;refine YZ (ret (ep ?_));unfold Ud;by_cases q:x=(Zy (eW W) k).1
 ·rw[oX q];exact O7 (xb ((Dr rfl (o2 rfl rfl a)).trans (by rw[decide_eq_true (by omega)]))) (o2 rfl rfl c)
 ·rw[oY q];exact O8 (xb ((Dr rfl (o2 rfl rfl a)).trans (by rw[decide_eq_false (by omega)]))) (o2 rfl rfl a)
noncomputable def QL(n:Nat)(q:Nat->Int)(h:List Nat):Option Nat:=(aD n).find? λv=>decide ((h.count v:Int)>q v)
theorem JX{h:List Nat}{Q:List Int}:WL [hV h,pP Q]=ag (Ap (QL Q.length (Zr Q) h)):=by
 refine QE (Zew (L:=aD Q.length) (q:=λ(i:Nat)=>.tup [.int (i:Int),.int (Zr Q i)]) (g:=λ(i:Nat)=>.int (i:Int)) (λv=>decide ((h.count v:Int)>Zr Q v)) (λst=>∃x y,st=[ag (hV h),ag (pP Q),x,y]) (by rw[<-Zhd];rfl) ⟨aA,aA,rfl⟩ ?_ (λa e=>by unfold QL;rw[e];rfl) ?_)
 ·rintro k b st ⟨x,y,rfl⟩;exact⟨_,rfl,xb (o2 (o2 rfl rfl (OE h k)) rfl rfl),rfl,_,_,rfl⟩
 ·rintro e s ⟨x,y,rfl⟩;exact⟨.non,rfl,by unfold QL;rw[e];rfl⟩
noncomputable def Po(ks:List Nat):PV:=.cst (iL (nL ks))
noncomputable def kN(x:Nat):YR:=.inl (x:Int)
theorem A3{a b:Nat}(h:kN a=kN b):a=b:=by unfold kN at h;injection h with h;omega
noncomputable def dF(F:List Nat)(p:Nat->List Nat):PV:=.dK (F.map kN) (F.map λx=>Po (p x))
theorem Zdl(F:List Nat)(p:Nat->List Nat):ZE (F.map λx=>Po (p x))=aC:=RN λx _=>Z5 _
theorem A4(F:List Nat)(p:Nat->List Nat)(y:Nat):V1 (F.map kN) (F.map λx=>Po (p x)) (kN y)=if y∈F then ag (Po (p y)) else aA:=by
 unfold V1
 induction F with
 | nil=>rfl
 | cons a F ih=>
  rw[ak,ak,dU,dP];by_cases q:a=y
  ·subst q;have:decide (kN a=kN a)=aC:=decide_eq_true rfl;rw[this,oX (by simp)];rfl
  ·have:decide (kN a=kN y)=aB:=decide_eq_false λz=>q (A3 z);rw[this];have e:(y∈a::F)↔y∈F:=by rw[aX];exact⟨λz=>z.resolve_left λw=>q w.symm,.inr⟩
   simp only[e];exact ih
theorem A5{F:List Nat}{p:Nat->List Nat}{y:Nat}(h:y∈F):Uv (dF F p) (.int (y:Int))=ag (Po (p y)):=by show V1 (F.map kN) (F.map λx=>Po (p x)) (kN y)=_;rw[A4,oX h]
theorem Zkh(F:List Nat)(p:Nat->List Nat)(y:Nat):dIn (dF F p) (.int (y:Int))=ag (decide (y∈F)):=by
 show ag (V1 (F.map kN) (F.map λx=>Po (p x)) (kN y)).isSome=_;rw[A4];by_cases q:y∈F
 ·rw[oX q,decide_eq_true q];rfl
 ·rw[oY q,decide_eq_false q];rfl
theorem Zhw{F:List Nat}{p:Nat->List Nat}{y:Nat}{b:List Nat}(h:y∉F)(d:F.length<=1000):Zgl (dF F p) (.int (y:Int)) (Po b)=ag (dF (F++[y]) (Ga p y b)):=by
 have n:kN y∉F.map kN:=λz=>by obtain⟨x,c,e⟩:=bJ.mp z;exact h (by rw[<-A3 e];exact c)
 show(gd (ZE (F.map λx=>Po (p x))&&ZT (Po b)&&decide ((F.map kN).length<=10000))).bind (λ_=>ag (PV.dK (N9 (F.map kN) (kN y)) (Ma (F.map kN) (F.map λx=>Po (p x)) (kN y) (Po b))))=_;rw[Zdl,show ZT (Po b)=aC from Z5 _,decide_eq_true (by rw[aL];omega)];rw[EF n,EG n];show ag (PV.dK _ _)=ag (PV.dK _ _);have a:F.map (λx=>Po (p x))=F.map λx=>Po (Ga p y b x):=ar λx c=>by unfold Ga;rw[oY λz=>h (by rw[<-z];exact c)]
 rw[bM,bM,a];congr 3;unfold Ga;simp
abbrev stY(W:List (List Int))(h:List Nat)(Q:List Int)(a:Nat)(F:List Nat)(p:Nat->List Nat)(j:Nat)(x7 x8 x9 x10:Option PV):ZG:=[ag (UX W),ag (hV h),ag (pP Q),ag (.int (a:Int)),ag (dF F p),ag (hV F),ag (.int (j:Int)),x7,x8,x9,x10]
theorem L9(h:List Nat):Y7 (iL (nL h))=(aD h.length).map λ(i:Nat)=>.tup [.int (i:Int),.int (hd h i:Int)]:=by
 have l:(nL h).length=h.length:=by simp[nL]
 rw[YO,aL,l];exact ar λi a=>by have a:=aW.mp a;rw[Xq (nL h) i (by rw[l];exact a),F2 a]
theorem Zdm{L:List Nat}{i:Nat}(a:L.length<=1000):Bx (Po L) (.lst [.int (i:Int)])=ag (.lst (iL (nL (L++[i])))):=by show(Yj (iL (nL L))).bind _=_;rw[Yd,aV,show([PV.int (i:Int)]:List PV)=iL [(i:Int)] from rfl,Yd,aV];show(if(nL L).length+1<=10000 then ag (PV.lst (iL (nL L++[(i:Int)]))) else aA)=_;rw[oX (by simp[nL];omega)];simp[nL]
theorem A6{f:XE}{s:ZG}{L:List Nat}(q:f s=ag (.lst (iL (nL L)))):EX f s=ag (Po L):=by unfold EX;rw[q];show(Yj (iL (nL L))).map _=_;rw[Yd];rfl
section
variable {W:List (List Int)} {h:List Nat} {Q:List Int} {a:Nat}
theorem Gg(ok:ZA W)(o:HOk (eW W) h)(hl:(eW W).length<=441)(X:Q.length=W.length)(U:a<W.length)(NH:Zr Q a<(h.count a:Int))(R:∀G:List Nat,G.Nodup->(∀g∈G,g<W.length)->G≠[]->Um G (eW W)<=(G.map (Zr Q)).sum) :
  ∃D x F,RX [UX W,hV h,pP Q,.int (a:Int)]=ag (Po D)/\Pth (eW W) h F a D x/\(h.count x:Int)<Zr Q x/\D.length<=7:=by
 have N:=ok.few
 suffices g:Yz Mq (ZK 11 [UX W,hV h,pP Q,.int (a:Int)]) λv=>∃D x F,v=Po D/\Pth (eW W) h F a D x/\(h.count x:Int)<Zr Q x/\D.length<=7 by obtain⟨v,e,D,x,F,rfl,r⟩:=QD g;exact⟨D,x,F,e,r⟩
 have i0:BSr (eW W) h (Zr Q) W.length a [a] (λ_=>[]) 0:=
  ⟨by simp,λx n=>by rw[aN.mp n];exact U,by simp,eY _,λx n=>by rw[aN.mp n];exact Pth.start o,λx n=>kY,λx n=>(cM n).elim,λx n=>(cM n).elim⟩
 have J:∀{F p j}(i:BSr (eW W) h (Zr Q) W.length a F p j),∃x,F[j]?=ag x/\x∈F/\ZJ (hV F) (.int (j:Int))=ag (.int (x:Int))/\ZJ (pP Q) (.int (x:Int))=ag (.int (Zr Q x)):=λ{F p j} i=>by have I:=i.goes o NH R;have t:F[j]∈F:=bT I;refine⟨F[j],aJ I,t,?_,Ys (by rw[X];exact i.lt _ t)⟩;rw[Zhu I];unfold hd;rw[aF,aJ I];rfl
 have L:∀{F p}{j x:Nat}{H B u f},ZJ (hV F) (.int (j:Int))=ag (.int (x:Int))->ZJ (pP Q) (.int (x:Int))=ag (.int (Zr Q x))->xB (Zk oGe (Zk Tb (Za 1) (Zk ZJ (Za 5) (Za 6))) (Zk ZJ (Za 2) (Zk ZJ (Za 5) (Za 6)))) (stY W h Q a F p j H B u f)=ag (decide (Zr Q x<=(h.count x:Int))):=λg E=>xb (vge (o2 rfl (o2 rfl rfl g) (OE h _)) (o2 rfl (o2 rfl rfl g) E));refine ZR (Zp (v:=dF [a] λ_=>[]) rfl) (ZR (Zp (v:=hV [a]) rfl) (ZR (Zp (v:=.int ((0:Nat):Int)) rfl) (Wf (FZ (λk st=>∃F p j H B u f,BSr (eW W) h (Zr Q) W.length a F p j/\st=stY W h Q a F p j H B u f/\k=W.length-j) ⟨[a],λ_=>[],0,aA,aA,aA,aA,i0,rfl,rfl⟩ ?_) ?_)))
 ·rintro k st ⟨F,p,j,H,B,u,f,i,rfl,rfl⟩;obtain⟨x,n,t,g,E⟩:=J i;have I:=i.goes o NH R;have Y:=QJ i.nd i.lt;by_cases O:Zr Q x<=(h.count x:Int)
  ·refine .inr ⟨(L g E).trans (by rw[decide_eq_true O]),Yc (Zp (ep (o2 rfl rfl g))) (JF (Qp (ls:=Y7 (iL (nL h))) (λm s=>∃F p B u f,BIn (eW W) h (Zr Q) W.length a F p j x m/\s=stY W h Q a F p j (ag (.int (x:Int))) B u f) rfl ⟨F,p,B,u,f,⟨i,n,λk T=>absurd T (Nat.not_lt_zero _)⟩,rfl⟩ ?_) ?_)⟩
   ·rintro m l s C ⟨F,p,B,u,f,A,rfl⟩;rw[L9] at C;have P:m<h.length:=by simpa using(aS.mp C).1
    rw[aU,bz P] at C;cases C;have M:m<(eW W).length:=by rw[<-o.len];exact P
    have t:x∈F:=cE A.hx;have Y:F.length<=7:=bO (QJ A.b.nd A.b.lt) N;let y:=Ud (Zy (eW W) m) (hd h m);refine⟨_,rfl,Yc (Zp (c2 (o2 rfl rfl (L7 M)) rfl (JW M))) (FE (xa (xb (Dr rfl rfl)) (p2:=!decide (y∈F)) (xb ?_)) (λw=>?_) λw=>QG rfl ⟨F,p,_,_,_,A.pass λz=>?_,rfl⟩)⟩
    ·unfold Zbg;show(dIn (dF F p) (.int (y:Int))).map (λb=>PV.bl (if aC=aC then !b else b))=_;rw[Zkh];rfl
    ·obtain⟨c,d⟩:hd h m=x/\y∉F:=by simpa [lZ] using w
     subst c;have:=A.b.sh (hd h m) t;exact Yc (B5 (k:=.int (y:Int)) (d:=dF F p) (A6 (o2 (o2 rfl rfl (A5 t)) rfl (Zdm (by omega)))) rfl rfl (Zhw d (by omega))) (QG (HK rfl rfl (by omega)) ⟨_,_,_,_,_,A.add o TR M rfl d,rfl⟩)
    ·subst z;simpa [y] using w
   ·rintro s ⟨F',Z,y8,y9,S,A,rfl⟩;rw[show(Y7 (iL (nL h))).length=(eW W).length by rw[L9];simp[o.len]] at A;exact QG rfl ⟨W.length-(j+1),by omega,F',Z,j+1,_,_,_,_,A.done O,rfl,rfl⟩
  ·exact .inl ((L g E).trans (by rw[decide_eq_false O]))
 ·rintro s ⟨k,⟨F,p,j,H,B,u,f,i,rfl,rfl⟩,q⟩;obtain⟨x,n,t,g,E⟩:=J i;have lt:=of_decide_eq_false (bG ((L g E).symm.trans q));have:=i.sh x t;have:=QJ i.nd i.lt;exact WW (ep (o2 rfl (o2 rfl rfl g) (A5 t)) (Z5 _)) ⟨p x,x,F,rfl,i.pt x t,by omega,by omega⟩
end
section
variable {W:List (List Int)} {h:List Nat} {Q:List Int}
abbrev stH(W:List (List Int))(Q:List Int)(h:List Nat)(x4 x5 x6:Option PV):ZG:=[ag (wP W),ag (pP Q),ag (UX W),ag (hV h),x4,x5,x6]
theorem JY(E:List ZL):∀(ks h:List Nat),(W0 E h ks).length=h.length
 | [],_=>rfl
 | k::ks,h=>by show(W0 E (UU E h k) ks).length=_;rw[JY E ks];unfold UU;rw[cR]
theorem MC(E:List ZL):∀(ks h:List Nat)(k:Nat),W0 E h (ks++[k])=UU E (W0 E h ks) k
 | [],_,_=>rfl
 | _::ks,_,k=>MC E ks _ k
theorem DG{n a:Nat}{q:Nat->Int}(e:QL n q h=ag a):a<n/\q a<(h.count a:Int):=by have m:=eI e;have c:=kX e;exact⟨aW.mp m,of_decide_eq_true c⟩
theorem Ka(ok:ZA W)(y:(eW W).length<=441)(n:Q.length=W.length)(B:∀G:List Nat,G.Nodup->(∀g∈G,g<W.length)->G≠[]->Um G (eW W)<=(G.map (Zr Q)).sum) :
  ∃h,UA [wP W,pP Q]=ag (hV h)/\HOk (eW W) h/\∀v,v<W.length->(h.count v:Int)<=Zr Q v:=by
 suffices g:Yz QA (ZK 7 [wP W,pP Q]) λv=>∃h,v=hV h/\HOk (eW W) h/\∀v,v<W.length->(h.count v:Int)<=Zr Q v by obtain⟨v,e,h,rfl,r⟩:=QD g;exact⟨h,e,r⟩
 let f:List Nat:=(aD (eW W).length).map λk=>(Zy (eW W) k).1
 have w:HOk (eW W) f:=⟨by simp[f],λk b=>.inl (by
  show((aD (eW W).length).map λk=>(Zy (eW W) k).1).getD k 0=_;rw[aF,aU,bz b];rfl)⟩
 have u:∀h,WL [hV h,pP Q]=ag (Ap (QL W.length (Zr Q) h)):=λh=>by rw[<-n];exact JX
 refine ZR (Zp (c1 rfl (Y4 ok).1)) (ZR (Zp (v:=hV f) ((ZI (aD (eW W).length) (λk=>pP (Q1 W k)) (λk=>.int ((Zy (eW W) k).1:Int)) ?_ (by simp;omega) λk b=>⟨_,rfl,rfl,ep (o2 rfl rfl (UY (aW.mp b)).1)⟩).trans ?_)) (ZR (Zp (c2 rfl rfl (u _))) (Wf (FZ (λk st=>∃h j c,HOk (eW W) h/\st=stH W Q h (ag (Ap (QL W.length (Zr Q) h))) j c/\k=(AX W.length (Zr Q) h).toNat) ⟨f,aA,aA,w,rfl,rfl⟩ ?_) ?_)))
 ·show ag ((Yo W).map pP)=_;rw[We]
  conv=>lhs;rw[<-Rt (Yo W) []]
  rw[bQ];rfl
 ·unfold hV nL;rw[bQ,Mx];rfl
 ·rintro k st ⟨h,j,c,o,rfl,rfl⟩
  cases e:QL W.length (Zr Q) h with
  | none=>exact .inl (xb rfl)
  | some a=>
   obtain⟨m,NH⟩:=DG e;obtain⟨d,x,F,A,p,fr,_⟩:=Gg ok o y n m NH B;have ls:=AY m NH fr p.cn;have D:=Zho W.length (Zr Q) (W0 (eW W) h d);refine .inr ⟨xb rfl,Yc (Zp (c4 rfl rfl rfl rfl A)) (JF (Ar (X:=d) (λi s=>∃c,s=stH W Q (W0 (eW W) h (d.take i)) (ag (.int (a:Int))) (ag (Po d)) c) rfl ⟨c,rfl⟩ ?_) ?_)⟩
   ·rintro i s l ⟨c,rfl⟩;have b:=p.lt _ (bT l);have t:(W0 (eW W) h (d.take i)).length=(eW W).length:=by rw[JY,o.len]
    refine QG (As (k:=d[i]) rfl (c2 (o2 rfl rfl (L7 b)) (o2 rfl rfl (Zhu (by rw[t];exact b))) (JW b)) rfl (by simp only[nL,aL,t];exact b)) ⟨ag (.int ((d[i]:Nat):Int)),?_⟩;rw[dM l,MC];show _=stH W Q (List.set _ _ _) _ _ _;unfold stH hV nL;rw[jA];rfl
   ·rintro s ⟨C,rfl⟩;rw[jq];exact QG (Zp (c2 rfl rfl (u _))) ⟨_,by omega,_,_,_,p.ok,rfl,rfl⟩
 ·rintro s ⟨k,⟨h,j,c,o,rfl,rfl⟩,q⟩
  cases e:QL W.length (Zr Q) h with
  | some a=>rw[e] at q;cases q
  | none=>
   refine WW rfl ⟨h,rfl,o,λv z=>?_⟩;have:=fQ.mp e v (aW.mpr z);simp only[decide_eq_true_eq] at this;omega
end
theorem Np(D:List Int):YG (pP D)=aC:=by
 show Xs (iL D)=aC
 induction D with
 | nil=>rfl
 | cons a r ih=>exact ih
theorem Gh{W:List (List Int)}(ok:ZA W){b:Nat}(d:b<W.length){Lm:Nv}{l:PV}{φ:Nat->Nat->Nat->Bool}(pl:YG l=aC)
  (f:∀k h c:Nat,k<(eW W).length->h<W.length->QS Lm l [.int (k:Int),.int (h:Int),.int (c:Int)]=ag (.bl (φ k h c))) :
  Tf [wP W,.int (b:Int),.clo Lm l]=ag (pP (nL (Nn ((Xc (eW W) φ (eW W).length (Kg b)).B.map (·.1))))):=by
 have e:=DF ok d pl f;generalize hs:Xc (eW W) φ (eW W).length (Kg b)=s at e ⊢;have a:WInv (eW W) W.length b s:=by rw[<-hs];exact WInv.walk TR (WInv.start d)
 have n:=QJ a.ndF a.ltF;have j:s.F.length=s.B.length+1:=by rw[a.hB];simp
 have m:=ok.few;have g:(s.B.map λx=>PV.int (x.1:Int))=iL (nL (s.B.map (·.1))):=by simp[nL]
 refine YZ (ret (J2 ?_));rw[F1];exact c1 (c1 ((ZI s.B (λx=>pP (bI x)) (λx=>.int (x.1:Int)) (by unfold XB;rw[c3 (D:=Rg) rfl rfl rfl e];rfl) (by omega) λx i=>⟨_,rfl,rfl,rfl⟩).trans (by rw[g])) (HV (by rw[aL];omega))) rfl
noncomputable def TU(W:List (List Int))(P:List Int):List Int:=QY (O1 P (aQ W.length 1)) (AE W.length 0)
theorem Nq{W:List (List Int)}{P:List Int}(d:P.length=W.length){i:Nat}(c:i<W.length):Zr (TU W P) i=Zr P i+1-if i=0 then 1 else 0:=by
 unfold TU;rw[Jz (by rw[UO,d];exact c),Jy (by rw[d];exact c)];have a:Zr (aQ W.length 1) i=1:=by unfold Zr;rw[aF,bc,oX c];rfl
 have b:Zr (AE W.length 0) i=if i=0 then 1 else 0:=ZC c
 rw[a,b]
theorem Zdn{W:List (List Int)}(ok:ZA W){P:List Int}(f:P.length=W.length)(l:UT W P)(G:List Nat)(c:G.Nodup)(lt:∀g∈G,g<W.length)(ne:G≠[]):Um G (eW W)<=(G.map (Zr (TU W P))).sum:=by
 obtain⟨g,e⟩:=gH G ne;have d:=l (λi=>decide (i∈G)) ⟨g,lt g e,decide_eq_true e⟩;have j:=HZ (w:=ZW W) (D:=Zr P) c lt (by rw[To ok c lt];omega);have p:=To ok c lt;unfold uW at d;rw[<-j] at d;unfold Kf at d
 have q:(G.map (Zr (TU W P))).sum=(G.map (Zr P)).sum+(G.map λi=>1-if i=0 then(1:Int) else 0).sum:=by
  rw[<-UQ];congr 1;exact ar λi h=>by rw[Nq f (lt i h)];omega
 have n:∀G:List Nat,G.Nodup->(G.length:Int)-1<=(G.map λi=>1-if i=0 then(1:Int) else 0).sum/\(0∉G->(G.length:Int)<=(G.map λi=>1-if i=0 then(1:Int) else 0).sum):=λG=>by
  induction G with
  | nil=>intro _;exact⟨by decide,λ_=>by decide⟩
  | cons x G ih=>
   intro c;obtain⟨m,k⟩:=aw.mp c;obtain⟨a,b⟩:=ih k;simp only[ak,bp,bK];by_cases z:x=0
   ·subst z;have:=b m;simp;omega
   ·simp[z];exact⟨by omega,λ_ w=>by have:=b w;omega⟩
 have o:=(n G c).1;omega
theorem DH{h:List Nat}{k g c:Nat}(a:k<h.length):QS YW (Po h) [.int (k:Int),.int (g:Int),.int (c:Int)]=ag (.bl (decide (hd h k=g))):=by
 unfold QS;rw[oX rfl]
 exact o2 (o2 rfl rfl (show ZJ (Po h) (.int (k:Int))=ag (.int (hd h k:Int)) from Zhu a)) rfl (by
  rw[T7];simp[lZ])
noncomputable def Gi(W:List (List Int))(P:List Int)(T X:List Nat):Prop:=∃h,HOk (eW W) h/\(∀v,v<W.length->(h.count v:Int)<=Zr (TU W P) v)/\T=Nn ((Xc (eW W) (λk g _=>decide (hd h k=g)) (eW W).length (Kg 0)).B.map (·.1))/\X=((aD h.length).filter λk=>!decide (k∈T)).map (hd h)
theorem Zdo{W:List (List Int)}(ok:ZA W){P:List Int}(d:P.length=W.length)(s:UT W P):∃T X:List Nat,RZ [wP W,pP P]=ag (.tup [pP (nL T),pP (nL X)])/\Gi W P T X:=by
 have j:=ok.few;have n:=ok.pos;have p:(TU W P).length=W.length:=by unfold TU;rw[Jx,UO,d]
 have u:(eW W).length<=441:=by rw[We];exact(Y4 ok).2
 obtain⟨h,t,o,q⟩:=Ka ok u p (Zdn ok d s);have i:=o.len;have f:=Gh ok n (Lm:=YW) (l:=Po h) (φ:=λk g _=>decide (hd h k=g)) (Np (nL h)) λk g c e _=>DH (by rw[i];exact e);generalize m:Nn ((Xc (eW W) (λk g _=>decide (hd h k=g)) (eW W).length (Kg 0)).B.map (·.1))=T at f;let X:List Nat:=((aD h.length).filter λk=>!decide (k∈T)).map (hd h);refine⟨T,X,YZ (sq (Zp (c2 (c2 (b:=pP (aQ W.length 1)) rfl (o2 (a:=.tup [.int 1]) rfl (c1 rfl Uk) ?_) (Fw (by rw[dR,d]) (by rw[d];omega))) (c2 rfl rfl (Dy (h:=0) j)) (Jw (by simp[AE,UO,d]) (by rw[UO,d];omega)))) (sq (Zp (ep (A6 (c2 rfl rfl t)) (Z5 _))) (sq (Zp (v:=pP (nL T)) ?_) (ret (ep (Zj6 rfl (c1 (a:=.lst (iL (nL X))) ((Xp (aD h.length) (λ(k:Nat)=>.tup [.int (k:Int),.int (hd h k:Int)]) (λ(k:Nat)=>.int (hd h k:Int)) (λk=>!decide (k∈T)) (by show ag (Y7 (iL (nL h)))=_;rw[L9]) (by simp;omega) λk e=>⟨_,rfl,xb (o2 rfl rfl (by rw[JP];simp only[O5];rfl)),λ_=>rfl⟩).trans ?_) (Oe _))) (by simp)))))),h,o,q,m.symm,rfl⟩
 ·show(if ZE [PV.int 1]=aC/\[PV.int 1]≠[]/\1<=(W.length:Int)/\(W.length:Int)<=1000000/\[PV.int 1].length*((W.length:Int)).toNat<=10000 then ag (PV.tup (aQ ((W.length:Int)).toNat [PV.int 1]).flatten) else aA)=_;rw[oX ⟨rfl,by simp,by omega,by omega,by simp;omega⟩,cC,Ky];simp
 ·show(Tf [wP W,.int ((0:Nat):Int),.clo YW (Po h)]).bind _=_;rw[f,aV,oX (Np _)]
 ·show _=ag (PV.lst (iL (nL (((aD h.length).filter λk=>!decide (k∈T)).map (hd h)))));unfold nL;rw[bQ,Mx];rfl
end PW
namespace PW
open L2 VL VX PK
noncomputable def W6:List (List Int):=(aD 6).map λ(i:Nat)=>(aD 6).map λ(j:Nat)=>if((i:Int)-(j:Int))%3=0 then(0:Int) else 1
theorem Zdp:Ln []=ag (wP W6):=by
 refine YZ (ret (ep (c1 (a:=.lst (W6.map pP)) ((ZI (aD 6) (λ(j:Nat)=>.int (j:Int)) (λi=>pP ((aD 6).map λ(j:Nat)=>if((i:Int)-(j:Int))%3=0 then(0:Int) else 1)) (Yl (n:=6) rfl (by omega)) (by simp) λi c=>⟨_,rfl,rfl,c1 (Vy (λj=>if((i:Int)-(j:Int))%3=0 then(0:Int) else 1) (Yl (n:=6) rfl (by omega)) (by omega) λj b=>⟨_,rfl,rfl,c1 (o2 (vmd (J4 rfl rfl) rfl (by decide)) rfl (T7 ..)) ?_⟩) rfl⟩).trans (by unfold W6;rw[bQ];rfl)) rfl) (by decide +kernel)));by_cases q:((i:Int)-(j:Int))%3=0
 ·rw[decide_eq_true q,oX q];rfl
 ·rw[decide_eq_false q,oY q];rfl
theorem Zki:ZA W6:=by
 have l:W6.length=6:=rfl;have all:∀i,i<6->∀j,j<6->0<=ZW W6 i j/\ZW W6 i j<=9/\ZW W6 i j=ZW W6 j i:=by decide +kernel
 refine⟨by decide,by decide,by decide +kernel,λi j b a=>?_,λi j b a=>?_,λi j b a=>?_,by decide +kernel⟩
 ·exact(all i (by rw[l] at b;exact b) j (by rw[l] at a;exact a)).1
 ·exact(all i (by rw[l] at b;exact b) j (by rw[l] at a;exact a)).2.1
 ·exact(all i (by rw[l] at b;exact b) j (by rw[l] at a;exact a)).2.2
theorem Zdq:Sg W6:=λP h=>by
 have l:W6.length=6:=rfl;have e:∀a b,a<6->b<6->0<ZW W6 a b->(P a↔P b):=λa b g n z=>h a b (by rw[l];exact g) (by rw[l];exact n) z;have d:=e 0 1 (by decide) (by decide) (by decide +kernel);have k:=e 0 2 (by decide) (by decide) (by decide +kernel);have o:=e 0 4 (by decide) (by decide) (by decide +kernel);have p:=e 0 5 (by decide) (by decide) (by decide +kernel);have m:=e 1 3 (by decide) (by decide) (by decide +kernel)
 have all:∀i,i<6->(P i↔P 0):=λi c=>by
  have:i=0\/i=1\/i=2\/i=3\/i=4\/i=5:=by omega
  rcases this with rfl | rfl | rfl | rfl | rfl | rfl
  ·exact Iff.rfl
  ·exact d.symm
  ·exact k.symm
  ·exact m.symm.trans d.symm
  ·exact o.symm
  ·exact p.symm
 exact λi j c f=>(all i (by rw[l] at c;exact c)).trans (all j (by rw[l] at f;exact f)).symm
theorem A7{b:List Int}(a:b.length<=63):∃W,Pb [.cst (iL b),Zhk,.int 8]=ag (wP W)/\ZA W/\Sg W/\(eW W).length<=12:=by
 obtain⟨v,f,d⟩:=YE (Zr b 0) (t:=337) (m:=16) (by omega) (by omega);have t:=λ(s:ZG) (h:Za 0 s=ag (.cst (iL b)))=>xb (Dr (c3 (D:=ZU) (c2 (D:=Yk) h (show eC (.int 0) s=_ from rfl) (Wr a 0)) (show eC (.int 337) s=_ from rfl) (show eC (.int 16) s=_ from rfl) d) (show eC (.int 3) s=_ from rfl));by_cases q:v=3
 ·exact⟨W6,YZ (Zcx (goT ((t _ rfl).trans (by rw[decide_eq_true (by omega)])) (ret Zdp))),Zki,Zdq,by decide +kernel⟩
 ·obtain⟨W,c,ok,e,_,g⟩:=AL a Zl2;refine⟨W,?_,ok,e,by rw[We];omega⟩;show(Zm _ _ _).bind Oa=_;rw[B7 (FD ((t _ rfl).trans (by rw[decide_eq_false (by omega)])))];exact c
noncomputable def So(W:List (List Int)):Int:=((eW W).length:Int)-(W.length:Int)+1
theorem UZ{l:List Int}{n:Nat}(h:l.length=n)(c:n<=1000):YQ [pP l,.int (n:Int)]=ag (.bl aC):=by
 have c1:Zc W9 [Za 0,eC (.ty "tuple")] [ag (pP l),ag (.int (n:Int))]=ag (.bl aC):=by simp
 have c2:Zk (Xx aC) (Zc ZZ [Za 0]) (Za 1) [ag (pP l),ag (.int (n:Int))]=ag (.bl aB):=by
  have:Zc ZZ [Za 0] [ag (pP l),ag (.int (n:Int))]=ag (.int (n:Int)):=by show ag (PV.int ((iL l).length:Int))=_;rw[aL,h]
  rw[Vc,this];show Xx aC (.int (n:Int)) (.int (n:Int))=_;simp
 have a:T5 (Ke (Wj (xB (Zc W9 [Za 0,eC (.ty "tuple")]))) (xB (Zk (Xx aC) (Zc ZZ [Za 0]) (Za 1)))) (ZO (eP (eC (.bl aB)))) Yh [ag (pP l),ag (.int (n:Int))]=ag (.nx [ag (pP l),ag (.int (n:Int))]):=by rw[SU,G4,KU,IE,c1];simp only[aV,Zgo,dQ,Bool.not_true,Bool.false_eq_true,if_false];rw[IE,c2];rfl
 have b:Zt 1 [] (Ts (Za 0)) (.one 0) ZD (Zc Wv [Za 0]) [ag (pP l),ag (.int (n:Int))]=ag (.lst ((l.map λ_=>aC).map PV.bl)):=by rw[ZI l PV.int (λ_=>.bl aC) (S2 (by simp)) (by omega) (λi d=>⟨_,rfl,rfl,by simp[ZP,Ju]⟩),bQ];rfl
 show YL 2 T9 _=_;unfold T9;show(Zm _ _ [ag (pP l),ag (.int (n:Int))]).bind Oa=_
 rw[B7 a,Ao (v:=.bl aC) (by
  rw[Oc,XC,Zz,b];show(nB (MX [.lst ((l.map λ_=>aC).map PV.bl)]) λl=>if ZT l=aC then ag l else aA)=_;rw[IF];simp)]
 rfl
end PW
namespace PW
open PySem L2 VL VX PK
noncomputable def NJ(W:List (List Int)):List Int:=(aD W.length).map λh=>(Zx W h).sum/2-1
theorem DI{W:List (List Int)}(ok:ZA W):OI [wP W]=ag (pP (NJ W)):=by have b:=ok.few;exact YZ (ret (J2 (c1 (Vy (λh=>(Zx W h).sum/2-1) (Yl (c1 rfl Uk) (by omega)) (by omega) λi a=>⟨_,rfl,rfl,J4 (vdv (c2 rfl rfl (OZ a)) rfl) rfl⟩) (Oe _))))
theorem Zdr(W:List (List Int)):(NJ W).length=W.length:=by simp[NJ]
theorem DJ{W:List (List Int)}(ok:ZA W)(w:Sg W){P L:List Int}(f:P.length=W.length)(q:UT W P)(hs:P.sum=So W)(x:∀h,h<W.length->(Zr (QY (WU W P L) (NJ W)) h).natAbs<=2^208) :
  ∃(S:List Int) (T X:List Nat),X3 [wP W,pP (WU W P L)]=ag (.tup [pP (XN S),pP P,pP (nL T),pP (nL X)])/\S.length=W.length/\Gi W P T X/\∃c,∀i,i<W.length->Zr L i+Zr S i=c:=by
 have E:=ok.few;have k:=ok.pos;let D:=WU W P L;have a:D.length=W.length:=by show(WU W P L).length=_;rw[Xw,f]
 have o:D.sum=So W:=by show(WU W P L).sum=_;rw[Pg ok f,hs]
 have p:=AB ok w (D:=QY D (NJ W)) (b:=0) (by rw[Jx,a]) k x;have m:=AA (W:=W) (D:=QY D (NJ W)) (b:=0) k;generalize FL W (QY D (NJ W)) 0=S0 at p m;obtain⟨z,A,n⟩:=Zhm (λi=>Zr L i+Zr S0 i) k;have u:Way W P (Zr L) (Zr L z+Zr S0 z) S0 (WU W D S0):=by refine⟨m,by rw[Xw,a],by rw[Pg ok a,o,hs],λi j=>by have:=n i j;omega,⟨z,A,by omega⟩,λi j=>?_⟩;rw[Zhn _ _ j,Qu (by rw[a];exact j),show Zr D i=Zr P i+gN W (Zr L) i from Qu (by rw[f];exact j),Nc];omega
 obtain⟨T,X,s,t⟩:=Zdo ok f q
 suffices g:Yz Jp (ZK 7 [wP W,pP D]) λv=>∃S,v = .tup [pP (XN S),pP P,pP (nL T),pP (nL X)]/\S.length=W.length/\∃c,∀i,i<W.length->Zr L i+Zr S i=c by obtain⟨v,e,S,rfl,l,r⟩:=QD g;exact⟨S,T,X,e,l,t,r⟩
 have rt:WK [wP W,pP D]=ag .non:=Zj3 (FD (xb (o2 (c1 rfl (O0 D)) (c1 rfl (JN ok)) (by
  rw[T7];show ag (PV.bl (!decide (D.sum=So W)))=_;rw[decide_eq_true o];rfl))))
 refine ZR (Zj4 (c2 rfl rfl rt)) (ZR (Zp (c3 rfl (c2 rfl (c1 rfl (DI ok)) (Jw (by rw[Zdr,a]) (by rw[a];omega))) rfl p)) (ZR (Zp (c3 rfl rfl rfl (B3 ok a m))) (ZR (Zp (c2 rfl rfl (VB ok (by rw[Xw,a])))) (AV ok q f hs u λS C B d y=>ZR (Zp (c2 rfl rfl s)) (WW (ep (by
  rw[SS,Zz,c1 rfl (HU (l:=S) (by rw[d];exact k) (by rw[d];omega))];rfl) (by simp)) ⟨S,rfl,d,_,y⟩)))))
end PW
namespace PW
open L2 VL VX PK
theorem Nr(c:Int)(n:Nat)(f:Nat->Nat->Int):s2 n (λi j=>c*f i j)=c*s2 n f:=by unfold s2;rw[<-ZM];exact Zj λi _=>ZM _ _ _
theorem Zds(n:Nat)(f:Nat->Nat->Int):s2 n (λi j=>f j i)=s2 n f:=(Ub f n n).symm
theorem A8(n:Nat)(f:Nat->Int)(g:Nat->Nat->Int):s2 n (λi j=>f i*g i j)=sN n λi=>f i*sN n (g i):=Zj λi _=>ZM _ _ _
noncomputable def enE(n:Nat)(w:Nat->Nat->Int)(z:Nat->Int):Int:=s2 n λi j=>w i j*((z j-z i)*(z j-z i))
section
variable {n:Nat} {w:Nat->Nat->Int} (sy:∀a b,a<n->b<n->w a b=w b a)
include sy
theorem Zdt(z:Nat->Int):sN n (gw n w z)=0:=by
 have h:=HY n λi j=>w i j*(z j-z i)
 have e:s2 n (λi j=>w i j*(z j-z i)+w j i*(z i-z j))=0:=by
  exact YY λi b=>YY λj a=>by show w i j*(z j-z i)+w j i*(z i-z j)=0;rw[sy j i a b];grind
 have:sN n (gw n w z)=s2 n λi j=>w i j*(z j-z i):=rfl;omega
theorem Zdu(z:Nat->Int)(e:Int)(g:Nat->Bool):enE n w (λi=>z i+e*b1 (g i))=enE n w z-4*e*(sN n λi=>b1 (g i)*gw n w z i)+e*e*s2 n (λi j=>w i j*(b1 (g j)-b1 (g i))*(b1 (g j)-b1 (g i))):=by
 have h:enE n w (λi=>z i+e*b1 (g i))=enE n w z+(2*e)*s2 n (λi j=>w i j*(z j-z i)*(b1 (g j)-b1 (g i)))+(e*e)*s2 n (λi j=>w i j*(b1 (g j)-b1 (g i))*(b1 (g j)-b1 (g i))):=by
  unfold enE;rw[<-Nr,<-Nr,<-Sl,<-Sl];exact UR λi _ j _=>by grind
 have d:s2 n (λi j=>w i j*(z j-z i)*(b1 (g j)-b1 (g i))) = -2*s2 n λi j=>b1 (g i)*(w i j*(z j-z i)):=by
  have a:s2 n (λi j=>w i j*(z j-z i)*(b1 (g j)-b1 (g i)))=s2 n (λi j=>w i j*(z j-z i)*b1 (g j))+(-1)*s2 n (λi j=>b1 (g i)*(w i j*(z j-z i))):=by
   rw[<-Nr,<-Sl];exact UR λi _ j _=>by grind
  have b:s2 n (λi j=>w i j*(z j-z i)*b1 (g j))=(-1)*s2 n (λi j=>b1 (g i)*(w i j*(z j-z i))):=by
   rw[<-Zds,<-Nr];exact UR λi f j c=>by rw[sy j i c f];grind
  omega
 rw[h,d,A8];unfold gw;grind
end
theorem Kb:∀n:Nat,sN n (λ_=>1)=(n:Int)
 | 0=>rfl
 | n+1=>by show sN n (λ_=>1)+1=_;rw[Kb n];omega
theorem Zhx{d:Type}(f:d->Int)(h:∀a,0<=f a)(g:d):∃a,∀b,f a<=f b:=by
 have:∀(k:Nat)(a:d),(f a).toNat=k->∃a,∀b,f a<=f b:=λk=>by
  induction k using nH with
  | _ k ih=>
   intro a e;by_cases q:∃b,f b<f a
   ·obtain⟨b,i⟩:=q;have:=h b;exact ih (f b).toNat (by omega) b rfl
   ·exact⟨a,λb=>cN λc=>q ⟨b,by omega⟩⟩
 exact this _ g rfl
theorem Zdv{n:Nat}{w:Nat->Nat->Int}(e:∀a b,a<n->b<n->w a b=w b a)(g:Nat->Bool):2*sN n (λi=>b1 (g i)*sN n (w i))=2*qw n w g+s2 n (λi j=>w i j*(b1 (g j)-b1 (g i))*(b1 (g j)-b1 (g i))):=by
 have a:=(A8 n (λi=>b1 (g i)) w).symm;have b:=HY n λi j=>b1 (g i)*w i j
 have c:s2 n (λi j=>b1 (g i)*w i j+b1 (g j)*w j i)=2*qw n w g+s2 n (λi j=>w i j*(b1 (g j)-b1 (g i))*(b1 (g j)-b1 (g i))):=by
  unfold qw;rw[<-Nr,<-Sl]
  exact UR λi f j d=>by
   rw[e j i d f];unfold b1;cases g i<;>cases g j<;>simp<;>omega
 omega
theorem Zdw{W:List (List Int)}(ok:ZA W)(v:Sg W){D:List Int}(hd:D.length=W.length)(hs:D.sum=((eW W).length:Int)-(W.length:Int)+1):∃(S:Nat->Int) (P:List Int),P.length=W.length/\UT W P/\∀i,i<W.length->Zr P i=Zr D i+gN W S i:=by
 have s:=ok.pos;have p:=λa b F R=>ok.sym a b F R;let n:=(W.length:Int);let Y:=λh=>2*n*Zr D h-n*sN W.length (ZW W h)+(2*n-2);obtain⟨z,_,_,u⟩:=Dv ok v s Y;have w:=(Wx (HR ok v s Y) (aa _)).nz;generalize (WX (W.length-1) (Uo W 0 Y) (W.length-1)).2=d at u w
 have y:sN W.length Y=0:=by
  have q:=AU ok hd hs;have X:lw W.length (Zr D) (λ_=>aC)=D.sum+n:=by unfold lw;rw[Zj (g:=λi=>Zr D i+1) λi _=>by show 1*(Zr D i+1)=_;omega,Z1,Ng,hd,Kb]
  have Z:qw W.length (ZW W) (λ_=>aC)=sN W.length λi=>sN W.length (ZW W i):=UR λi _ j _=>by show 1*1*ZW W i j=_;omega
  unfold uW uw at q
  have e:sN W.length Y=(2*n)*sN W.length (Zr D)+(-n)*(sN W.length λi=>sN W.length (ZW W i))+(2*n-2)*sN W.length (λ_=>1):=by
   rw[<-ZM,<-ZM,<-ZM,<-Z1,<-Z1];exact Zj λi _=>by grind
  rw[e,Kb];have U:sN W.length (Zr D)=D.sum:=by rw[Ng,hd]
  grind
 have G:∀h,h<W.length->gN W z h = -(d*Y h):=λh I=>by
  by_cases q:h=0
  ·subst q;have a:=Ae (f:=gN W z) (g:=λh=>(-d)*Y h) s λx N M=>by rw[u x N M];grind
   have b:sN W.length (gN W z)=0:=Zdt p z;rw[ZM,y,b] at a;grind
  ·exact u h I q
 obtain⟨S,L⟩:=Zhx (λS:Nat->Int=>enE W.length (ZW W) (λi=>z i + -(2*n*d)*S i)) (λS=>Vz λi m=>Vz λj B=>iI (ok.lo i j m B) (by
  rcases Int.le_total 0 ((z j + -(2*n*d)*S j)-(z i + -(2*n*d)*S i)) with q | q
  ·exact iI q q
  ·exact Int.mul_nonneg_of_nonpos_of_nonpos q q)) λ_=>0
 let P:=(aD W.length).map λi=>Zr D i+gN W S i;refine⟨S,P,by simp[P],λg E=>?_,λi m=>ZC m⟩;have o:=L λi=>S i-b1 (g i);have J:enE W.length (ZW W) (λi=>z i + -(2*n*d)*(S i-b1 (g i)))=enE W.length (ZW W) (λi=>(z i + -(2*n*d)*S i)+(2*n*d)*b1 (g i)):=by congr 1;funext i;grind
 rw[J,Zdu p] at o;have c1:=Zdv p g;generalize T:s2 W.length (λi j=>ZW W i j*(b1 (g j)-b1 (g i))*(b1 (g j)-b1 (g i)))=C at o c1
 have H:sN W.length (λi=>b1 (g i)*gw W.length (ZW W) (λi=>z i + -(2*n*d)*S i) i)=(-d)*((2*n)*lw W.length (Zr P) g+(-n)*sN W.length (λi=>b1 (g i)*sN W.length (ZW W i))+(-2)*sN W.length λi=>b1 (g i)):=by
  unfold lw;rw[<-ZM,<-ZM,<-ZM,<-Z1,<-Z1,<-ZM];refine Zj λi m=>?_;have a:gw W.length (ZW W) (λi=>z i + -(2*n*d)*S i) i=gN W z i + -(2*n*d)*gN W S i:=by show gN W (λi=>z i + -(2*n*d)*S i) i=_;rw[Nc,HQ]
  have b:Zr P i=Zr D i+gN W S i:=ZC m;grind
 rw[H] at o;have k1:1<=sN W.length λi=>b1 (g i):=by obtain⟨i,m,O⟩:=E;have:=Qv (f:=λi=>b1 (g i)) (λi _=>Ai _) m;rw[O] at this;exact this
 have ev:=L5 (D:=P) ok g
 have A:0<uW W P g:=by
  unfold uW uw;generalize lw W.length (Zr P) g=l at o ⊢;generalize qw W.length (ZW W) g=q at c1 ⊢;generalize sN W.length (λi=>b1 (g i)*sN W.length (ZW W i))=t at o c1;generalize (sN W.length λi=>b1 (g i))=k at o k1
  have Q:0<d*d:=by
   rcases Int.lt_or_gt_of_ne w with q | q
   ·exact Int.mul_pos_of_neg_of_neg q q
   ·exact Int.mul_pos q q
  have m3:0<=(4*n*(d*d))*(2*n*(2*l-q)-4*k):=by
   have:(4*n*(d*d))*(2*n*(2*l-q)-4*k) = - (4*(2*n*d)*((-d)*((2*n)*l+(-n)*t+(-2)*k)))+2*n*d*(2*n*d)*C:=by grind
   omega
  refine cN λc=>?_;have m4:2*n*(2*l-q)<=0:=Int.mul_nonpos_of_nonneg_of_nonpos (by omega) (by omega);have m5:(4*n*(d*d))*(2*n*(2*l-q)-4*k)<0:=Int.mul_neg_of_pos_of_neg (Int.mul_pos (by omega) Q) (by omega);omega
 omega
end PW
namespace PW
open PK
noncomputable def byH(h:List Nat):Nat->Nat->Nat->Bool:=λk g _=>decide (hd h k=g)
structure HInv(E:List ZL)(h:List Nat)(s:WS):Prop where
 out:∀k∈s.L,∀g,atE E g k=aC->g∉s.F->hd h k≠g
 bur:∀x∈s.B,hd h x.1=x.2.1
theorem HInv.step{E:List ZL}{h:List Nat}{s:WS}{k:Nat}(i:HInv E h s)(l:UW E s.L s.F=ag k):HInv E h (VC E (byH h) s k):=by
 obtain⟨p,_,o,f,m⟩:=Gb l;unfold VC;split
 ·rename_i c;have c:=of_decide_eq_true c;refine⟨λj d g a b=>?_,λx n=>?_⟩
  ·rcases ah.mp d with z | z
   ·exact i.out j z g a λw=>b (bA _ w)
   ·rw[aN.mp z,c];exact λw=>b (by rw[<-w];simp)
  ·rcases ah.mp n with z | z
   ·exact i.bur x z
   ·rw[aN.mp z];exact c
 ·rename_i c;have c:=λz=>c (decide_eq_true z);refine⟨λj d g a b=>?_,i.bur⟩;rcases ah.mp d with z | z
  ·exact i.out j z g a b
  ·rw[aN.mp z] at a ⊢
   have:g=Up E s.F k:=by
    unfold atE at a;rcases m with e | e
    ·rw[e] at a;simp at a;rcases a with rfl | rfl
     ·exact absurd f b
     ·rfl
    ·rw[e] at a;simp at a;rcases a with rfl | rfl
     ·rfl
     ·exact absurd f b
   rw[this];exact c
theorem HInv.walk{E:List ZL}{h:List Nat}:∀{m:Nat}{s:WS},HInv E h s->HInv E h (Xc E (byH h) m s)
 | 0,s,i=>i
 | m+1,s,i=>by
  unfold Xc;split
  ·rename_i k a;exact HInv.walk (i.step a)
  ·exact i
theorem HInv.start{E:List ZL}{h:List Nat}{b:Nat}:HInv E h (Kg b):=⟨λk a=>by simp[Kg] at a,λx c=>by simp[Kg] at c⟩
theorem DK{E:List ZL}{n b:Nat}{h:List Nat}{q:Nat->Int}{s:WS}(o:HOk E h)(u:∀e∈E,e.1<n/\e.2<n)(w:WInv E n b s)(i:HInv E h s)(N:UW E s.L s.F=aA)(D:∀v,v<n->(h.count v:Int)=q v)
  (M:∀G:List Nat,G.Nodup->(∀g∈G,g<n)->G≠[]->b∉G->Um G E<(G.map q).sum):∀v,v<n->v∈s.F:=λv L=>by
 refine cN λc=>?_;let G:=(aD n).filter λg=>decide (g∉s.F);have j:∀g,g∈G↔g<n/\g∉s.F:=λg=>by simp[G]
 have p:G.Nodup:=dt.filter _;have B:b∈s.F:=by rw[w.hB];simp
 have C:=M G p (λg l=>((j g).mp l).1) (jQ ((j v).mpr ⟨L,c⟩)) λz=>((j b).mp z).2 B;have H:(G.map q).sum=(G.map λg=>((h.count g:Nat):Int)).sum:=by congr 1;exact ar λg l=>(D g ((j g).mp l).1).symm
 rw[H,Ru p h] at C
 have O:(h.map λx=>b1 (decide (x∈G))).sum<=Um G E:=by
  have I:h.map (λx=>b1 (decide (x∈G)))=(aD E.length).map λk=>b1 (decide (hd h k∈G)):=by
   conv=>lhs;rw[<-hd_list (h:=h),o.len]
   rw[bQ];rfl
  have F:E.map (λe=>b1 (Ak G e))=(aD E.length).map λk=>b1 (Ak G (Zy E k)):=by
   conv=>lhs;rw[<-Rt E (0,0)]
   rw[bQ];rfl
  unfold Um;rw[I,F];refine L6 λk f=>?_;have f:=aW.mp f;have m:Zy E k∈E:=by unfold Zy;rw[aF,aJ f];exact bT f
  by_cases z:hd h k∈G
  ·obtain⟨_,d⟩:=(j _).mp z
   have J:atE E (hd h k) k=aC:=by
    unfold atE;rcases o.at' k f with y | y<;>simp[y]
   have a:(Zy E k).1∉s.F/\(Zy E k).2∉s.F:=by
    by_cases A:k∈s.L
    ·exact absurd rfl (i.out k A _ J d)
    ·have:=DC N f A;rcases o.at' k f with y | y
     ·rw[y] at d;exact⟨d,λt=>d (this.mpr t)⟩
     ·rw[y] at d;exact⟨λt=>d (this.mp t),d⟩
   have:Ak G (Zy E k)=aC:=by unfold Ak;rw[decide_eq_true ((j _).mpr ⟨(u _ m).1,a.1⟩),decide_eq_true ((j _).mpr ⟨(u _ m).2,a.2⟩)];rfl
   rw[this];exact Aj _
  ·rw[decide_eq_false z];exact Ai _
 omega
theorem JZ{v:Nat}:∀{l:List Nat},l.Nodup->v∈l->l.count v=1
 | x::l,nd,h=>by
  obtain⟨a,b⟩:=aw.mp nd;rcases aX.mp h with rfl | z
  ·rw[List.count_cons_self,mH.mpr a]
  ·rw[List.count_cons_of_ne (λw=>a (by rw[w];exact z)),JZ b z]
theorem DL{E:List ZL}{n b:Nat}{h:List Nat}{s:WS}(o:HOk E h)(w:WInv E n b s)(i:HInv E h s)(all:∀v,v<n->v∈s.F){T:List Nat}(g:T.Perm (s.B.map (·.1)))(v:Nat)(u:v<n) :
  (((((aD E.length).filter λk=>!decide (k∈T)).map (hd h)).count v:Nat):Int)=(h.count v:Int)-if v=b then 0 else 1:=by
 have p:(h.count v:Int)=((((aD E.length).filter λk=>decide (k∈T)).map (hd h)).count v:Nat)+((((aD E.length).filter λk=>!decide (k∈T)).map (hd h)).count v:Nat):=by
  have a:h=(aD E.length).map (hd h):=by rw[<-o.len];exact hd_list.symm
  have c:∀l:List Nat,(l.map (hd h)).count v=((l.filter λk=>decide (k∈T)).map (hd h)).count v+((l.filter λk=>!decide (k∈T)).map (hd h)).count v:=λl=>by
   induction l with
   | nil=>rfl
   | cons x l ih=>
    by_cases z:x∈T
    ·simp[z,fT,ih];omega
    ·simp[z,fT,ih];omega
  have e:h.count v=((aD E.length).map (hd h)).count v:=by conv=>lhs;rw[a]
  rw[e,c];omega
 have q:(((aD E.length).filter λk=>decide (k∈T)).map (hd h)).count v=if v=b then 0 else 1:=by
  have m:=(List.perm_ext_iff_of_nodup (dt.filter _) w.ndB).mpr λk=>by
   rw[cQ,aW];constructor
   ·exact λz=>g.mem_iff.mp (of_decide_eq_true z.2)
   ·intro z;obtain⟨x,d,rfl⟩:=bJ.mp z;exact⟨w.ltL _ (w.bl x d),decide_eq_true (g.mem_iff.mpr z)⟩
  rw[(m.map (hd h)).count_eq v,bQ];have e:s.B.map (hd h ∘ (·.1))=s.B.map (·.2.1):=ar λx d=>i.bur x d;rw[e];have f:=w.ndF;have j:=all v u;rw[w.hB] at f j;obtain⟨A,t⟩:=aw.mp f;by_cases z:v=b
  ·rw[oX z,z];exact mH.mpr A
  ·rw[oY z];rcases aX.mp j with y | y
   ·exact absurd y z
   ·exact JZ t y
 rw[p,q];split<;>omega
end PW
namespace PW
open L2 VL VX PK
theorem DM{W:List (List Int)}(ok:ZA W){P:List Int}(p:P.length=W.length)(L:UT W P)(hs:P.sum=So W){T X:List Nat}(m:Gi W P T X) :
  isT W T=aC/\Y5 W.length X=P/\∃h,HOk (eW W) h/\X=((aD (eW W).length).filter λk=>!decide (k∈T)).map (hd h):=by
 obtain⟨h,o,le,rfl,rfl⟩:=m;have t:=ok.pos;have n:∀e∈eW W,e.1<W.length/\e.2<W.length:=TR;let s:=Xc (eW W) (byH h) (eW W).length (Kg 0);have u:WInv (eW W) W.length 0 s:=WInv.walk n (WInv.start t);have A:HInv (eW W) h s:=HInv.walk HInv.start;have O:UW (eW W) s.L s.F=aA:=Nk n (WInv.start t) (by simp)
 have sq:∀G:List Nat,G.Nodup->(∀g∈G,g<W.length)->(G.map (Zr (TU W P))).sum=(G.map (Zr P)).sum+(G.length:Int)-b1 (decide (0∈G)):=λG=>by
  induction G with
  | nil=>intro _ _;rfl
  | cons x G ih=>
   intro d lt;obtain⟨M,I⟩:=aw.mp d;simp only[ak,bp,bK];rw[ih I λg f=>lt g (by simp[f]),Nq p (lt x (by simp))];by_cases z:x=0
   ·subst z;simp[M,b1];omega
   ·have:(0∈x::G)↔0∈G:=by simp[bP z]
    simp only[this];omega
 have N:(h.length:Int)=((aD W.length).map (Zr (TU W P))).sum:=by
  rw[sq _ dt λg f=>aW.mp f,XY,bt,decide_eq_true (aW.mpr t),o.len];have:sN W.length (Zr P)=P.sum:=by rw[Ng,p]
  rw[this,hs];unfold So;show _=_-1;omega
 have cl:((aD W.length).map λg=>((h.count g:Nat):Int)).sum=(h.length:Int):=by
  rw[Ru dt]
  have j:∀x∈h,x<W.length:=λx j=>by
   obtain⟨k,B,rfl⟩:=cq j;have b:k<(eW W).length:=by rw[<-o.len];exact B
   have e:hd h k=h[k]:=by unfold hd;rw[aF,aJ B];rfl
   have w:Zy (eW W) k∈eW W:=by unfold Zy;rw[aF,aJ b];exact bT b
   rw[<-e];rcases o.at' k b with y | y<;>rw[y]
   ·exact(n _ w).1
   ·exact(n _ w).2
  have:∀l:List Nat,(∀x∈l,x<W.length)->(l.map λx=>b1 (decide (x∈aD W.length))).sum=(l.length:Int):=λl=>by
   induction l with
   | nil=>intro _;rfl
   | cons x l ih=>
    intro E;rw[ak,bp,ih λy J=>E y (by simp[J]),decide_eq_true (aW.mpr (E x (by simp))),bK];show(1:Int)+_=_;omega
  exact this h j
 have C:∀v,v<W.length->(h.count v:Int)=Zr (TU W P) v:=λv a=>by refine cN λc=>?_;have:=H9 (λx j=>le x (aW.mp j)) (aW.mpr a) (by have:=le v a;show(h.count v:Int)<_;omega);omega
 have all:=DK o n u A O C λG d lt ne F=>by have q:=L (λi=>decide (i∈G)) (by obtain⟨g,f⟩:=gH G ne;exact⟨g,lt g f,decide_eq_true f⟩);have H:=HZ (D:=Zr P) d lt (by rw[To ok d lt];omega);have Q:=To ok d lt;unfold uW at q;rw[<-H] at q;unfold Kf at q;rw[sq G d lt,decide_eq_false F];show _<_-0;omega
 refine⟨A2 ok u all,?_,h,o,by rw[o.len]⟩;refine Ua (by rw[WZ,p]) λv a=>?_;rw[WZ] at a;rw[Tp a,o.len];have:=DL o u A all (MB (s.B.map (·.1))) v a;refine Eq.trans this ?_;rw[C v a,Nq p a];split<;>omega
structure Led(W:List (List Int))(D F P:List Int)(T X:List Nat):Prop where
 eq:X3 [wP W,pP D]=ag (.tup [pP F,pP P,pP (nL T),pP (nL X)])
 lF:F.length=W.length
 low:Wa F=0
 lP:P.length=W.length
 run:WU W D F=P
 tr:isT W T=aC
 coin:Y5 W.length X=P
 hds:∃h,HOk (eW W) h/\X=((aD (eW W).length).filter λk=>!decide (k∈T)).map (hd h)
theorem Gj{W:List (List Int)}(ok:ZA W)(p:Sg W){D:List Int}(hd:D.length=W.length)(hs:D.sum=So W)(E:∀h,h<W.length->(Zr (QY D (NJ W)) h).natAbs<=2^208):∃F P T X,Led W D F P T X:=by
 have H:=ok.pos;obtain⟨U,P,b,q,eP⟩:=Zdw ok p hd hs;let L:=(aD W.length).map λi=>(-1)*U i;have f:∀i,i<W.length->Zr L i=(-1)*U i:=λi a=>ZC a;have n:WU W P L=D:=Ua (by rw[Xw,b,hd]) λi a=>by rw[Xw,b] at a;rw[Qu (by rw[b];exact a),Nd a f,HQ,eP i a];omega
 have o:P.sum=So W:=by rw[<-hs,<-n,Pg ok b]
 obtain⟨S,T,X,s,k,u,c,C⟩:=DJ ok p b q o (by rw[n];exact E);rw[n] at s;obtain⟨w,G,v⟩:=DM ok b q o u;have A:(XN S).length=W.length:=by rw[Sh,k]
 have ne:S≠[]:=λz=>by rw[z] at k;simp at k;omega
 refine⟨XN S,P,T,X,s,A,?_,b,?_,w,G,v⟩
 ·have t:=U7 ne;obtain⟨i,a,e⟩:=cq t.1;have y:Zr S i=Wa S:=by rw[<-e];unfold Zr;rw[aF,aJ a];rfl
  refine G9 ?_ λx B=>?_
  ·have:Zr (XN S) i=0:=by rw[Si a,y];omega
   rw[<-this];unfold Zr;rw[aF,aJ (by rw[Sh];exact a)];exact bT _
  ·obtain⟨j,l,rfl⟩:=cq B;have d:j<S.length:=by rw[Sh] at l;exact l
   have:(XN S)[j]=Zr S j-Wa S:=by rw[<-Si d];unfold Zr;rw[aF,aJ l];rfl
   have:=t.2 (Zr S j) (by unfold Zr;rw[aF,aJ d];exact bT _);omega
 ·refine Ua (by rw[Xw,hd,b]) λi a=>?_;rw[Xw,hd] at a;rw[Qu (by rw[hd];exact a),eP i a];congr 1;have e:∀g,g<W.length->Zr (XN S) g=U g+(c-Wa S):=λg m=>by rw[Si (by rw[k];exact m)];have:=C g m;rw[f g m] at this;omega
  rw[Nd a e,Nc,Nf (λ_ _=>rfl) a];omega
abbrev stT(W:List (List Int))(Y:PV)(m:Nat->Nat)(x4 x5:Option PV):ZG:=[ag (wP W),ag Y,ag (.lst ((eW W).map Sj)),ag (.lst (iL (JO W.length m))),x4,x5]
theorem J0:∀{T:List ZL}{m:Nat->Nat}{e:ZL},Xf m (T++[e])=ZN (Xf m T) e.1 e.2
 | [],_,_=>rfl
 | e::T,m,_=>J0 (T:=T) (m:=ZN m e.1 e.2)
theorem Kc{W:List (List Int)}(ok:ZA W){K:List Nat}(t:isT W K=aC):Vi [wP W,pP (nL K)]=ag (.bl aC):=by
 have N:=ok.few;unfold isT at t;simp only[bC,decide_eq_true_eq] at t;obtain⟨⟨O,J⟩,w,o⟩:=t;have G:∀k∈K,k<(eW W).length:=λk c=>of_decide_eq_true (bN.mp J k c);have one:=Zhr o ok.pos;have F:(nL K).length=K.length:=by simp[nL]
 have L:Xa (nL K)=nL K:=(S6 (nt _) (by rw[w];exact V4 _)).symm;refine QE (ZR (FD (xo (xn (p:=aC) (xb (c2 (a:=pP (nL K)) (b:=.ty "tuple") rfl rfl rfl))) (xo (xn (p:=aC) (xb (c1 (ZI (nL K) PV.int (λ_=>.bl aC) (S2 (l:=iL (nL K)) rfl) (by omega) λi h=>⟨_,rfl,rfl,c1 rfl (Ju i)⟩) ?_))) (xb (o2 (a:=.int (K.length:Int)) (b:=.int ((W.length:Int)-1)) (c1 rfl ?_) (J4 (c1 rfl Uk) rfl) ?_))))) (ZR (Zp (c1 rfl (Mz ok).1)) (ZR (s1:=stT W (pP (nL K)) (λx=>x) aA aA) (Zp (un1 (c1 rfl Uk) ?_)) (Wf (Ar (X:=K) (λi s=>∃u y,s=stT W (pP (nL K)) (Xf (λx=>x) ((K.take i).map (Zy (eW W)))) u y) rfl ⟨aA,aA,rfl⟩ ?_) ?_))))
 ·rw[show(nL K).map (λ_=>PV.bl aC)=((nL K).map λ_=>aC).map PV.bl by rw[bQ];rfl,IF];simp
 ·show ag (PV.int ((iL (nL K)).length:Int))=_;rw[aL,F]
 ·rw[T7,decide_eq_true (show(K.length:Int)=(W.length:Int)-1 by omega)];rfl
 ·show(if 0<=(W.length:Int)/\(W.length:Int)<=10000 then ag (PV.lst (iL ((aD (W.length:Int).toNat).map λ(i:Nat)=>(i:Int)))) else aA)=_;rw[oX ⟨by omega,by omega⟩,cC];rfl
 ·rintro i s h ⟨u,y,rfl⟩;have c:=G _ (bT h)
  have ne:=Zdi (n:=W.length) (T:=K.map (Zy (eW W))) ok.pos (λe M=>by
   obtain⟨j,I,rfl⟩:=bJ.mp M;exact TR _ (L8 (G j I))) (by rw[aL];omega) (λx E=>one x E) (A:=(K.take i).map (Zy (eW W))) (e:=Zy (eW W) K[i]) (B:=(K.drop (i+1)).map (Zy (eW W))) (by rw[<-ak,<-bM,List.getElem_cons_drop,k6])
  have f:=TR _ (L8 c);have d:=FX c;have D:Xf (λx=>x) ((K.take (i+1)).map (Zy (eW W)))=ZN (Xf (λx=>x) ((K.take i).map (Zy (eW W)))) (Zy (eW W) K[i]).1 (Zy (eW W) K[i]).2:=by rw[dM h,bM];exact J0
  generalize Xf (λx=>x) ((K.take i).map (Zy (eW W)))=m at ne D ⊢;generalize K[i]=k at *;generalize Zy (eW W) k=e at *;obtain⟨a,b⟩:=e;have g:∀z:Nat,z<W.length->ZJ (.lst (iL (JO W.length m))) (.int (z:Int))=ag (.int (m z:Int)):=λz H=>by rw[Zex (Zdd W.length m) z H,Zde H]
  refine Yc (FD (xo (xb ((vlt (a:=k) (b:=0) rfl rfl).trans (by rw[decide_eq_false (by omega)]))) (xo (xb ((vge (a:=(k:Int)) rfl (c1 rfl (Ze2 (W:=W)))).trans (by rw[decide_eq_false (by omega)]))) (xb ((Dr (o2 rfl (o2 (o2 rfl rfl d) rfl rfl) (g a f.1)) (o2 rfl (o2 (o2 rfl rfl d) rfl rfl) (g b f.2))).trans (by rw[decide_eq_false (by have:m a≠m b:=ne;omega)])))))) (Yc (Zp (ep (o2 rfl (o2 (o2 rfl rfl d) rfl rfl) (g a f.1)))) (QG (Zp (v:=.lst (iL (JO W.length (ZN m a b)))) ((ZI (aD W.length) (λx=>.int (m x:Int)) (λx=>.int (ZN m a b x:Int)) ?_ (by simp;omega) λx E=>⟨_,rfl,rfl,ep ?_⟩).trans ?_)) ⟨_,_,by rw[D];rfl⟩))
  ·show ag (iL (JO W.length m))=_;unfold JO;rw[Mx]
  ·unfold ZN;by_cases q:m x=m a
   ·rw[oX q];exact O7 (xb ((Dr rfl rfl).trans (by rw[decide_eq_true (by omega)]))) (o2 rfl (o2 (o2 rfl rfl d) rfl rfl) (g b f.2))
   ·rw[oY q];exact O8 (xb ((Dr rfl rfl).trans (by rw[decide_eq_false (by omega)]))) rfl
  ·unfold JO;rw[Mx]
 ·rintro s ⟨u,y,rfl⟩
  exact WW (ep (o2 (a:=.lst (iL (nL K))) (b:=.lst (iL (nL K))) (c1 rfl (by
   show(if ZE (iL (nL K))=aC then ag (PV.lst (iL (nL K))) else aA)=_
   rw[oX (Z5 _)])) (c1 rfl (by
   show(Yj (iL (nL K))).bind (λC=>if C.length<64 then ag (PV.lst (iL (Xa C))) else aA)=_;rw[Yd,aV,oX (by rw[F];omega),L])) (by rw[Zgq];simp))) rfl
theorem Zdx{W:List (List Int)}{T X:List Nat}{h:List Nat}(o:HOk (eW W) h)(m:(eW W).length<=441)(c:X=((aD (eW W).length).filter λk=>!decide (k∈T)).map (hd h)){s:ZG}{f g:XE}(j:f s=ag (pP (nL X)))(e:g s=ag (.lst ((Sk W T).map Sj))) :
  Zt 2 [] (SM aB aC [f,g]) (.many [0,1]) ZD (Zk (Nw aB) (Za 0) (Za 1)) s=ag (.lst ((X.map λ_=>aC).map PV.bl)):=by
 let I:=(aD (eW W).length).filter λk=>!decide (k∈T);have l:∀k∈I,k<(eW W).length:=λk a=>aW.mp (cQ.mp a).1
 have d:Sk W T=I.map (Zy (eW W)):=by
  unfold Sk Al;congr 1;exact md λk _=>by simp
 have z:SM aB aC [f,g] s=ag (I.map λk=>.tup [.int (hd h k:Int),Sj (Zy (eW W) k)]):=by rw[C5,j,e];show ag (Tt (iL (nL X)) ((Sk W T).map Sj))=_;rw[d,c];congr 1;show Tt (((I.map (hd h)).map λ(i:Nat)=>(i:Int)).map PV.int) ((I.map (Zy (eW W))).map Sj)=_;unfold Tt;rw[bQ,bQ,bQ,List.zip_map',bQ];rfl
 have n:I.length<=441:=bO (k7 _ _) (by rw[bt];exact m);rw[ZI I (λk=>.tup [.int (hd h k:Int),Sj (Zy (eW W) k)]) (λ_=>.bl aC) z (by omega) (λk a=>⟨[ag (.int (hd h k:Int)),ag (Sj (Zy (eW W) k))],rfl,rfl,?_⟩)]
 ·rw[c,bQ,bQ];rfl
 ·refine o2 (b:=pP [((Zy (eW W) k).1:Int),((Zy (eW W) k).2:Int)]) rfl rfl ?_;rw[JP];rcases o.at' k (l k a) with y | y<;>rw[y]<;>simp
theorem Gk{W:List (List Int)}(ok:ZA W){D F P:List Int}{T X:List Nat}(i:D.length=W.length)(L:Led W D F P T X):XG [wP W,pP D,.tup [pP F,pP P,pP (nL T),pP (nL X)]]=ag (.bl aC):=by
 have E:=ok.few;have G:=ok.pos;obtain⟨h,o,d⟩:=L.hds;have j:(eW W).length<=441:=by rw[We];exact(Y4 ok).2
 let R:PV:=.tup [pP F,pP P,pP (nL T),pP (nL X)];let st:=λx=>[ag (wP W),ag (pP D),ag R,x];have g:∀x,Zc ZZ [Za 0] (st x)=ag (.int (W.length:Int)):=λx=>c1 rfl (by simp);have m:Wj (xB (Zc W9 [Za 2,eC (.ty "tuple")])) (st aA)=ag aB:=xn (p:=aC) (xb (c2 rfl rfl rfl));have n:xB (Zk (Xx aC) (Zc ZZ [Za 2]) (eC (.int 4))) (st aA)=ag aB:=xb (o2 (c1 rfl rfl) rfl (by simp));have u:Wj (xB (Zc YQ [Zk ZJ (Za 2) (eC (.int 0)),Zc ZZ [Za 0]])) (st aA)=ag aB:=xn (xb (c2 rfl (g _) (UZ L.lF (by omega))));have b1:Wj (xB (Zc YQ [Zk ZJ (Za 2) (eC (.int 1)),Zc ZZ [Za 0]])) (st aA)=ag aB:=xn (xb (c2 rfl (g _) (UZ L.lP (by omega))))
 have q:xB (Zk (Xx aC) (Zc Fc [Zk ZJ (Za 2) (eC (.int 0))]) (eC (.int 0))) (st aA)=ag aB:=xb (o2 (a:=.int 0) (c1 rfl (by
  rw[<-L.low];exact Fe Wa (λz=>by have:=L.lF;rw[z] at this;simp at this;omega))) rfl (by simp))
 have v:xB (Zk (Xx aC) (Zc S8 [Za 0,Za 1,Zk ZJ (Za 2) (eC (.int 0))]) (Zk ZJ (Za 2) (eC (.int 1)))) (st aA)=ag aB:=neq (c3 rfl rfl rfl (by
  rw[<-L.run];exact HX ok i (λk c=>Ys (by rw[i];exact c)) λk c=>Ys (by rw[L.lF];exact c))) rfl
 have A:Wj (xB (Zc Vi [Za 0,Zk ZJ (Za 2) (eC (.int 2))])) (st aA)=ag aB:=xn (xb (c2 rfl rfl (Kc ok L.tr)));have w:Zu 3 (Zc Vf [Za 0,Zk ZJ (Za 2) (eC (.int 2))]) (st aA)=ag (.nx (st (ag (.lst ((Sk W T).map Sj))))):=Zp (c2 rfl rfl (LX ok λk=>O5))
 have l:(nL X).length=(Sk W T).length:=by
  rw[d];unfold Sk Al nL;rw[aL,aL,aL];congr 1;exact md λk _=>by simp
 have C:(Sk W T).length<=441:=bO AM j;have B:Wj (xB (Zc YQ [Zk ZJ (Za 2) (eC (.int 3)),Zc ZZ [Za 3]])) (st (ag (.lst ((Sk W T).map Sj))))=ag aB:=xn (xb (c2 rfl (c1 rfl (by simp)) (UZ l (by omega))));have s:Wj (xB (Zc MX [Zt 2 [] (SM aB aC [Zk ZJ (Za 2) (eC (.int 3)),Za 3]) (.many [0,1]) ZD (Zk (Nw aB) (Za 0) (Za 1))])) (st (ag (.lst ((Sk W T).map Sj))))=ag aB:=xn (p:=aC) (xb (c1 (Zdx o j d rfl rfl) (by rw[IF];simp)))
 have e:∀x∈X,x<W.length:=λx f=>by
  rw[d] at f;obtain⟨k,c,rfl⟩:=bJ.mp f;have b:=aW.mp (cQ.mp c).1;have:Zy (eW W) k∈eW W:=by unfold Zy;rw[aF,aJ b];exact bT b
  rcases o.at' k b with y | y<;>rw[y]
  ·exact(TR _ this).1
  ·exact(TR _ this).2
 have t:Zk (Xx aB) (Zc Ta [Za 0,Zk ZJ (Za 2) (eC (.int 3))]) (Zk ZJ (Za 2) (eC (.int 1))) (st (ag (.lst ((Sk W T).map Sj))))=ag (.bl aC):=eqt (c2 rfl rfl (by
  rw[<-L.coin];exact HW ok e)) rfl
 exact YZ (sq (FD (xo m (xo n u))) (sq (FD (xo b1 (xo q v))) (sq (FD A) (sq w (sq (FD B) (sq (FD s) (ret (ep t))))))))
theorem QM{m:Int}(a : -1000<=m)(b:m<=1000):Jb (.int m)=aC:=by refine decide_eq_true ?_;have:m.natAbs.log2<=1000:=bO (Nat.log2_le_self _) (by omega);omega
theorem Gm{W:List (List Int)}(ok:ZA W){D:List Int}(c:D.sum≠So W)(b : -1000<=D.sum)(d:D.sum<=1000):Vw [wP W,pP D]=ag (("NoTotal" : oJ),PV.int D.sum):=by
 show Jc (Mm Yg [Za 0,Za 1]) Om yNo [ag (wP W),ag (pP D),aA,aA,aA,aA,aA]=_
 have:Mm Yg [Za 0,Za 1] [ag (wP W),ag (pP D),aA,aA,aA,aA,aA]=ag (("NoTotal" : oJ),PV.int D.sum):=by
  show yIf _ _ _ [ag (wP W),ag (pP D)]=_;unfold yIf
  have t:xB (Zk (Xx aC) (Zc Xr [Za 1]) (Zc Vd [Za 0])) [ag (wP W),ag (pP D)]=ag aC:=xb (o2 (c1 rfl (O0 D)) (c1 rfl (JN ok)) (by
   rw[T7];show ag (PV.bl (!decide (D.sum=So W)))=_;rw[decide_eq_false c];rfl))
  rw[t];show RW "NoTotal" (Zc Xr [Za 1]) [ag (wP W),ag (pP D)]=_;unfold RW;have a:Zc Xr [Za 1] [ag (wP W),ag (pP D)]=ag (.int D.sum):=c1 rfl (O0 D);rw[a,aV,oX (QM b d)]
 unfold Jc;rw[this]
theorem NK{W:List (List Int)}(ok:ZA W){D:List Int}(c:D.sum≠So W)(a : -1000<=D.sum)(b:D.sum<=1000):Xt [wP W,pP D]=ag (.int D.sum):=by
 have e:sOr (Jd Vw [Za 0,Za 1] 2 (ZO (eP (Je "NoTotal" (Za 2))))) (sEx (Zc X3 [Za 0,Za 1])) [ag (wP W),ag (pP D),aA]=ag (.rt (.int D.sum)):=by
  unfold sOr Jd;rw[show SG [Za 0,Za 1] [ag (wP W),ag (pP D),aA]=ag [wP W,pP D] from rfl,aV,Gm ok c a b,aV];have f:Je "NoTotal" (Za 2) ([ag (wP W),ag (pP D),aA].set 2 (ag (.exf "NoTotal" (.int D.sum))))=ag (.int D.sum):=by show(if("NoTotal" : oJ) = "NoTotal"/\Jb (.int D.sum)=aC then ag (PV.int D.sum) else aA)=_;rw[oX ⟨rfl,QM a b⟩]
  rw[ret (ep f)];rfl
 exact YZ (Zcx e)
theorem Nt{W:List (List Int)}(ok:ZA W):U9 [wP W]=ag (.int (So W)):=by
 have g:=ok.few;have f:Zt 1 [] (Ts (Za 0)) (.one 0) ZD (Zc VQ [Za 0]) [ag (wP W)]=ag (.lst (iL (W.map λr=>r.sum))):=by rw[ZI W pP (λr=>.int r.sum) rfl (by omega) (λr _=>⟨[ag (pP r)],rfl,rfl,CY r⟩),Mx]
 have e:(W.map λr=>r.sum).sum=2*((Yo W).length:Int):=by
  rw[<-JA ok];congr 1;apply iC;intro i;by_cases c:i<W.length
  ·rw[aU,aU,bz c,aJ c];unfold Zx;simp[aF,aJ c]
  ·rw[cK (by simp;omega),cK (by simp;omega)]
 have d:Zk SA (Zc VQ [Zt 1 [] (Ts (Za 0)) (.one 0) ZD (Zc VQ [Za 0])]) (eC (.int 2)) [ag (wP W)]=ag (.int ((Yo W).length:Int)):=by rw[vC (C:=Eb) (op:=(· / ·)) (a:=2*((Yo W).length:Int)) (b:=2) (c1 f (by rw[M7,e])) rfl ⟨by decide,by decide⟩];congr 2;show 2*((Yo W).length:Int)/2=_;omega
 refine YZ (ret (vP ?_));unfold So;rw[We];exact vI (op:=(· + ·)) (vI (op:=(· - ·)) d (c1 rfl (by show ag (PV.int ((W.map pP).length:Int))=_;rw[aL]))) rfl
theorem DN{W:List (List Int)}(ok:ZA W){l:List Int}(b:l.length=W.length-1)(c:∀x∈l,x.natAbs<=10^26):(l++[So W-l.sum]).length=W.length/\(l++[So W-l.sum]).sum=So W/\∀h,h<W.length->(Zr (l++[So W-l.sum]) h).natAbs<=10^28:=by
 have g:=ok.pos;have k:=ok.few;have j:(eW W).length<=441:=by rw[We];exact(Y4 ok).2
 refine⟨by rw[aY,b];show W.length-1+1=_;omega,by rw[di];simp only[bp,kK];omega,λh i=>?_⟩;have a:Zr (l++[So W-l.sum]) h∈l++[So W-l.sum]:=by unfold Zr;rw[aF,aJ (by rw[aY,b];show h<W.length-1+1;omega)];exact bT _
 rcases ah.mp a with m | m
 ·have:=c _ m;omega
 ·rw[aN.mp m]
  have s:∀l:List Int,(∀x∈l,x.natAbs<=10^26)->l.sum.natAbs<=l.length*10^26:=by
   intro l
   induction l with
   | nil=>intro _;simp
   | cons x r ih=>
    intro h;have e:=h x ao;have f:=ih λy d=>h y (aR _ d);rw[bp,bK];omega
  have t:=s l c;unfold So;omega
theorem Zhy(l:List Int):W3 (iL l) aA (ag (-1))=iL (l.take (l.length-1)):=by
 unfold W3;rw[HT.sIx_none,show HT.sIx (iL l).length (iL l).length (ag (-1))=l.length-1 from ?_]
 ·rw[km,m7,<-lV]
 ·unfold HT.sIx;rw[aL];simp only[];split<;>omega
theorem A9{l:List Int}(h:l≠[])(v:Int):l.set (l.length-1) v=l.take (l.length-1)++[v]:=by have:0<l.length:=ig.mpr h;rw[List.set_eq_take_append_cons_drop,oX (by omega),List.drop_of_length_le (by omega)]
theorem Gn{c:List Int}{W:List (List Int)}(d:c.length<=63)(ok:ZA W)(a:Nat):∃D,Te [.cst (iL c),wP W,.int (a:Int)]=ag (pP D)/\D.length=W.length/\D.sum=So W/\∀h,h<W.length->(Zr D h).natAbs<=10^28:=by
 have U:=ok.pos;have Y:=ok.few;let st:Option PV->Option PV->Option PV->Option PV->ZG:=λL M Q O=>[ag (.cst (iL c)),ag (wP W),ag (.int (a:Int)),L,M,Q,O]
 suffices h:Yz Mp (st aA aA aA aA) λv=>∃l,v=pP (l++[So W-l.sum])/\l.length=W.length-1/\∀x∈l,x.natAbs<=10^26 by obtain⟨v,e,l,rfl,o,p⟩:=QD (m:=7) (ls:=[.cst (iL c),wP W,.int (a:Int)]) h;exact⟨_,e,DN ok o p⟩
 have I:xB (Zk (Xx aB) (Zk X1 (Zc Yk [Za 0,eC (.int 0)]) (eC (.int 2))) (eC (.int 1))) (st aA aA aA aA)=ag (decide (Zr c 0%2=1)):=xb (Dr (vmd (c2 rfl rfl (Wr d 0)) rfl (by decide)) rfl);have g:∀s:ZG,Zk Kz (eC (.int 10)) (eC (.int 25)) s=ag (.int (10^25)):=λs=>vC (a:=10) (b:=25) (C:=D4) (op:=λi j=>i^j.toNat) rfl rfl (by decide);have F:∀(k:Int)(s:ZG),k.natAbs<=8->Zk S7 (eC (.int k)) (Zk Kz (eC (.int 10)) (eC (.int 25))) s=ag (.int (k*10^25)):=λk s G=>vC (C:=CMulW) (op:=(· * ·)) (a:=k) rfl (g s) (Pm (dE G (by decide +kernel)) (by decide +kernel));have H:∀s:ZG,Zk Z6 (Zk S7 (eC (.int 8)) (Zk Kz (eC (.int 10)) (eC (.int 25)))) (eC (.int 1)) s=ag (.int (8*10^25+1)):=λs=>J3 (F 8 s (by decide)) rfl;have R:((W.length-1:Nat):Int)=(W.length:Int)-1:=by omega
 by_cases q:Zr c 0%2=1
 ·refine Zev (by rw[I,decide_eq_true q]) (ZR (Zp (c2 rfl rfl (Wr d a))) (ZR rfl (Wf (O6 (n:=W.length-1) (λi s=>∃y l E,s=st (ag (.int y)) (ag (.lst (iL l))) E aA/\l.length=i/\∀x∈l,x.natAbs<=10^26) (by rw[R];exact J4 (c1 rfl Uk) rfl) ⟨_,[],aA,rfl,rfl,λx h=>by simp at h⟩ ?_) ?_)))
  ·rintro i s S ⟨y,l,E,rfl,o,p⟩;refine Yc (Pl PV.int (vP (J4 (vmd rfl (H _) (by decide)) (F 4 _ (by decide)))) rfl (by omega)) (QG (Zp (vP (vC (C:=Qz) (op:=n8) rfl (H _) ⟨by decide,by decide +kernel⟩))) ⟨_,l++[y%(8*10^25+1)-4*10^25],_,rfl,by simp[o],λx f=>?_⟩);rcases ah.mp f with f | f
   ·exact p x f
   ·rw[aN.mp f];have X:=kZ y (show(8*10^25+1:Int)≠0 by decide);have T:=jP y (show(0:Int)<8*10^25+1 by decide);omega
  ·rintro s ⟨y,l,E,rfl,o,p⟩
   refine WW (J2 (c1 (a:=.lst (iL (l++[So W-l.sum]))) (o2 (b:=.lst [.int (So W-l.sum)]) rfl (by
    show(SG [_] _).map PV.lst=_;rw[Zz,J4 (c1 rfl (Nt ok)) (c1 rfl (M7 l))];rfl) ?_) rfl)) ⟨l,rfl,o,p⟩
   show(if(iL l).length+[PV.int (So W-l.sum)].length<=10000/\ZE (iL l)=aC/\ZE [PV.int (So W-l.sum)]=aC then ag (PV.lst (iL l++[PV.int (So W-l.sum)])) else aA)=_;rw[oX ⟨by rw[aL];show l.length+1<=_;omega,Z5 _,rfl⟩,Zhi]
 ·obtain⟨w,N,P⟩:=YE (Zr c a) (t:=131) (m:=3) (by omega) (by omega)
  have fb:(Zr [1,1,10^25+3] w).natAbs<=10^25+3:=by
   have:w=0\/w=1\/w=2:=by omega
   rcases this with rfl | rfl | rfl<;>decide
  have A:∀k:Nat,∃v:Nat,v<9/\ZU [.int (Zr c (a+k)),.int 137,.int 9]=ag (.int (v:Int)):=λk=>YE (Zr c (a+k)) (t:=137) (m:=9) (by omega) (by omega);let u:Nat->Int:=λk=>((A k).choose:Int)-4;have J:∀k,(u k).natAbs<=4:=λk=>by have:=(A k).choose_spec.1;show(((A k).choose:Int)-4).natAbs<=4;omega
  refine ZR (FD (by rw[I,decide_eq_false q])) (ZR (Zp (vP (o2 (a:=.lst (iL [1,1,10^25+3])) (by
   show(SG _ _).map PV.lst=_;rw[Zz,Zz,Zz,J3 (g _) (show eC (.int 3) (st aA aA aA aA)=ag (.int 3) from rfl)];rfl) (c3 (c2 rfl rfl (Wr d a)) rfl rfl P) (Ys N)))) ?_)
  generalize Zr [1,1,10^25+3] w=far at fb ⊢;let C:List Int:=(aD W.length).map λk=>u k*far;have B:C.length=W.length:=by simp[C]
  have ne:C≠[]:=λz=>by rw[z] at B;simp at B;omega
  refine ZR (Zp (v:=.lst (iL C)) (Vy (λk=>u k*far) (Yl (c1 rfl Uk) (by omega)) (by omega) λk G=>⟨_,rfl,rfl,vP (vC (C:=CMulW) (op:=(· * ·)) (J4 (c3 (c2 (b:=.int ((a+k:Nat):Int)) rfl (by rw[Int.natCast_add];exact J3 rfl rfl) (Wr d (a+k))) rfl rfl (A k).choose_spec.2) rfl) rfl (Pm (a:=u k) (dE (J k) (by decide +kernel)) (dE fb (by decide +kernel))))⟩)) (ZR (Mf (m:=iL C) (j:=C.length-1) (k:=-1) (J4 (c1 rfl (Nt ok)) (c1 (a:=.lst (iL (C.take (C.length-1)))) ?_ (M7 _))) rfl rfl (Z5 _) rfl ?_) ?_)
  ·show ag (PV.lst (W3 (iL C) aA (ag (-1))))=_;rw[Zhy]
  ·rw[aL];unfold Kd;rw[oY (by decide),oX (by omega)];congr 1;omega
  ·rw[<-jA,A9 ne];refine WW (J2 (c1 rfl rfl)) ⟨_,rfl,by rw[br,B];omega,λx f=>?_⟩;obtain⟨k,_,rfl⟩:=bJ.mp (iX f);show(u k*far).natAbs<=_;rw[jO];exact bO (iH (J k) fb) (by decide)
end PW
namespace PW
open PySem L2 VL VX PK
theorem Zkj{D:List Int}(h:0<D.length):Tu (pP D) (ag 1) aA=ag (pP (D.drop 1)):=by show(if HT.sIx (iL D).length 0 (ag 1)=0/\HT.sIx (iL D).length (iL D).length aA=(iL D).length then aA else ag (PV.tup (W3 (iL D) (ag 1) aA)))=_;rw[show(1:Int)=((1:Nat):Int) from rfl,oY (by rw[HT.sIx_nat,aL];omega),HG]
theorem Zdy{W:List (List Int)}(ok:ZA W){h:Nat}(c:h<W.length):(Zr (NJ W) h).natAbs<=100:=by
 have f:=ok.few
 have e:((Zx W h).sum).natAbs<=W.length*9:=by
  rw[Ng,ok.sq h c];exact AD λi d=>by have a:0<=Zr (Zx W h) i:=ok.lo h i c d;have b:Zr (Zx W h) i<=9:=ok.hi h i c d;omega
 rw[show Zr (NJ W) h=(Zx W h).sum/2-1 from ZC c];omega
theorem law_true(f:List Int)(c:f.length<=63)(_:∀n∈f,n.natAbs.log2<=1048576):D_law [.cst (iL f)]=ag (.bl aC):=by
 obtain⟨W,O,ok,N,u⟩:=A7 c;have hp:=ok.pos;have hf:=ok.few;obtain⟨D,Q,e,y,J⟩:=Gn c ok 13
 obtain⟨F,P,T,X,L⟩:=Gj ok N e y λh j=>by
  rw[Jz (by rw[e];exact j)];have h1:=J h j;have h2:=Zdy ok j;have h3:(10^28+100:Nat)<=2^208:=by decide +kernel
  omega
 let R:PV:=.tup [pP F,pP P,pP (nL T),pP (nL X)];have o:XG [wP W,pP D,R]=ag (.bl aC):=Gk ok e L;obtain⟨v,hv,M⟩:=YE (Zr f 18) (t:=139) (m:=4) (by omega) (by omega);let E:List Int:=[Zr D 0+1+(v:Int)]++D.drop 1
 have Z:E.sum=So W+1+(v:Int):=by
  show([Zr D 0+1+(v:Int)]++D.drop 1).sum=_
  have:D=Zr D 0::D.drop 1:=by
   cases D with
   | nil=>simp at e;omega
   | cons x r=>rfl
  have s:D.sum=Zr D 0+(D.drop 1).sum:=by
   conv=>lhs;rw[this]
   rw[bp]
  rw[di];simp only[bp,kK];omega
 have lp : -10<=So W/\So W<=20:=by unfold So;omega
 let st:Option PV->Option PV->Option PV->Option PV->Option PV->ZG:=λI H g i S=>[ag (.cst (iL f)),I,H,g,i,S];let w:Option PV:=ag (wP W);let d:Option PV:=ag (pP D);let r:Option PV:=ag R;have C:Zc Pb [Za 0,X9 [eC (.int 1),eC (.int 2),eC (.int 3),eC (.int 4),eC (.int 5)],eC (.int 8)] (st aA aA aA aA aA)=ag (wP W):=O;have G:Zc Te [Za 0,Za 1,eC (.int 13)] (st w aA aA aA aA)=ag (pP D):=c3 rfl rfl rfl Q;have k:∀g i,Zc X3 [Za 1,Za 2] (st w d g i aA)=ag R:=λ_ _=>c2 rfl rfl L.eq;have A:Wj (xB (Zc XG [Za 1,Za 2,Za 3])) (st w d r aA aA)=ag aB:=xn (p:=aC) (xb (c3 rfl rfl rfl o));have Y:Wj (xB (Zc XG [Za 1,Za 2,Za 4])) (st w d r r aA)=ag aB:=xn (p:=aC) (xb (c3 rfl rfl rfl o));have q:xB (Zk (Xx aC) (Zk ZJ (Za 4) (eC (.int 1))) (Zk ZJ (Za 3) (eC (.int 1)))) (st w d r r aA)=ag aB:=neq (l:=P) rfl rfl
 have z:Zk Qy (Wk [Zk Z6 (Zk Z6 (Zk ZJ (Za 2) (eC (.int 0))) (eC (.int 1))) (Zc ZU [Zc Yk [Za 0,eC (.int 18)],eC (.int 139),eC (.int 4)])]) (SO Tu (Za 2) (TJ (eC (.int 1))) Rw) (st w d r r aA)=ag (pP E):=by
  have U:Zk ZJ (Za 2) (eC (.int 0)) (st w d r r aA)=ag (.int (Zr D 0)):=o2 (b:=.int ((0:Nat):Int)) rfl rfl (Ys (by rw[e];omega));have b1:Zk Z6 (Zk Z6 (Zk ZJ (Za 2) (eC (.int 0))) (eC (.int 1))) (Zc ZU [Zc Yk [Za 0,eC (.int 18)],eC (.int 139),eC (.int 4)]) (st w d r r aA)=ag (.int (Zr D 0+1+(v:Int))):=vI (op:=(· + ·)) (vI (op:=(· + ·)) U rfl) (c3 (c2 rfl rfl (Wr c 18)) rfl rfl M)
  exact o2 (a:=pP [Zr D 0+1+(v:Int)]) (b:=pP (D.drop 1)) (by rw[SS,Zz,b1];rfl) (by
   show Tu (pP D) (ag 1) aA=_;exact Zkj (by rw[e];omega)) (LM (by rw[bh];simp;omega))
 have B:Zk (Xx aB) (Zc Xt [Za 1,Za 5]) (Zc VQ [Za 5]) (st w d r r (ag (pP E)))=ag (.bl aC):=o2 (a:=.int E.sum) (b:=.int E.sum) (c2 rfl rfl (NK ok (by omega) (by omega) (by omega))) (c1 rfl (CY E)) (by rw[T7];simp);exact YZ (sq (Zp C) (sq (Zp G) (sq (Zp (k aA aA)) (sq (FD A) (sq (Zp (k r aA)) (sq (FD (xo Y q)) (sq (Zp (J2 z)) (ret (ep B)))))))))
end PW
namespace PW
open PySem L2 VL
theorem cst_mk{K:aE}{h:bR}{mg:aj->Option aG}{x:aj}{v:Int}{t:Tok}(X:K.In h)(G:h.Ns bX mg)(y:dD K bX x=ag (ag (.int v t))):Cst mg x v:=⟨t,j9 X G y⟩
section
open PySem.Spec PyProof.Rows VX
variable {P:ay} {w:b9} {K:aE} {mg:aj->Option aG} {base:bR}
abbrev Wy:ba:=Zjv 0 (Wo 2)
theorem Gp{C e fI:aK}{d:eU}(m:Fun K "__init__" "NoTotal.__init__" Wy fI d)(f:exiIn K C veT "ValueError.__new__" fI=aC)(n:BInit K e "ValueError.__init__")(i:mg "PurseError" = ag (.ref e))(g:bg K (.ref C) "__setattr__" = ag (ag (.builtin "object.__setattr__")))(ve:veOver K C=aC)(tk:nI K C "total" = ag aA)(hd:(jc K C).any (·.hasDict)=aC) :
  Tr P w K mg base MN 1 fI d ["self","total"] (spI C "total"):=
 m.ok (k:=0) (N:=["self","total"]) ⟨rfl,rfl,rfl,by decide +kernel,rfl,by decide +kernel,by decide +kernel⟩ (λ_ _ _ _ h=>h.1) λj A c s H vs Q E l h=>by refine⟨_,Sq (YH (Bo (pl:=?pl) F.excBase_ValueError n f rfl i rfl (ZY (pv 0) (ZY (Bv l (pv 1)) YF)))) (ME (Zbx f g ve tk hd rfl (pv 0) (pv 1))),?_⟩;exact ES (a:="self") (b:="total") h
end
theorem all_mk{P:ay}{w:b9}{K:aE}{h:bR}{mg:aj->Option aG}{fa:aK}(X:K.In h)(G:h.Ns bX mg)(hfa:mg "law" = ag (.ref fa))(B:X7 mg)
  (Z_BASE:Cst mg "BASE" 0)
  (d0:Def K mg "_law_pick" OR)
  (d1:Def K mg "_law_six" Lu)
  (d2:Def K mg "_law_read_web" V9)
  (d3:Def K mg "_law_at" Hg)
  (d4:Def K mg "_law_web" Lv)
  (d5:Def K mg "_law_loops" Qa)
  (d6:Def K mg "_law_drawn" Qb)
  (d7:Def K mg "total" Lw)
  (d8:Def K mg "ties_of" Qc)
  (d9:Def K mg "loops" Lx)
  (d10:Def K mg "refuse_total" Xu)
  (d11:Def K mg "reduced" Qe)
  (d12:Def K mg "evened" OS)
  (d13:Def K mg "solved_below" WR)
  (d14:Def K mg "ties_at" Qf)
  (d15:Def K mg "row_of" OT)
  (d16:Def K mg "square_without" XJ)
  (d17:Def K mg "nearing" Qg)
  (d18:Def K mg "gain" Hr)
  (d19:Def K mg "run" BY)
  (d20:Def K mg "ties_to" UI)
  (d21:Def K mg "lacking_among" Wd)
  (d22:Def K mg "minus" LA)
  (d23:Def K mg "overfull" Se)
  (d24:Def K mg "other_end" UJ)
  (d25:Def K mg "way_out" Qi)
  (d26:Def K mg "heads_for" UK)
  (d27:Def K mg "tie_to_look_at" XM)
  (d28:Def K mg "walked" OU)
  (d29:Def K mg "tree_by" Qj)
  (d30:Def K mg "plus" Hv)
  (d31:Def K mg "one_at" OV)
  (d32:Def K mg "made_of" Qk)
  (d33:Def K mg "borrowing" UL)
  (d34:Def K mg "least" LI)
  (d35:Def K mg "middle" OW)
  (d36:Def K mg "broken" Rn)
  (d37:Def K mg "_law_ties" OX)
  (d38:Def K mg "_law_outside" UM)
  (d39:Def K mg "_law_whole" Ql)
  (d40:Def K mg "_law_is_tree" UN)
  (d41:Def K mg "_law_wholes" Sf)
  (d42:Def K mg "_law_coins" Qm)
  (d43:Def K mg "_law_lend" OY)
  (d44:Def K mg "_law_right" Qn)
  (d45:Def K mg "_law_total_told" WT)
  (d46:Def K mg "law" B2)
  {CNoTotal Cb fW:aK} {odW anW:Option aK} {slW:Array (Option aG)} {kVW dcW pmW cdW ctW:aG}
  (qNoTotal:dD K bX "NoTotal" = ag (ag (.ref CNoTotal)))
  (qB:dD K bX "PurseError" = ag (ag (.ref Cb)))
  (g1:mK K (.ref Cb) "__getattribute__" = ag (ag (.builtin "type.__getattribute__")))
  (g2:PySem.W.readsIn K Cb (.type "type")=aC)
  (g3:PySem.W.findCls K (.ref Cb) (.type "type") "__init__" = ag (.val (.builtin "ValueError.__init__")))
  (iW:bg K (.ref CNoTotal) "__init__" = ag (ag (.ref fW)))
  (lW:K.lookup fW=ag ⟨.type "function",odW,.func (cV "__init__" "NoTotal.__init__" (Yy Wy) (Z2 Wy) (Zg Wy) .none kVW dcW pmW anW cdW ctW),slW⟩)
  (cW:cy K cdW "NoTotal.__init__" = aC)
  (kW:dw K (.ref fW)=aC)
  (eW:VX.exiIn K CNoTotal VX.veT "ValueError.__new__" fW=aC)
  (sW:bg K (.ref CNoTotal) "__setattr__" = ag (ag (.builtin "object.__setattr__")))
  (vW:VX.veOver K CNoTotal=aC)
  (uW:nI K CNoTotal "total" = ag aA)
  (hW:(jc K CNoTotal).any (·.hasDict)=aC)
  (nW:bg K (.ref CNoTotal) "total" = ag aA)
  (x1W:el K CNoTotal "BaseException" = aC)
  (x4W:bg K (.ref CNoTotal) "__getattribute__" = ag (ag (.builtin "BaseException.__getattribute__")))
  (x5W:bg K (.ref CNoTotal) "__getattr__" = ag aA)
  (x6W:bg K (.ref CNoTotal) "__class__" = ag (ag (.builtin "object.__class__")))
  (x7W:j7 K CNoTotal (.type "object")=ag aC)
  (sbW:VX.belowIn K CNoTotal CNoTotal=aC)
  : ∃fd:eU,(∀(s:aM)(u:aG),mQ s fd ⟨[u],[]⟩ [("_law_script",u)])/\∀base:bR,K.In base->base.Ns bX mg->Tr P w K mg base MN 7 fa fd ["_law_script"] (Y0 K D_law 1):=by
 have mB:=j9 X G qB;have BI:VX.BInit K Cb "ValueError.__init__":=⟨g1,g2,g3⟩;have FW:Fun K "__init__" "NoTotal.__init__" Wy fW _:=Cm (st:=Wy) lW cW kW
 have QW:∀base:bR,VX.QFL "NoTotal" P w K mg base CNoTotal:=λbase=>
  ⟨qNoTotal,j9 X G qNoTotal,⟨fW,_,_,eW,lW,rfl,FW.binds (λ_ _ _ _ _ _ us hl=>match us,hl with | [_,_],_=>rfl),Gp FW eW BI mB sW vW uW hW⟩,⟨qNoTotal,⟨x4W,x5W,x6W,x7W,x1W⟩,nW,hW⟩⟩
 refine CS d46 hfa (λ_ _ _ _ _ _ _=>rfl) λbase f fd _ _ F=>?_;have Q:VX.Q7 "NoTotal" P w K mg base CNoTotal Cb:=⟨QW base,sbW⟩;have C_l_pick:UB P w K mg base:=E7 d0 B;have C_l_six:Lp P w K mg base:=BR d1 B;have C_l_read_web:V8 P w K mg base:=NG d2 B;have C_l_at:OK P w K mg base:=Zck d3 B;have C_q_web:Lq P w K mg base:=BS d4 B C_l_pick C_l_at C_l_six C_l_read_web;have C_p_loops:R0 P w K mg base:=Hi d5 B;have C_l_drawn:R1 P w K mg base:=Hj d6 B C_l_at C_p_loops C_l_pick;have C_total:Pc P w K mg base:=BV d7 B;have C_ties_of:Vx P w K mg base:=Hk d8 B;have C_loops:Pd P w K mg base:=BX d9 B C_ties_of;have C_refuse_total:WN P w K mg base:=QU d10 B C_total C_loops;have X_refuse_total:=Qd (P:=P) (w:=w) (base:=base) d10 B Q C_total C_loops;have C_reduced:R3 P w K mg base:=Hm d11 B;have C_evened:OL P w K mg base:=E8 d12 B C_reduced;have C_solved_below:WO P w K mg base:=QV d13 B C_evened;have C_ties_at:Tg P w K mg base:=Ho d14 B;have C_row_of:OM P w K mg base:=Dc d15 B C_ties_at;have C_square_without:XH P w K mg base:=Rk d16 B C_row_of;have C_nearing:R4 P w K mg base:=Hq d17 B C_solved_below C_square_without;have C_gain:Hd P w K mg base:=Zcm d18 B;have C_run:BP P w K mg base:=Zg4 d19 B C_gain;have C_b_ties_to:UC P w K mg base:=Lz d20 B;have C_lacking_among:Wc P w K mg base:=Qh d21 B C_b_ties_to;have C_minus:Pe P w K mg base:=B0 d22 B;have C_overfull:Sb P w K mg base:=Jr d23 B;have C_other_end:Vj P w K mg base:=LC d24 B;have C_way_out:R5 P w K mg base:=Hs d25 B C_other_end;have C_heads_for:UD P w K mg base:=LD d26 B C_ties_of C_overfull C_way_out C_other_end;have C_tie_to_look_at:XI P w K mg base:=Rl d27 B;have C_walked:ON P w K mg base:=Dd d28 B C_ties_of C_tie_to_look_at;have C_tree_by:R6 P w K mg base:=Hu d29 B C_walked;have C_plus:Lr P w K mg base:=Zco d30 B;have C_one_at:OO P w K mg base:=Dg d31 B;have C_made_of:R7 P w K mg base:=Hw d32 B Z_BASE C_minus C_one_at C_plus C_heads_for C_tree_by;have C_borrowing:UE P w K mg base:=LH d33 B;have C_least:Ls P w K mg base:=B1 d34 B;have C_middle:OP P w K mg base:=Di d35 B C_ties_at;have C_broken:Rh P w K mg base:=Dj d36 B Z_BASE C_refuse_total C_nearing C_minus C_middle C_run C_lacking_among C_borrowing C_plus C_made_of C_least;have X_broken:=Hx (P:=P) (w:=w) (base:=base) d36 B Q Z_BASE  X_refuse_total;have C_l_ties:Rj P w K mg base:=Dk d37 B;have C_l_outside:UG P w K mg base:=LJ d38 B C_l_ties;have C_l_whole:Th P w K mg base:=Hz d39 B;have C_l_is_tree:UH P w K mg base:=LK d40 B C_l_whole C_l_ties;have C_l_wholes:Sd P w K mg base:=Jt d41 B C_l_whole;have C_b_coins:R8 P w K mg base:=HA d42 B;have C_l_lend:OQ P w K mg base:=Dl d43 B;have C_l_right:R9 P w K mg base:=HB d44 B C_l_wholes C_l_lend C_l_is_tree C_l_outside C_b_coins;have C_l_total_told:WQ P w K mg base:=QX d45 B C_broken Q X_broken;exact Zg5 F B C_q_web C_l_drawn C_broken C_l_right C_l_pick C_l_at C_l_total_told
end PW
namespace PySem.W.Fast
def tw11615793736092272794:=()
def tw9776092054939129516:=()
def tw2968713739033008959:=()
def tw8870975947287023629:=()
def tw6813904810621209962:=()
def tw17881373374724847032:=()
def tw1364154689409013970:=()
def tw3897902168768761855:=()
def tw13131062931608161258:=()
def tw1771951888340365936:=()
def tw9577103521836152312:=()
def tw4297289537028044460:=()
def tw1174596962731399363:=()
def tw4071795497618395268:=()
def tw10809534908915638868:=()
def tw8879714883136934638:=()
def tw11781092159861032470:=()
def tw6253139147365670053:=()
def tw7040667383559237804:=()
def tw775570553444392554:=()
def tw1631681251563837321:=()
def tw6641900747130273609:=()
def tw12516028271476413853:=()
def tw12294526347227617039:=()
def tw5972936080356726494:=()
def tw7460565091071430805:=()
def tw7928047370980941119:=()
def tw13764859182151028937:=()
def tw4640481099174890610:=()
def tw12005656312856396627:=()
def tw10296195317814662037:=()
def tw17709002715983796085:=()
def tw9326856154434237984:=()
def tw1845832622252595556:=()
def tw5457059498328716288:=()
def tw13421063254834613382:=()
def tw11662356058625700390:=()
def tw8358583992209123100:=()
def tw16457661292125818769:=()
def tw10813586864022065020:=()
def tw12204930568500126256:=()
def tw6710699406589342201:=()
def tw18337827023186147572:=()
def tw9206752523447669679:=()
def tw384088568342280935:=()
def tw5320100759916394948:=()
def tw10397745893733959471:=()
def tw13620846153675570806:=()
def tw2018358396112220100:=()
def tw12117908293691069222:=()
def tw1758155503735432870:=()
def tw11565447398476801443:=()
def tw15418028776451866285:=()
def tw12182687301104633396:=()
def tw9446110101235098458:=()
def tw8431736920771885019:=()
def tw2830722407952866646:=()
def tw1895991210820200087:=()
def tw10283754345677055594:=()
def tw16932331737354884024:=()
def tw2983796777810123007:=()
def tw1266538590916293996:=()
def tw9140741246886082460:=()
def tw284305251532501736:=()
def tw47691349217859391:=()
def tw8234951275226488137:=()
def tw708030378809131840:=()
def tw11763130080064772228:=()
def tw1505598867367864777:=()
def tw2414580220063315789:=()
def tw538114994022724785:=()
def tw4580107488793248937:=()
def tw8612868060106010001:=()
def tw12691876970391596840:=()
def tw10373874318487303941:=()
def tw9657164538295772829:=()
def tw3976602695510484675:=()
def tw17163834031854929145:=()
def tw8667839589847537734:=()
def tw14771848669518247381:=()
def tw3828025055522453209:=()
def tw14043022056250196909:=()
def tw7301284799529458953:=()
def tw720643163501714115:=()
def tw7401856012779556262:=()
def tw9493777056916575631:=()
def tw8036858416107802804:=()
def tw4771004475948956438:=()
def tw16751290069567824591:=()
def tw12073441744849419938:=()
def tw3954363090752760501:=()
def tw16760504254475836790:=()
def tw12376702930584126632:=()
def tw14601273018256890531:=()
def tw11971815666336989318:=()
def tw3483200391834815548:=()
def tw10995433532857341782:=()
def tw1783277678974724207:=()
def tw15661340158673306609:=()
def tw15664978736035191326:=()
def tw5282604824417518758:=()
def tw16779874220329278927:=()
def tw10104169772549241338:=()
def tw12270352382844218413:=()
def tw16293012967394255898:=()
def tw11149689340594734006:=()
def tw9782461111372169742:=()
def tw16805467562188746472:=()
def tw7485108141925740830:=()
def tw13730744994395744160:=()
end PySem.W.Fast
open PySem PySem.W PyProof.Rows
set_option maxRecDepth 100000 in
set_option maxHeartbeats 0 in
theorem PySem.Challenge.cw_purseweb_k73_led_to_a_break_purse_holds : PySem.Challenge.rw_purseweb_k73_led_to_a_break_purse.Holds := by
 w_on;o_law;k_head;(case hw=>w_witness2)
 k_fill
 refine VL.law_walkT (l:=jC) (D:=PW.D_law) (x:="_law_script") 7 rfl rfl ⟨rfl,by decide,by decide,rfl⟩ (λw=>by kernel_rfl) PW.law_true (λw h Y=>PySem.W.km_in_of Y) ?F
 case F=>
  intro w mg fa h KX G hmg
  refine' PW.all_mk KX G hmg ?B ?Z0 ?d0 ?d1 ?d2 ?d3 ?d4 ?d5 ?d6 ?d7 ?d8 ?d9 ?d10 ?d11 ?d12 ?d13 ?d14 ?d15 ?d16 ?d17 ?d18 ?d19 ?d20 ?d21 ?d22 ?d23 ?d24 ?d25 ?d26 ?d27 ?d28 ?d29 ?d30 ?d31 ?d32 ?d33 ?d34 ?d35 ?d36 ?d37 ?d38 ?d39 ?d40 ?d41 ?d42 ?d43 ?d44 ?d45 ?d46 ?qNoTotal ?qB ?g1 ?g2 ?g3 ?iW ?lW ?cW ?kW ?eW ?sW ?vW ?uW ?hW ?nW ?x1W ?x4W ?x5W ?x6W ?x7W ?sbW
  case B=>constructor<;>(refine PySem.W.mg_none_of KX G ?_;k_is)
  case Z0=>(refine' PW.cst_mk KX G ?y;(case y=>k_is))
  case d0 | d1 | d2 | d3 | d4 | d5 | d6 | d7 | d8 | d9 | d10 | d11 | d12 | d13 | d14 | d15 | d16 | d17 | d18 | d19 | d20 | d21 | d22 | d23 | d24 | d25 | d26 | d27 | d28 | d29 | d30 | d31 | d32 | d33 | d34 | d35 | d36 | d37 | d38 | d39 | d40 | d41 | d42 | d43 | d44 | d45 | d46=>(refine' L2.def_mk KX G ?a ?l ?c ?k;(case a=>k_is);(case l=>k_is);(case c=>k_is);(case k=>k_is))
  (case qNoTotal=>k_is)
  (case qB=>k_is)
  (case g1=>kernel_rfl)
  (case g2=>kernel_rfl)
  (case g3=>kernel_rfl)
  (case iW=>k_is)
  (case lW=>k_is)
  (case cW=>k_is)
  (case kW=>k_is)
  (case eW=>kernel_rfl)
  (case sW=>k_is)
  (case vW=>kernel_rfl)
  (case uW=>kernel_rfl)
  (case hW=>kernel_rfl)
  (case nW=>k_is)
  (case x1W=>kernel_rfl)
  (case x4W=>k_is)
  (case x5W=>k_is)
  (case x6W=>k_is)
  (case x7W=>k_is)
  (case sbW=>kernel_rfl)
