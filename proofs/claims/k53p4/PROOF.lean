import PyProof.Rows.All
import Wide.All
import OpenK.AllK
import Wide.FinOn
import Lean
import PyProof.EqAt
import PyProof.EqKinds
import PyProof.TupleCall
import PyProof.NeKinds
import PyProof.ListMulRoad
import PyProof.WalkInts
import PyProof.ListRange
import KE.KRevIter
import KE.KSortTup
import KE.KDictSum
import PyProof.Rows.SortWalk
import PyProof.ExcInit
import PyProof.InstStoreFacts
import OpenK.KMake
import OpenK.KCls
import PyProof.FString2
import KE.KMinKey
import PySem.Challenge.RW_purseweb_k53_a_purse_and_its_tree
open Option renaming some → aA,none → aB,bind_some → aE,map_some → bF,isSome_iff_exists → cj,join_some → kW,bind_eq_bind → mI,some_ne_none → mL,isSome_map → mz,getD_none → nI,pure_def → n9,none → ox
open Bool renaming false → aC,true → aD,and_eq_true → ak,false_ne_true → aw,false_eq_true → b9,not_true → gN,not_eq_true' → gU,not_false → iU,not_eq_true → i9,true_and → kF,or_eq_true → n8,false_or → oZ
open PySem renaming wpAny_bind → aF,Value → aJ,Addr → aM,Shared → aN,wpAny_pure → aP,starEach → aR,Str → ah,wpAny → ao,Program → bE,mainGlobals → bJ,Expr → bK,Around → bc,World → bg,wpAny_newObj_type → bh,Heap → bw,wpAny_mono → cH,Stmt → cO,wpAny_call_entry → cS,wpAny_truthy_bool → cV,wpAny_Call_Name_kw → cZ,behindInMarks → cg,backTo → cw,compareOp → cy,wpAny_callSpecial?_slot → cz,SetTable → dB,wpAny_ite_split → dD,bootBuiltins → dG,mem_of_lookup → dJ,foldedSetIterable → dM,wpAny_holding → dR,Obj → dX,wpAny_setField → df,rawInt → dm,wpAny_typeNameOfWhole_keyiter → dz,wpAny_field → eQ,wpAny_passesOwn → fA,codeAny_builtin → fC,binaryOp → fD,cLine → fE,wpAny_loadPart_at → fK,sysModules → fM,Pos → fN,wpAny_typeNameOf_keyiter → fQ,strLen_append → fS,wpAny_isSubtype_exc → fV,FuncData → fX,NameKind → fY,codeAny_mono → gE,wpAny_setState_of → gV,firstArgMember → gY,swapsWith → g8,Scope → gk,plainId_quiet → gv,ExceptHandler → gx,wpAny_execs_nil → gy,codeAny → gz,pyNext → iB,sizeLine_eq → iH,sliceBounds → iJ,wpAny_seqItems → iO,wpAny_pyIter_slot → iP,argBest → iQ,wpAny_tryCatch → iT,ofString_length → iW,wpAny_execs_cons → iX,call_meets → iY,Builtin → ij,wpAny_attempt → ik,excClassObj → jG,unbindBehindTheSuite → jH,letOwnedTupleGo → jK,wpAny_loadPart' → jN,wpAny_setEntries_of → jQ,intKind → jR,codeAmong → jY,assignEach → j6,wpAny_pyIter_tuple → j7,tupleKind_room_in1 → ja,wpAny_fieldsOf → jc,wpAny_FormattedValue_plain → jf,int_text_length_le → jg,wpAny_of_eq → jm,wpAny_dictEntries → jn,wpAny_comprehension_free → jw,tupleKind → kJ,bindArgs → kN,noFill_tuple_add → kO,noteFrame → kQ,wpAny_isInstance → kR,wpAny_askSetting → kU,builtinsNs → kY,pyIter → kZ,wpAny_call → k6,getItem → k9,closureFor → kd,CmpOp → kq,wpAny_dictEpoch → ku,wpAny_updateSeq → lE,wpAny_isTrue_Compare1 → lG,wpAny_isOneOf_keyiter → lI,builtinLookup_eq_fast → lK,Env → lP,keywordEach → lU,wpAny_newFunctionEnv → lY,isSubtype_type → l8,codeAny_call_builtin → l9,wpAny_letGo → lh,Keyword → mB,Arguments → mC,valueAt → mD,notedBy → mE,seqItems? → mF,DictEntry → mG,wpAny_standAt → mO,seq_tuple_add → mP,attributeBase → mR,wpAny_handled → mT,isTrue → mX,IsPart → mY,intKind_is → mf,GenState → ml,BindsTo → mq,concat_meets → mw,seqIndex_neg → my,callerA → nE,PassesOwn → nF,lastMarks → nG,pickOrder → nO,seqIndex_of → nV,atKey → nW,wpAny_throw → nY,standAt → nu,wpAny_Name → ny,backToKw → oA,bindL → oB,bindC → oE,typeIs_int → oG,compEnvC → oH,wpAny_rule → oI,newExc → oJ,relayAll → oP,argsOk → oR,defaultsOf → oW,Str → og,Within → oh,Result → om,layNew → oq
open List renaming getElem?_eq_getElem → aG,length_map → aH,replicate → aK,getD_eq_getElem?_getD → aL,mem_singleton → aQ,range → aS,mem_cons_of_mem → aT,getElem?_map → aU,size_toArray → aV,getElem?_eq_some_iff → aX,length_append → aY,map_cons → aZ,mem_cons → a9,mem_map → aa,mem_cons_self → ag,mem_append → aq,mem_append_right → au,mem_append_left → av,nodup_cons → az,length_cons → bA,all_eq_true → bC,mem_of_getElem? → bN,map_congr_left → bO,getElem?_append_left → bP,map_map → bQ,mem_range → bR,length_set → bU,map_append → bV,getElem?_append_right → bX,getElem?_set → bZ,lookup_cons → b8,length_take → bp,length_drop → bq,getElem_mem → cA,length_singleton → cD,take_of_length_le → cG,getElem?_replicate → cI,nodup_nil → cM,length_replicate → cN,replicate_succ → cQ,nodup_append → cW,getElem?_set_ne → cX,find?_cons → cf,mem_of_mem_take → dA,sum_cons → dF,take_length → dI,append_nil → dU,getElem?_set_self → dZ,map_nil → da,flatten_cons → de,length_range → dh,filterMap_cons → di,length → dj,length_nil → dk,zip_cons_cons → dt,getElem?_range → eK,getElem_of_mem → eM,getElem?_eq_none → eX,foldl_cons → fB,append_assoc → fF,mem_of_mem_drop → fH,pairwise_map → fL,map_take → fT,length_flatMap → fW,length_eq_zero_iff → fg,not_mem_nil → fm,drop_eq_nil_of_le → gG,find?_eq_none → gH,range_succ_eq_map → gJ,mem_filter → gK,take_sublist → gO,any_eq_true → gh,ext_getElem → gj,mem_of_find?_eq_some → gp,of_mem_zip → hU,mem_filterMap → iC,take_succ_eq_append_getElem → iS,take_succ → iV,cons_append → i0,getElem_map → i6,nodup_range → i7,mem_flatMap → ie,map_drop → ip,mem_iff_getElem → jC,mem_erase_of_ne → jJ,nil_append → jM,countP_eq_length_filter → jP,all_map → jS,map_replicate → jh,take_add_one → jo,foldl_append → jq,ext_getElem? → jr,all_cons → jx,set_eq_of_length_le → jy,filterMap_cons_some → kA,length_erase_of_mem → kC,idxOf_lt_length_iff → kD,getElem_inj → kK,getElem?_cons_zero → kS,countP_cons → kX,pairwise_lt_range → kf,extract → kg,length_pos_of_mem → kj,map_set → km,find?_some → lC,take_append_drop → lJ,getElem?_zipIdx → l3,pairwise_append → l7,getElem_toArray → la,map_id → lg,mem_map_of_mem → mM,any_cons → mS,foldl → mZ,getElem?_drop → m4,contains_cons → m9,getElem_range → ma,getElem_idxOf → me,filter_append → mh,mem_replicate → mj,idxOf_append → nC,perm_middle → nK,map_flatMap → nR,sum_append → n6,countP_map → nh,lookup_nil → nj,take_zero → oK,take_nil → o4,drop_nil → o5
open PySem.W renaming Frag → aI,kitOne → bM,nsIn → cB,kia_one → c9,mg_of → ck,findIn → dS,codeIn → dY,fnOf → dw,ktsIn → eU,keepIn → gX,kla_fn → gZ,tabObj → g7,excIn → gw,kts_cls → hX,tabIn → iu,looks_findIn → jI,envX → jU,callWith_K → j8,methodObj → ji,mroIn → jv,cellsFrom_some → k8,mem_of_lookupK → kl,instObj → ko,CodeHd → lQ,lookIn → lR,InstAt → lS,kitx_list → mm,kitx_dict → mn,plainGet → nH,noTabs → oX
open PySem.Heap renaming get?_push_of_some → aO,lt_size → aW,get?_push_size → aj,get?_update_other → bY,get?_update_self → cC,size_push → eV,SameBut → gD,get?_none_of_le → jA,ExtBut → nX
open Nat renaming le_refl → af,lt_of_lt_of_le → ar,ne_of_lt → bH,lt_irrefl → cU,le_trans → cu,le_of_lt → dH,zero_le → gA,lt_succ_of_lt → gQ,ne_of_gt → g9,lt_succ_self → gg,min_eq_left → hV,min_eq_right → iZ,le_succ → jB,add_zero → kh,add_le_add_left → mH,lt_of_le_of_lt → m3,mod_lt → m7,le_succ_of_le → nA,mod_eq_of_lt → nP,log2_lt → nZ
open Or renaming inl → ay,inr → iG
open Option.some renaming inj → bB,injEq → gR
open PySem.PassesOwn renaming never → bG
open PySem.F renaming plainAttrs_list → bW,slot_list_append → bx,type_list_append → bz,args_tuple_add_2 → gu,entry_tuple_add → iI,slot_tuple_add → iM,slot_list_insert → kG,type_list_insert → kH,slot_set_iter → lM
open PySem.Value renaming ref → b7,none → bj,int → dN,bool → gW,type → jZ,str → kI,isStrOf → oY
open PySem.SetTable renaming below → ba,has → dy,insertAt → fI,turns → fj,runEnd → iA,freeSlot → js,layClean → ju,slot → jz,bits → kB,fill → kE,probeStart → mK,laid → mV,fits → mW,orStandIn → m6,advance → nM,tooFull → nQ,fresh → oN,Probe → oO,probe → oU
open PySem.Obj renaming data_mapFields → br,mapFields → dC,isFreed_of_fields → dQ,cls_mapFields → fG,mapSeq → kc
open True renaming intro → cE
open PyProof.Rows renaming callWith_type1 → cF,slot_tuple_getitem → fU,callWith_builtin1 → fZ,step_dedup → fu,IntsAre → ig,envOfC → jL,AllBare → jl,subscriptTail_builtinR → ka,formatField_int_small → lN,subscriptTail → mQ,boot_range → nz,Subscript_ → oF,step_dedup → oV
open Array renaming length_toList → cJ,getElem?_eq_some_iff → cT,getElem?_eq_getElem → dq,toList_append → eJ,getElem?_toList → eY,getElem?_eq_none → gC,toList_push → iN,toArray_toList → jE,getElem_toList → jF,getD → jd,replicate → lA,toList_extract → l6,toList → oj
open PySem.NameKind renaming free → cK,cell → gM
open Int renaming toNat_natCast → cL,emod_lt_of_pos → c0,emod_nonneg → dW,le_refl → g6,toNat → i8,fdiv → oM
open PySem.Str renaming ofString → cP,empty → kM
open PySem.Heap.SameBut renaming update → cR
open Ne renaming symm → cY
open False renaming elim → cq
open PySem.Around renaming under_plainId → eB,frames_deeper → lV
open Sum renaming inl → eI,inr → lq
open PyProof.Rows.F renaming plain_set_update_loop → eN,entry_set_update_loop → gs
open PySem.Builtin.Slice renaming slicePlaces → eZ,sliceAdjust → gn,sliceApplied → j9
open PySem.Builtin.SmallTypes renaming nextOf → ee
open PySem.SetTable.probe renaming go → fJ
open PySem.Builtin.Tuple renaming tupleExact → fO
open PySem.Builtin.List renaming listTooLong → fP,listLengthHint → jT
open PySem.PyData renaming int → fR,hasDictAll → jt,shownAll → kz,showableAll → m8,depth → nB,depthAll → ng,tuple → ot
open ForInStep renaming yield → gL
open PySem.SetTable.below renaming go → gS
open PySem.Builtin.Int renaming intBits → gq
open PySem.Calls renaming spliced_cons → iD,spliced_nil → iK,Name_function_global → j4,evalArgs_plain → lX
open PySem.SetTable.layClean renaming free → iR
open PySem.SeqAt.EqAt renaming bool_bool → jD,same → ky,of_refs → m5
open PySem.Builtin.Dict_items renaming ownsTuple → jO
open PySem.Builtin.Builtins renaming bindParams → jV
open PySem.Challenge renaming pw_purseweb_k53_a_purse_and_its_tree → jW,rw_purseweb_k53_a_purse_and_its_tree → jX
open List.Perm renaming refl → je
open PySem.W.WData renaming weightAll → kT,int → nJ
open PySem.SeqAt renaming EqAt → ke
open PySem.Builtin.Dict renaming showsAll → lH
open Prod.mk renaming inj → lZ,injEq → o7
open PySem.EntryCells renaming newEntry → mJ
open List.cons renaming inj → mU
open Sum.inl renaming inj → nU
open PySem.Builtin.Frozenset renaming updateFrom → ni,newClass → oQ,slot0 → o9
open PySem.SetTable.Met.empty renaming injEq → o6
open PyProof.Rows.IsTup renaming new → o8
open PySem.IsRange renaming new → ou
theorem pC.{u}{c:Prop}{h:Decidable c}(hc:c){α:Sort u}{t e:α}:ite c t e=t:=if_pos hc
theorem pE.{u}{c:Prop}{h:Decidable c}(hc:Not c){α:Sort u}{t e:α}:ite c t e=e:=if_neg hc
noncomputable section
set_option Elab.async false
set_option linter.all false
set_option maxRecDepth 100000
namespace L2
open PySem PySem.Spec PyProof.Rows
abbrev YM:=Sum Int ah
def PQ:YM->aJ->Bool
 | .inl k,v=>aJ.isInt k v
 | .inr x,v=>oY x v
def Zad(w:bg):YM->Int
 | .inl k=>hashInt k
 | .inr x=>hashStr w x
theorem Yy:∀{k:YM}{v:aJ},PQ k v=aD->(∃i t,k=eI i/\v=dN i t)\/(∃x t,k=lq x/\v=kI x t)
 | .inl i,v,h=>by obtain⟨t,e⟩:=aJ.isInt_shape (k:=i) (v:=v) h;exact .inl ⟨i,t,rfl,e⟩
 | .inr x,v,h=>by obtain⟨t,e⟩:=aJ.isStrOf_shape (x:=x) (v:=v) h;exact .inr ⟨x,t,rfl,e⟩
theorem JW(i:Int)(t:Tok):PQ (.inl i) (.int i t)=aD:=by simp[PQ,aJ.isInt]
theorem JX(x:ah)(t:Tok):PQ (.inr x) (.str x t)=aD:=by simp[PQ,oY]
theorem Cd(a b:Int):decide ((eI a:YM)=eI b)=(a==b):=by
 by_cases e:a=b
 ·subst e;simp
 ·have h:¬(eI a:YM)=eI b:=λq=>e (nU q);rw[decide_eq_false h];exact(beq_eq_false_iff_ne.mpr e).symm
theorem Ce(a b:ah):decide ((lq a:YM)=lq b)=decide (a=b):=by
 by_cases e:a=b
 ·subst e;simp
 ·have h:¬(lq a:YM)=lq b:=λq=>e (lq.inj q);rw[decide_eq_false h,decide_eq_false e]
theorem Cf(a:Int)(b:ah):decide ((eI a:YM)=lq b)=aC:=decide_eq_false (λq=>nomatch q)
theorem Cg(a:ah)(b:Int):decide ((lq a:YM)=eI b)=aC:=decide_eq_false (λq=>nomatch q)
def YT(prog:bE)(w:bg):PySem.KeyKind prog w YM where
 is:=PQ
 hash:=Zad w
 inj:=λv a b ha hb=>by
  rcases Yy ha with⟨i,t,rfl,rfl⟩ | ⟨x,t,rfl,rfl⟩
  ·rcases Yy hb with⟨j,u,rfl,e⟩ | ⟨y,u,rfl,e⟩
   ·injection e with e1 _;rw[e1]
   ·exact nomatch e
  ·rcases Yy hb with⟨j,u,rfl,e⟩ | ⟨y,u,rfl,e⟩
   ·exact nomatch e
   ·injection e with e1 _;rw[e1]
 byValue:=λk v h=>by rcases Yy h with⟨i,t,rfl,rfl⟩ | ⟨x,t,rfl,rfl⟩<;>rfl
 pyHash:=λhv h=>by
  rcases Yy hv with⟨i,t,rfl,rfl⟩ | ⟨x,t,rfl,rfl⟩
  ·exact wpAny_pyHash_int h
  ·exact wpAny_pyHash_str h
 eqBool:=λhu hv h=>by
  rcases Yy hu with⟨i,t,rfl,rfl⟩ | ⟨x,t,rfl,rfl⟩
  ·rcases Yy hv with⟨j,u,rfl,rfl⟩ | ⟨y,u,rfl,rfl⟩
   ·rw[Cd] at h;exact wpAny_eqBool_int h
   ·rw[Cf] at h;exact ke.int_str i t y u _ _ _ _ h
  ·rcases Yy hv with⟨j,u,rfl,rfl⟩ | ⟨y,u,rfl,rfl⟩
   ·rw[Cg] at h;exact ke.str_int x t j u _ _ _ _ h
   ·rw[Ce] at h;exact wpAny_eqBool_str h
 «strs»:=λk x t v h=>by
  rcases Yy h with⟨i,u,rfl,e⟩ | ⟨y,u,rfl,e⟩
  ·exact nomatch e
  ·injection e with e1 _;subst e1;cases v<;>rfl
theorem NF(prog:bE)(w:bg)(i:Int)(t:Tok):(YT prog w).is (.inl i) (.int i t)=aD:=JW i t
theorem NG(prog:bE)(w:bg)(x:ah)(t:Tok):(YT prog w).is (.inr x) (.str x t)=aD:=JX x t
inductive V where
 | non | bl (b:Bool) | int (i:Int) | str (x:ah) | byt (b:Array UInt8) | flt (b:UInt64) | ref (a:aM) | ty (n:String)
 deriving DecidableEq
def RelV:V->aJ->Prop
 | .non,u=>u=bj
 | .bl b,u=>u=gW b
 | .int i,u=>∃t,u=dN i t
 | .str x,u=>∃t,u=kI x t
 | .byt b,u=>∃t,u=aJ.bytes b t
 | .flt b,u=>∃t,u=aJ.float b t
 | .ref a,u=>u=b7 a
 | .ty n,u=>u=jZ n
abbrev Vals:List V->List aJ->Prop:=Paired RelV
theorem Vals.length{xs:List V}{us:List aJ}(r:Vals xs us):xs.length=us.length:=Paired.length r
theorem Vals.get:∀{xs:List V}{us:List aJ}{i:Nat}{x:V},Vals xs us->xs[i]?=aA x->∃u,us[i]?=aA u/\RelV x u
 | _,_,_,_,.nil,e=>by simp at e
 | _,_,0,_,.cons r _,e=>by simp at e;subst e;exact⟨_,rfl,r⟩
 | _,_,i+1,x,.cons _ t,e=>by obtain⟨u,h1,h2⟩:=Vals.get (i:=i) (x:=x) t (by simpa using e);exact⟨u,by simpa using h1,h2⟩
theorem Vals.set{x:V}{u:aJ}(r:RelV x u):∀{xs:List V}{us:List aJ}(i:Nat),Vals xs us->Vals (xs.set i x) (us.set i u)
 | _,_,_,.nil=>.nil
 | _,_,0,.cons _ t=>.cons r t
 | _,_,i+1,.cons q t=>.cons q (Vals.set r i t)
theorem Vals.append:∀{xs ys:List V}{us ws:List aJ},Vals xs us->Vals ys ws->Vals (xs++ys) (us++ws)
 | _,_,_,_,.nil,s=>s
 | _,_,_,_,.cons r t,s=>.cons r (Vals.append t s)
theorem Vals.take:∀{xs:List V}{us:List aJ}(n:Nat),Vals xs us->Vals (xs.take n) (us.take n)
 | _,_,0,_=>.nil
 | _,_,_+1,.nil=>.nil
 | _,_,n+1,.cons r t=>.cons r (Vals.take n t)
theorem Vals.drop:∀{xs:List V}{us:List aJ}(n:Nat),Vals xs us->Vals (xs.drop n) (us.drop n)
 | _,_,0,r=>r
 | _,_,_+1,.nil=>.nil
 | _,_,n+1,.cons _ t=>Vals.drop n t
def RelO:Option V->Option aJ->Prop
 | some v,aA u=>RelV v u
 | none,aB=>True
 | _,_=>False
def KV{κ:Type}:List (κ×V)->List (κ×aJ)->Prop:=Paired λ(p:κ×V) (q:κ×aJ)=>p.1=q.1/\RelV p.2 q.2
def kV:YM->V
 | .inl i=>.int i
 | .inr x=>.str x
inductive HO where
 /-- a list -/
 | lst (xs:List V)
 /-- a tuple (never changes) -/
 | tup (xs:List V)
 /-- a dict whose keys are ints and texts;one whose keys are tuples of ints and texts (the empty one is both) -/
 | dK (oy:List (YM×V)) | dT (oy:List (List YM×V))
 /-- a set of ints: pA members,pA size -/
 | set (S:Int->Bool) (n:Nat)
 /-- an instance of the class at C,pA dict at dx,pA attributes -/
 | ins (C dx:aM) (fs:List (ah×V))
 /-- the dict of the instance at x -/
 | own (x:aM)
 /-- the dict of an exception -/
 | xd (fs:List (ah×V))
 /-- a bound method,f of x -/
 | met (f x:aM)
 /-- a range object lo,lo+1,.. below hi -/
 | rng (lo hi:Int)
 /-- a thing that is known to the object (the script;a dict while a loop walks it): read,never written while it is so -/
 | frz (o:dX) (u:HO)
 /-- a code object's table -/
 | tbl (ps:Array aJ)
 /-- any other thing,by what is aD of pA one object (a def of one's own: SetO a S n:=HO.ext λh=>..) -/
 | ext (φ:bw->Prop)
abbrev Hp:=aM->Option HO
def upd(H:Hp)(a:aM)(o:HO):Hp:=λb=>if b=a then aA o else H b
theorem upd_same{H:Hp}{a:aM}{o:HO}:upd H a o a=aA o:=by unfold upd;rw[pC rfl]
theorem upd_ne{H:Hp}{a b:aM}{o:HO}(h:b≠a):upd H a o b=H b:=by unfold upd;rw[pE h]
theorem BS{H:Hp}{a b:aM}{o u:HO}(h:H a=aA o)(h':H b=aA u)(d:o≠u):a≠b:=by intro e;subst e;rw[h] at h';exact d (bB h')
theorem Zp{H:Hp}{a b:aM}{o:HO}(h:H a=aA o)(h':H b=aB):a≠b:=by intro e;subst e;rw[h] at h';cases h'
def RQ(x:ah):Bool:=x=="tree_of" || x=="still_by" || x=="made_of"
def Qa(x:ah):ah:=x++".<locals>."++"<lambda>"
def M6(o:dX)(q:ah):Prop:=∃vs t,o.data = .fields vs/\vs[1]?=aA (.str q t)
def Wn(q:ah)(H:Hp)(ps:List aJ):Prop:=TriplesOk ps/\∀pos v,jY pos ps=aA v->∃c o,v = .ref c/\H c=aA (.frz o (.own 0))/\M6 o q
theorem OG{h:bw}{T:aJ}{xs:Array aJ}{n:Nat}{o:dX}(e:(h.push { cls:=T,data:=.seq xs n }).get? h.objs.size=aA o):o.dict=aB:=by rw[aj _ rfl] at e;cases e;rfl
section
variable (P:bE) (w:bg)
def ObjOk(H:Hp)(h:bw)(a:aM):HO->Prop
 | .lst xs=>xs.length<=sizeLine/\∃(pA:List aJ) (n:Nat),Vals xs pA/\h.get? a=aA { cls:=.type "list",data:=.seq pA.toArray n }
 | .tup xs=>(xs.length<=sizeLine/\∀o,h.get? a=aA o->o.dict=aB)/\∃pA:List aJ,Vals xs pA/\IsTup h a pA.toArray
 | .dK oy=>oy.length<=sizeLine/\(a==fM)=aC/\∃vs,KV oy vs/\h.DictOf (YT P w) a vs
 | .dT oy=>oy.length<=sizeLine/\(a==fM)=aC/\∃xs:List (List YM×aM×aJ),
   Paired (λ(p:List YM×V) (q:List YM×aM×aJ)=>p.1=q.1/\H q.2.1=aA (.tup (p.1.map kV))/\RelV p.2 q.2.2) oy xs/\
   ∃o es ep,h.get? a=aA o/\o.ExactDict/\o.data = .dict es ep/\es.toList=xs.map (entryOfKey (kJ (YT P w)))/\(xs.map (·.1)).Nodup
 | .set S n=>h.SetOf (jR P w) a S n
 | .ins C dx fs=>H dx=aA (.own a)/\fs.length<=1000/\dx≠a/\h.get? a=aA (ko C dx)/\
   ∃mA,h.Ns1 dx mA/\(∀f,RelO (fs.lookup f) (mA f))/\oh mA (fs.map (·.1))
 | .own _=>∃o,h.get? a=aA o
 | .xd fs=>∃mA,h.Ns1 a mA/\∀f,RelO (fs.lookup f) (mA f)
 | .rng lo hi=>∃t u v,h.get? a=aA { cls:=.type "range",data:=.fields #[.int lo t,.int hi u,.int 1 v] }
 | .frz o u=>h.get? a=aA o/\ObjOk H h a u
 | .tbl ps=>∃(q:ah) (t:Tok) (ps':Array aJ),ps[0]?=aA (.str q t)/\h.get? a=aA { cls:=.none,data:=.fields ps' }/\Wn q H ps'.toList
 | .met f x=>h.get? a=aA (ji (.ref f) (.ref x))
 | .ext φ=>φ h/\(∃o,h.get? a=aA o)/\∀h1 h2:bw,φ h1->(∀o,h1.get? a=aA o->h2.get? a=aA o)->φ h2
def HOk(H:Hp)(h:bw):Prop:=∀a o,H a=aA o->ObjOk P w H h a o
end
section
variable {P:bE} {w:bg} {H H':Hp} {h h':bw} {a:aM} {o:HO}
theorem ObjOk.lt(x:ObjOk P w H h a o):a<h.objs.size:=by
 cases o with
 | lst xs=>obtain⟨_,_,_,_,e⟩:=x;exact aW e
 | tup xs=>obtain⟨_,_,_,p⟩:=x;exact p.lt
 | dK oy=>obtain⟨_,_,_,_,o,_,_,e,_⟩:=x;exact aW e
 | dT oy=>obtain⟨_,_,_,_,o,_,_,e,_⟩:=x;exact aW e
 | set S n=>obtain⟨o,_,_,_,e,_⟩:=x;exact aW e
 | ins C dx fs=>obtain⟨_,_,_,e,_⟩:=x;exact aW e
 | own y=>obtain⟨_,e⟩:=x;exact aW e
 | xd fs=>obtain⟨_,⟨_,_,_,e,_⟩,_⟩:=x;exact aW e
 | rng lo hi=>obtain⟨_,_,_,e⟩:=x;exact aW e
 | frz ob u=>obtain⟨e,_⟩:=x;exact aW e
 | tbl ps=>obtain⟨_,_,_,_,e,_⟩:=x;exact aW e
 | met f y=>exact aW (show h.get? a=aA _ from x)
 | ext φ=>obtain⟨_,⟨_,e⟩,_⟩:=x;exact aW e
theorem Paired.mapP{α β:Type}{F G:α->β->Prop}:∀{l₁:List α}{l₂:List β},Paired F l₁ l₂->(∀a b,F a b->G a b)->Paired G l₁ l₂
 | _,_,.nil,_=>.nil
 | _,_,.cons r t,f=>.cons (f _ _ r) (Paired.mapP t f)
theorem ObjOk.stay(x:ObjOk P w H h a o)(k:∀b u,(b=a\/H b=aA (.own a))->h.get? b=aA u->h'.get? b=aA u)
  (ho:∀b,H b=aA (.own a)->H' b=aA (.own a)) (ht:∀b xs,H b=aA (.tup xs)->H' b=aA (.tup xs)) (hf:∀b u,H b=aA (.frz u (.own 0))->H' b=aA (.frz u (.own 0))):ObjOk P w H' h' a o:=by
 induction o with
 | lst xs=>obtain⟨z,pA,n,r,e⟩:=x;exact⟨z,pA,n,r,k _ _ (.inl rfl) e⟩
 | tup xs=>obtain⟨z,pA,r,ob,e,c⟩:=x;exact⟨⟨z.1,λo q=>by rw[k _ _ (.inl rfl) e] at q;cases q;exact z.2 _ e⟩,pA,r,ob,k _ _ (.inl rfl) e,c⟩
 | dK oy=>obtain⟨z,y,vs,r,ob,es,ep,e,c⟩:=x;exact⟨z,y,vs,r,ob,es,ep,k _ _ (.inl rfl) e,c⟩
 | dT oy=>
  obtain⟨z,y,xs,r,ob,es,ep,e,c⟩:=x;exact⟨z,y,xs,Paired.mapP r λp q z=>⟨z.1,ht _ _ z.2.1,z.2.2⟩,ob,es,ep,k _ _ (.inl rfl) e,c⟩
 | set S n=>obtain⟨ob,es,ep,t,e,c⟩:=x;exact⟨ob,es,ep,t,k _ _ (.inl rfl) e,c⟩
 | ins C dx fs=>
  obtain⟨d,z,ne,e,mA,⟨od,es,ep,e2,c⟩,r⟩:=x;exact⟨ho _ d,z,ne,k _ _ (.inl rfl) e,mA,⟨od,es,ep,k _ _ (.inr d) e2,c⟩,r⟩
 | own y=>obtain⟨ob,e⟩:=x;exact⟨ob,k _ _ (.inl rfl) e⟩
 | xd fs=>obtain⟨mA,⟨od,es,ep,e,c⟩,r⟩:=x;exact⟨mA,⟨od,es,ep,k _ _ (.inl rfl) e,c⟩,r⟩
 | rng lo hi=>obtain⟨t,u,v,e⟩:=x;exact⟨t,u,v,k _ _ (.inl rfl) e⟩
 | frz ob u ih=>obtain⟨e,q⟩:=x;exact⟨k _ _ (.inl rfl) e,ih q⟩
 | tbl ps=>
  obtain⟨q,t,ps',e0,e,t1,t2⟩:=x;refine⟨q,t,ps',e0,k a _ (.inl rfl) e,t1,λpos v hv=>?_⟩;obtain⟨c,o,e1,e2,e3⟩:=t2 pos v hv;exact⟨c,o,e1,hf c o e2,e3⟩
 | met f y=>
  have e:h.get? a=aA (ji (.ref f) (.ref y)):=x;show h'.get? a=aA (ji (.ref f) (.ref y));exact k a _ (.inl rfl) e
 | ext φ=>obtain⟨p,⟨o,e⟩,st⟩:=x;exact⟨st _ _ p λo q=>k _ _ (.inl rfl) q,⟨o,k _ _ (.inl rfl) e⟩,st⟩
theorem HOk.lt(x:HOk P w H h)(e:H a=aA o):a<h.objs.size:=(x a o e).lt
theorem HOk.fresh(x:HOk P w H h)(e:h.objs.size<=a):H a=aB:=by
 cases q:H a with
 | none=>rfl
 | some u=>exact absurd (ar (x.lt q) e) (cU _)
theorem HOk.kept(x:HOk P w H h)(k:∀b u,h.get? b=aA u->h'.get? b=aA u):HOk P w H h':=λa o e=>
 (x a o e).stay (λb u _ q=>k b u q) (λ_ q=>q) (λ_ _ q=>q) λ_ _ q=>q
theorem HOk.laid(x:HOk P w H h)(k:∀b u,h.get? b=aA u->h'.get? b=aA u)(hp:h.objs.size<=a)(new:ObjOk P w (upd H a o) h' a o):HOk P w (upd H a o) h':=λb u e=>by
 have hn:=x.fresh hp;by_cases hb:b=a
 ·subst hb;rw[upd_same] at e;cases e;exact new
 ·rw[upd_ne hb] at e;exact(x b u e).stay (λc v _ q=>k c v q) (λc q=>by rw[upd_ne (Zp q hn)];exact q) (λc xs q=>by rw[upd_ne (Zp q hn)];exact q) λc u q=>by rw[upd_ne (Zp q hn)];exact q
end
def Rd(H:Hp)(a:aM)(u:HO):Prop:=H a=aA u\/∃o,H a=aA (.frz o u)
theorem Rd.ok{P:bE}{w:bg}{H:Hp}{h:bw}{a:aM}{u:HO}(r:Rd H a u)(x:HOk P w H h):ObjOk P w H h a u:=by
 rcases r with r | ⟨o,r⟩
 ·exact x a u r
 ·obtain⟨_,q⟩:=x a _ r;exact q
def Vx:Option HO->Prop
 | some (.lst _)=>True
 | some (.dK _)=>True
 | some (.dT _)=>True
 | some (.set _ _)=>True
 | some (.ins _ _ _)=>True
 | some (.ext _)=>True
 | _=>False
section
variable {P:bE} {w:bg} {H:Hp} {h h':bw} {x e:aM} {o':HO}
theorem HOk.write(ok:HOk P w H h)(mu:Vx (H x))(he:e=x\/H e=aA (.own x))(k:∀b u,b≠e->h.get? b=aA u->h'.get? b=aA u)(heo:∃u,h'.get? e=aA u)
  (new:ObjOk P w (upd H x o') h' x o'):HOk P w (upd H x o') h':=λb u q=>by
 have nown:∀c y,H c=aA (.own y)->c≠x:=λc y r z=>by subst z;rw[r] at mu;exact mu
 have ntup:∀c xs,H c=aA (.tup xs)->c≠x:=λc xs r z=>by subst z;rw[r] at mu;exact mu
 by_cases hb:b=x
 ·subst hb;rw[upd_same] at q;cases q;exact new
 ·rw[upd_ne hb] at q;by_cases hbe:b=e
  ·have q':H b=aA (.own x):=by
    rcases he with z | z
    ·exact absurd (hbe.trans z) hb
    ·rw[hbe];exact z
   rw[q] at q';cases q';obtain⟨v,hv⟩:=heo;exact⟨v,by rw[hbe];exact hv⟩
  ·refine(ok b u q).stay (λc v hc r=>k c v ?_ r) (λc r=>by rw[upd_ne (nown c b r)];exact r) (λc xs r=>by rw[upd_ne (ntup c xs r)];exact r) λc v r=>by rw[upd_ne (λz=>by subst z;rw[r] at mu;exact mu)];exact r
   rcases hc with rfl | hc
   ·exact hbe
   ·rintro rfl;rcases he with z | z
    ·exact nown c b hc z
    ·rw[hc] at z;cases z;exact hb rfl
end
structure Un(fs ex:List aM)(H H':Hp)(h h':bw):Prop where
 keep:∀b o,h.get? b=aA o->H b=aB->b∉fs->b∉ex->h'.get? b=aA o
 slot:∀b o,h.get? b=aA o->H b=aB->b∈fs->b∉ex->∃sl,h'.get? b=aA { o with slots:=sl }
 free:∀b o,h.get? b=aA o->H b=aB->b∉ex->H' b=aB
 there:∀b o,h.get? b=aA o->b∉ex->∃o',h'.get? b=aA o'
 tups:∀b xs,H b=aA (.tup xs)->H' b=aA (.tup xs)
 frzs:∀b o u,H b=aA (.frz o u)->H' b=aA (.frz o u)
 tbls:∀b ps,H b=aA (.tbl ps)->∃more,H' b=aA (.tbl (ps++more))
section
variable {fs fs' ex ex':List aM} {H H1 H2:Hp} {h h1 h2 h':bw} {a x e:aM} {o:HO}
theorem Un.any(u:Un fs ex H H1 h h1){b:aM}{ob:dX}(q:h.get? b=aA ob)(n:H b=aB)(hx:b∉ex):∃sl,h1.get? b=aA { ob with slots:=sl }:=by
 by_cases hb:b∈fs
 ·exact u.slot b ob q n hb hx
 ·exact⟨ob.slots,u.keep b ob q n hb hx⟩
theorem Un.kept(k:∀b u,h.get? b=aA u->h'.get? b=aA u):Un fs ex H H h h':=
 ⟨λb ob q _ _ _=>k b ob q,λb ob q _ _ _=>⟨ob.slots,k b ob q⟩,λ_ _ _ n _=>n,λb ob q _=>⟨ob,k b ob q⟩,λ_ _ q=>q,λ_ _ _ q=>q,λ_ ps q=>⟨#[],by rw[q];simp⟩⟩
theorem Un.refl:Un fs ex H H h h:=Un.kept λ_ _ q=>q
theorem Un.laid(k:∀b u,h.get? b=aA u->h'.get? b=aA u)(hp:h.objs.size<=a)(hn:H a=aB):Un fs ex H (upd H a o) h h' where
 keep:=λb u q _ _ _=>k b u q
 slot:=λb u q _ _ _=>⟨u.slots,k b u q⟩
 free:=λb u q n _=>by rw[upd_ne (bH (ar (aW q) hp))];exact n
 there:=λb u q _=>⟨u,k b u q⟩
 tups:=λb xs q=>by rw[upd_ne (Zp q hn)];exact q
 frzs:=λb u xs q=>by rw[upd_ne (Zp q hn)];exact q
 tbls:=λb ps q=>⟨#[],by rw[upd_ne (Zp q hn),q];simp⟩
theorem Un.write(mu:Vx (H x))(he:e=x\/H e=aA (.own x))(k:∀b u,b≠e->h.get? b=aA u->h'.get? b=aA u)(heo:∃u,h'.get? e=aA u):Un fs ex H (upd H x o) h h':=by
 have hx:∀b,H b=aB->b≠x:=λb n z=>by subst z;rw[n] at mu;exact mu
 have hb:∀b,H b=aB->b≠e:=λb n z=>by
  subst z;rcases he with r | r
  ·exact hx b n r
  ·rw[n] at r;cases r
 have hm:∀b u,H b=aA u->¬Vx (aA u)->b≠x:=λb u q nm z=>by subst z;rw[q] at mu;exact nm mu
 refine⟨λb u q n _ _=>k b u (hb b n) q,λb u q n _ _=>⟨u.slots,k b u (hb b n) q⟩,λb u q n _=>by rw[upd_ne (hx b n)];exact n,λb u q _=>?_,
  λb xs q=>by rw[upd_ne (hm b _ q λz=>z)];exact q,λb u xs q=>by rw[upd_ne (hm b _ q λz=>z)];exact q,λb ps q=>⟨#[],by rw[upd_ne (hm b _ q λz=>z),q];simp⟩⟩
 by_cases hbe:b=e
 ·subst hbe;exact heo
 ·exact⟨u,k b u hbe q⟩
end
def TabsH(K:aI)(mg:ah->Option aJ)(base:bw)(H:Hp):Prop:=∀(q:ah)(c:aM),RQ q=aD->dY K (.ref c) q=aD->
 ∃Pt ps t,lQ base c Pt/\H Pt=aA (.tbl ps)/\ps[0]?=aA (.str (Qa q) t)/\base.BuiltinsAt mg Pt
theorem TabsH.un{K:aI}{mg:ah->Option aJ}{base:bw}{fs ex:List aM}{H H':Hp}{h h':bw}(t:TabsH K mg base H)(u:Un fs ex H H' h h'):TabsH K mg base H':=λq c hq hc=>by
 obtain⟨Pt,ps,tk,e1,e2,e3,e4⟩:=t q c hq hc;obtain⟨more,e5⟩:=u.tbls Pt ps e2
 have hlt:0<ps.size:=by
  cases z:ps.size with
  | zero=>rw[gC (by omega)] at e3;cases e3
  | succ n=>omega
 exact⟨Pt,_,tk,e1,e5,by rw[Array.getElem?_append_left hlt];exact e3,e4⟩
def A4(h:bw)(H:Hp):List aM:=(aS h.objs.size).filter λa=>(H a).isSome
def Po(h:bw)(H:Hp):bw:=PySem.W.hideAll h (A4 h H)
theorem JY(h:bw)(H:Hp):(Po h H).objs.size=h.objs.size:=PySem.W.hideAll_size _ _
theorem HQ{h:bw}{H:Hp}{b:aM}{o:dX}(e:h.get? b=aA o)(n:H b=aB):(Po h H).get? b=aA o:=
 PySem.W.hideAll_get _ e λhm=>by have q:(H b).isSome=aD:=(gK.mp hm).2;rw[n] at q;simp at q
theorem F6{h:bw}{H:Hp}{b:aM}{o:dX}(e:(Po h H).get? b=aA o):h.get? b=aA o/\H b=aB:=by
 have e':h.get? b=aA o:=PySem.W.of_hideAll (A4 h H) e;refine⟨e',?_⟩
 cases q:H b with
 | none=>rfl
 | some x=>
  have hm:b∈A4 h H:=gK.mpr ⟨bR.mpr (aW e'),by simp[q]⟩;have z:(Po h H).get? b=aB:=PySem.W.hideAll_none (A4 h H) hm;rw[z] at e;cases e
def F7(g h:bw)(L:aM):List (aM×dX):=(aS h.objs.size).filterMap λa=>if a=L\/(g.get? a).isSome=aD then aB else(h.get? a).map λo=>(a,o)
def Zt(g h:bw)(L d:aM):List (aM×dX):=(F7 g h L).filter λp=>decide (p.1≠d)
structure Mod(K:aI)(mg:ah->Option aJ)(base:bw):Prop where
 kin:K.In base
 glob:base.Ns bJ mg
 blt:∃mb,base.Ns kY mb/\∀x:ah,x≠"__name__"->mb x=dG x
 nolimit:base.NoLimit
structure Cx where
 prog:bE
 w:bg
 K:aI
 mg:ah->Option aJ
 base:bw
 A:bc
 N:List ah
 s₀:aN
 H₀:Hp
 env:lP
 outer:List lP
 stack:List lP
 ex:List aM
 fn:ah->Bool
 calm:Bool
 pn:List (aM×dX)
 xe:aJ->aN->Prop
def OH(l:List lP):List aM:=l.filterMap (·.frame)
abbrev Cx.fs(X:Cx):List aM:=OH X.outer
def A5(sc:gk)(x:ah):Prop:=sc.names.lookup x=aA .local\/sc.names.lookup x=aA .cell\/sc.names.lookup x=aA .free
def BU(sc:gk)(x:ah):Prop:=sc.names.lookup x=aA .local\/sc.names.lookup x=aA .cell
def Zae(env:lP)(h:bw)(m:ah->Option aJ)(x:ah)(u:aJ):Prop:=
 (env.kindOf x=aA .local/\m x=aA u)\/((env.kindOf x=aA .cell\/env.kindOf x=aA .free)/\∃c,env.cells.lookup x=aA c/\h.IsCell c (aA u))
structure Cx.Ok(X:Cx):Prop where
 mod:Mod X.K X.mg X.base
 kind:X.env.scope.kind = .function
 glob:X.env.globals=bJ
 blt:X.env.builtins=kY
 above:X.s₀.heap.objs.size<=X.env.locals
 inj:∀x y c,X.env.cells.lookup x=aA c->X.env.cells.lookup y=aA c->x=y
 has:∀x,(X.env.kindOf x=aA .cell\/X.env.kindOf x=aA .free)->∃c,X.env.cells.lookup x=aA c
 cab:∀x c,X.fn x=aD->X.env.cells.lookup x=aA c->X.s₀.heap.objs.size<=c
 hd:X.calm=aD->X.A.handled=aB
 frames:X.A.frames=aA X.stack
 stk:X.stack=X.outer\/(X.stack=X.env::X.outer/\X.env.frame=aA X.env.locals)
 exf:∀b∈X.ex,b≠X.env.locals/\∀x c,X.env.cells.lookup x=aA c->c≠b
 bs:∀b o,X.base.get? b=aA o->X.s₀.heap.get? b=aA o/\X.H₀ b=aB
 bsz:X.base.objs.size<=X.s₀.heap.objs.size
 noex:∀b o,X.base.get? b=aA o->b∉X.ex
 exfs:∀b∈X.ex,b∉X.fs
 funs:X.s₀.heap.FunFrames X.base X.outer
 frf:∀b∈X.fs,X.H₀ b=aB
 tab:TabsH X.K X.mg X.base X.H₀
 cod:∀q:ah,X.env.func≠aB->X.env.qual=q++".<locals>."->RQ q=aD->dY X.K X.env.code q=aD
structure Inv(X:Cx)(du:List (aM×dX))(Z:List (Option V))(H:Hp)(s:aN):Prop where
 ok:X.Ok
 os:s.os=X.s₀.os
 bare:jl s.gens
 base:Un X.fs X.ex X.H₀ H X.s₀.heap s.heap
 loc:∃m,s.heap.Ns X.env.locals m/\∀(i:Nat)(x:ah)(v:V),X.N[i]?=aA x->Z[i]?=aA (aA v)->A5 X.env.scope x->∃u,RelV v u/\Zae X.env s.heap m x u
 cell:∀x c,X.env.cells.lookup x=aA c->∃v,s.heap.IsCell c v
 free:H X.env.locals=aB
 freeC:∀x c,X.env.cells.lookup x=aA c->H c=aB
 pin:∀p∈X.pn++du,s.heap.get? p.1=aA p.2/\H p.1=aB/\p.1≠X.env.locals/\p.1∉X.fs/\∀v,p.2.data≠.cell v
 hok:HOk X.prog X.w H s.heap
 len:Z.length=X.N.length
section
variable {X:Cx} {du:List (aM×dX)} {Z:List (Option V)} {H H':Hp} {s:aN} {h':bw}
theorem Cx.Ok.nofr(ok:X.Ok){b:aM}{o:dX}(e:X.base.get? b=aA o):b∉X.fs:=λhb=>by have:=(ok.funs.mem hb).1;rw[e] at this;cases this
theorem Inv.bs(I:Inv X du Z H s):∀b o,X.base.get? b=aA o->s.heap.get? b=aA o/\H b=aB:=λb o e=>
 ⟨I.base.keep b o (I.ok.bs b o e).1 (I.ok.bs b o e).2 (I.ok.nofr e) (I.ok.noex b o e),I.base.free b o (I.ok.bs b o e).1 (I.ok.bs b o e).2 (I.ok.noex b o e)⟩
theorem Inv.bk(I:Inv X du Z H s):∀b o,X.base.get? b=aA o->s.heap.get? b=aA o:=λb o e=>(I.bs b o e).1
theorem Inv.mod(I:Inv X du Z H s):Mod X.K X.mg X.base:=I.ok.mod
theorem Inv.kIn(I:Inv X du Z H s):X.K.In s.heap:=I.ok.mod.kin.keeps I.bk
theorem Inv.fr(I:Inv X du Z H s):∃m,Fr X.base X.env.locals s.heap m:=
 let⟨m,hn,_⟩:=I.loc
 ⟨m,hn,I.bk,cu I.ok.bsz I.ok.above⟩
theorem Inv.lt(I:Inv X du Z H s):X.env.locals<s.heap.objs.size:=let⟨_,hn,_⟩:=I.loc;hn.lt
theorem Inv.sz(I:Inv X du Z H s):X.s₀.heap.objs.size<=s.heap.objs.size:=cu I.ok.above (dH I.lt)
theorem Inv.nofs(I:Inv X du Z H s){a:aM}(h:s.heap.objs.size<=a):a∉X.fs:=λhb=>by obtain⟨_,o,ho,_⟩:=I.ok.funs.mem hb;exact absurd (ar (aW ho) (cu I.sz h)) (cU _)
theorem Inv.cne(I:Inv X du Z H s):∀x c,X.env.cells.lookup x=aA c->c≠X.env.locals:=λx c e z=>by obtain⟨v,o,ho,hd⟩:=I.cell x c e;obtain⟨m,⟨o',es,ep,ho',hd',_⟩,_⟩:=I.loc;rw[z,ho'] at ho;cases ho;rw[hd'] at hd;cases hd
theorem Inv.funs(I:Inv X du Z H s):s.heap.FunFrames X.base X.outer:=by
 have all:∀(l:List lP),(∀b∈OH l,b∈X.fs)->X.s₀.heap.FunFrames X.base l->s.heap.FunFrames X.base l:=by
  intro l
  induction l with
  | nil=>intro _ _;trivial
  | cons env r ih=>
   intro hs hl;obtain⟨hk,⟨L,o,hf,hn,ho,hd⟩,hr⟩:=hl;have hL:L∈X.fs:=hs L (by unfold OH;rw[di,hf];exact ag);obtain⟨sl,e⟩:=I.base.slot L o ho (I.ok.frf L hL) hL λz=>I.ok.exfs L z hL;exact⟨hk,⟨L,_,hf,hn,e,hd⟩,ih (λb hb=>hs b (by unfold OH;rw[di,hf];exact aT _ hb)) hr⟩
 exact all X.outer (λ_ hb=>hb) I.ok.funs
theorem Inv.stack(I:Inv X du Z H s):s.heap.FunFrames X.base X.stack:=by
 rcases I.ok.stk with e | ⟨e,hf⟩
 ·rw[e];exact I.funs
 ·rw[e];obtain⟨m,hn,_⟩:=I.loc;refine .cons (by rw[I.ok.kind];decide) hf hn ?_ I.funs;exact jA (cu I.ok.bsz I.ok.above)
theorem Inv.stkSub(I:Inv X du Z H s):∀b∈OH X.stack,b∈X.env.locals::X.fs:=λb hb=>by
 rcases I.ok.stk with e | ⟨e,hf⟩
 ·rw[e] at hb;exact aT _ hb
 ·rw[e] at hb;unfold OH at hb;rw[di,hf] at hb;exact hb
theorem Inv.stkFree(I:Inv X du Z H s):∀b∈OH X.stack,H b=aB:=λb hb=>by
 rcases a9.mp (I.stkSub b hb) with e | hb
 ·rw[e];exact I.free
 ·obtain⟨_,o,ho,_⟩:=I.ok.funs.mem hb;exact I.base.free b o ho (I.ok.frf b hb) λz=>I.ok.exfs b z hb
theorem Inv.step{g':Array ml}{t':Nat}{d':Drawn}{ch:List aM}(I:Inv X du Z H s)
  (hch:∀b∈ch,(b∈X.ex\/X.s₀.heap.objs.size<=b)/\b≠X.env.locals/\(∀x c,X.env.cells.lookup x=aA c->c≠b)/\∀p∈X.pn++du,p.1≠b)
  (keep:∀b o,b≠X.env.locals->b∉X.fs->b∉ch->s.heap.get? b=aA o->H b=aB->h'.get? b=aA o)
  (slot:∀b o,b≠X.env.locals->b∈X.fs->b∉ch->s.heap.get? b=aA o->H b=aB->∃sl,h'.get? b=aA { o with slots:=sl }) (free:∀b o,b∉ch->s.heap.get? b=aA o->H b=aB->H' b=aB)
  (there:∀b o,b∉ch->s.heap.get? b=aA o->∃o',h'.get? b=aA o')
  (tups:∀b xs,H b=aA (.tup xs)->H' b=aA (.tup xs)) (frzs:∀b o u,H b=aA (.frz o u)->H' b=aA (.frz o u)) (tbls:∀b ps,H b=aA (.tbl ps)->∃more,H' b=aA (.tbl (ps++more)))
  (ns:∀m,s.heap.Ns X.env.locals m->h'.Ns X.env.locals m) (hok:HOk X.prog X.w H' h') (hg:jl g') :
  Inv X du Z H' { s with heap:=h',gens:=g',drawn:=d',toks:=t' }:=by
 have neL:∀b o,X.s₀.heap.get? b=aA o->b≠X.env.locals:=λb o e=>bH (ar (aW e) I.ok.above)
 have neC:∀b o,X.s₀.heap.get? b=aA o->b∉X.ex->b∉ch:=λb o e hx hb=>by
  rcases(hch b hb).1 with z | z
  ·exact hx z
  ·exact absurd (ar (aW e) z) (cU _)
 have cellK:∀x c,X.env.cells.lookup x=aA c->∀v,s.heap.IsCell c v->h'.IsCell c v:=λx c e v ⟨o,ho,hd⟩=>by
  have nch:c∉ch:=λz=>(hch c z).2.2.1 x c e rfl;by_cases hc:c∈X.fs
  ·obtain⟨sl,q⟩:=slot c o (I.cne x c e) hc nch ho (I.freeC x c e);exact⟨_,q,hd⟩
  ·exact⟨o,keep c o (I.cne x c e) hc nch ho (I.freeC x c e),hd⟩
 refine⟨I.ok,I.os,hg,⟨λb o e n hb hx=>?_,λb o e n hb hx=>?_,λb o e n hx=>?_,λb o e hx=>?_,λb xs e=>tups b xs (I.base.tups b xs e),λb o xs e=>frzs b o xs (I.base.frzs b o xs e),λb ps e=>?_⟩,?_,λx c e=>?_,?_,λx c e=>?_,λp hp=>?_,hok,I.len⟩
 ·exact keep b o (neL b o e) hb (neC b o e hx) (I.base.keep b o e n hb hx) (I.base.free b o e n hx)
 ·obtain⟨sl,e1⟩:=I.base.slot b o e n hb hx;obtain⟨sl',e2⟩:=slot b _ (neL b o e) hb (neC b o e hx) e1 (I.base.free b o e n hx);exact⟨sl',e2⟩
 ·obtain⟨o',e1⟩:=I.base.there b o e hx;exact free b o' (neC b o e hx) e1 (I.base.free b o e n hx)
 ·obtain⟨o',e1⟩:=I.base.there b o e hx;exact there b o' (neC b o e hx) e1
 ·obtain⟨m1,e1⟩:=I.base.tbls b ps e;obtain⟨m2,e2⟩:=tbls b _ e1;exact⟨m1++m2,by rw[e2,Array.append_assoc]⟩
 ·obtain⟨m,hn,hl⟩:=I.loc;refine⟨m,ns m hn,λi x v e1 e2 e3=>?_⟩;obtain⟨u,r,l⟩:=hl i x v e1 e2 e3;refine⟨u,r,?_⟩;rcases l with l | ⟨k,c,e,z⟩
  ·exact .inl l
  ·exact .inr ⟨k,c,e,cellK x c e _ z⟩
 ·obtain⟨v,z⟩:=I.cell x c e;exact⟨v,cellK x c e v z⟩
 ·obtain⟨m,⟨o,_,_,ho,_⟩,_⟩:=I.loc;exact free _ o (λz=>(hch _ z).2.1 rfl) ho I.free
 ·obtain⟨v,o,ho,hd⟩:=I.cell x c e;exact free c o (λz=>(hch c z).2.2.1 x c e rfl) ho (I.freeC x c e)
 ·obtain⟨e,n,ne,nf,d⟩:=I.pin p hp;have nch:p.1∉ch:=λz=>(hch p.1 z).2.2.2 p hp rfl;exact⟨keep p.1 p.2 ne nf nch e n,free p.1 p.2 nch e n,ne,nf,d⟩
theorem Inv.un{t':Nat}(I:Inv X du Z H s)(u:Un X.fs [] H H' s.heap h')(hok:HOk X.prog X.w H' h'):Inv X du Z H' { s with heap:=h',toks:=t' }:=by
 obtain⟨m,⟨o,es,ep,ho,r⟩,_⟩:=id I.loc;obtain⟨sl,hL⟩:=u.any ho I.free (by simp)
 exact I.step (g':=s.gens) (d':=s.drawn) (ch:=[]) (λ_ z=>nomatch z) (λb o _ hb _ e n=>u.keep b o e n hb (by simp)) (λb o _ hb _ e n=>u.slot b o e n hb (by simp)) (λb o _ e n=>u.free b o e n (by simp)) (λb o _ e=>u.there b o e (by simp)) u.tups u.frzs u.tbls (λm' hm=>by
  obtain⟨o',es',ep',ho',r'⟩:=hm;rw[ho] at ho';cases ho';exact⟨_,es',ep',hL,r'⟩) hok I.bare
theorem Inv.call{g':Array ml}{t':Nat}{d':Drawn}{ch:List aM}(I:Inv X du Z H s)(u:Un (OH X.stack) ch H H' s.heap h')(hok:HOk X.prog X.w H' h')(hg:jl g')
  (hch:∀b∈ch,(b∈X.ex\/X.s₀.heap.objs.size<=b)/\b≠X.env.locals/\(∀x c,X.env.cells.lookup x=aA c->c≠b)/\∀p∈X.pn++du,p.1≠b) :
  Inv X du Z H' { s with heap:=h',gens:=g',drawn:=d',toks:=t' }:=by
 obtain⟨m,⟨o,es,ep,ho,r⟩,_⟩:=id I.loc;obtain⟨sl,hL⟩:=u.any ho I.free λz=>(hch _ z).2.1 rfl
 exact I.step (ch:=ch) hch (λb o hL hb hc e n=>u.keep b o e n (λz=>(a9.mp (I.stkSub b z)).elim hL hb) hc) (λb o _ _ hc e n=>u.any e n hc) (λb o hc e n=>u.free b o e n hc) (λb o hc e=>u.there b o e hc) u.tups u.frzs u.tbls (λm' hm=>by
  obtain⟨o',es',ep',ho',r'⟩:=hm;rw[ho] at ho';cases ho';exact⟨_,es',ep',hL,r'⟩) hok hg
theorem Inv.turned{t':Nat}{it:aM}(I:Inv X du Z H s)(k:∀b o,b≠it->s.heap.get? b=aA o->h'.get? b=aA o)(hn:H it=aB)(hL:it≠X.env.locals)
  (h1:it∈X.ex\/X.s₀.heap.objs.size<=it) (h2:∀x c,X.env.cells.lookup x=aA c->c≠it) (h3:∀p∈X.pn++du,p.1≠it):Inv X du Z H { s with heap:=h',toks:=t' }:=by
 have nit:∀b u,H b=aA u->b≠it:=λb u e z=>by rw[z,hn] at e;cases e
 refine I.step (g':=s.gens) (d':=s.drawn) (ch:=[it]) (λb hb=>?_) (λb o _ _ hc e _=>k b o (λz=>hc (by simp[z])) e) (λb o _ _ hc e _=>⟨o.slots,k b o (λz=>hc (by simp[z])) e⟩) (λ_ _ _ _ n=>n)
  (λb o hc e=>⟨o,k b o (λz=>hc (by simp[z])) e⟩) (λ_ _ e=>e) (λ_ _ _ e=>e) (λb ps e=>⟨#[],by rw[e];simp⟩) (λm hm=>?_) (λb u e=>?_) I.bare
 ·have e:b=it:=by simpa using hb
  subst e;exact⟨h1,hL,h2,h3⟩
 ·obtain⟨o,es,ep,ho,r⟩:=hm;exact⟨o,es,ep,k _ o (cY hL) ho,r⟩
 ·refine(I.hok b u e).stay (λc v hc q=>k c v ?_ q) (λ_ q=>q) (λ_ _ q=>q) λ_ _ q=>q;rcases hc with z | z
  ·rw[z];exact nit b u e
  ·exact nit c _ z
theorem Inv.tok(I:Inv X du Z H s)(t:Nat):Inv X du Z H { s with toks:=t }:=I.un (h':=s.heap) (t':=t) Un.refl I.hok
theorem Inv.kept{t':Nat}(I:Inv X du Z H s)(k:∀b u,s.heap.get? b=aA u->h'.get? b=aA u):Inv X du Z H { s with heap:=h',toks:=t' }:=I.un (Un.kept k) (I.hok.kept k)
theorem Inv.laid{a:aM}{o:HO}{t':Nat}(I:Inv X du Z H s)(k:∀b u,s.heap.get? b=aA u->h'.get? b=aA u)(hp:s.heap.objs.size<=a)(new:ObjOk X.prog X.w (upd H a o) h' a o) :
  Inv X du Z (upd H a o) { s with heap:=h',toks:=t' }:=I.un (Un.laid k hp (I.hok.fresh hp)) (I.hok.laid k hp new)
theorem Inv.write{x e:aM}{o:HO}{t':Nat}(I:Inv X du Z H s)(mu:Vx (H x))(he:e=x\/H e=aA (.own x))(k:∀b u,b≠e->s.heap.get? b=aA u->h'.get? b=aA u)(heo:∃u,h'.get? e=aA u)
  (new:ObjOk X.prog X.w (upd H x o) h' x o):Inv X du Z (upd H x o) { s with heap:=h',toks:=t' }:=I.un (Un.write mu he k heo) (I.hok.write mu he k heo new)
theorem Inv.weak{Z':List (Option V)}(I:Inv X du Z H s)(hl:Z'.length=Z.length)(w:∀(i:Nat) v,Z'[i]?=aA (aA v)->Z[i]?=aA (aA v)):Inv X du Z' H s:=
 ⟨I.ok,I.os,I.bare,I.base,let⟨m,hn,hl'⟩:=I.loc;⟨m,hn,λi x v e1 e2 e3=>hl' i x v e1 (w i v e2) e3⟩,I.cell,I.free,I.freeC,I.pin,I.hok,hl.trans I.len⟩
theorem Inv.pins_of{pins':List (aM×dX)}(I:Inv X du Z H s)(h:∀p∈pins',s.heap.get? p.1=aA p.2/\H p.1=aB/\p.1≠X.env.locals/\p.1∉X.fs/\∀v,p.2.data≠.cell v):Inv X pins' Z H s:=
 ⟨I.ok,I.os,I.bare,I.base,I.loc,I.cell,I.free,I.freeC,λp hp=>(aq.mp hp).elim (λz=>I.pin p (av _ z)) (h p),I.hok,I.len⟩
theorem Qb{N:List ah}(hN:N.Nodup){i j:Nat}{x:ah}(a:N[i]?=aA x)(b:N[j]?=aA x):i=j:=by obtain⟨h1,e1⟩:=aX.mp a;obtain⟨h2,e2⟩:=aX.mp b;exact(kK hN).mp (e1.trans e2.symm)
theorem JZ{M:Model}{A:bc}{E:aJ->aN->Prop}{i:Nat}{x:ah}{v:V}{u:aJ}{Q:Unit->aN->Prop}(I:Inv X du Z H s)(hN:X.N.Nodup)(hi:X.N[i]?=aA x)(hx:BU X.env.scope x)(r:RelV v u)
  (h:∀s',Inv X du (Z.set i (aA v)) H s'->(∃a,gD a s.heap s'.heap/\(a=X.env.locals\/X.env.cells.lookup x=aA a))->Q () s') (hf:X.fn x=aD\/X.env.scope.names.lookup x=aA .local:=by first | exact .inl rfl | exact .inr rfl | assumption):ao M A (storeName X.env x u) Q E s:=by
 obtain⟨m,hn,hl⟩:=id I.loc;have hcls:(X.env.scope.kind==.class || (X.env.scope.kind==.module&&X.env.locals != X.env.globals))=aC:=by rw[I.ok.kind];rfl
 have hiZ:i<Z.length:=by rw[I.len];exact(aX.mp hi).1
 have cne:=I.cne
 have tracked:∀{a:aM}{h':bw},(∃o,s.heap.get? a=aA o/\H a=aB)->gD a s.heap h'->HOk X.prog X.w H h':=λ{a h'} ha hs b ob e=>by
  obtain⟨_,_,hfree⟩:=ha;refine(I.hok b ob e).stay (λc w' hc q=>(hs.2 c ?_).trans q) (λ_ q=>q) (λ_ _ q=>q) λ_ _ q=>q;rintro rfl;rcases hc with rfl | hc
  ·rw[hfree] at e;cases e
  ·rw[hfree] at hc;cases hc
 rcases hx with hk | hk
 ·refine wpAny_storeName_local hk hn (λh' hn' hs=>?_) hcls;obtain⟨oL,_,_,hoL,_⟩:=id hn;refine h _ ⟨I.ok,I.os,I.bare,⟨λb o e n hb hx=>?_,λb o e n hb hx=>?_,I.base.free,λb o e hx=>?_,I.base.tups,I.base.frzs,I.base.tbls⟩,⟨_,hn',λj y v' e1 e2 e3=>?_⟩,λy c e=>?_,I.free,I.freeC,λp hp=>?_,tracked ⟨oL,hoL,I.free⟩ hs,by simpa using I.len⟩ ⟨_,hs,.inl rfl⟩
  ·exact(hs.2 b (bH (ar (aW e) I.ok.above))).trans (I.base.keep b o e n hb hx)
  ·obtain⟨sl,e1⟩:=I.base.slot b o e n hb hx;exact⟨sl,(hs.2 b (bH (ar (aW e) I.ok.above))).trans e1⟩
  ·obtain⟨o',e1⟩:=I.base.there b o e hx;exact⟨o',(hs.2 b (bH (ar (aW e) I.ok.above))).trans e1⟩
  ·by_cases hj:j=i
   ·subst hj;rw[hi] at e1;cases e1;rw[dZ hiZ] at e2;cases e2;exact⟨u,r,.inl ⟨hk,by simp⟩⟩
   ·rw[cX (cY hj)] at e2;obtain⟨u',r',q⟩:=hl j y v' e1 e2 e3;refine⟨u',r',?_⟩;rcases q with⟨k,e⟩ | ⟨k,c,e,z⟩
    ·refine .inl ⟨k,?_⟩;have:y≠x:=λe=>hj (Qb hN e1 (e▸hi));simp[this,e]
    ·exact .inr ⟨k,c,e,z.sameBut hs (cne y c e)⟩
  ·obtain⟨w',z⟩:=I.cell y c e;exact⟨w',z.sameBut hs (cne y c e)⟩
  ·obtain⟨e,n,ne,nf,d⟩:=I.pin p hp;exact⟨(hs.2 p.1 ne).trans e,n,ne,nf,d⟩
 ·have hfn:X.fn x=aD:=by
   rcases hf with z | z
   ·exact z
   ·rw[z] at hk;cases hk
  obtain⟨c,hc⟩:=I.ok.has x (.inl hk);obtain⟨w',z⟩:=I.cell x c hc;refine wpAny_storeName_cell I.ok.kind hk hc z (λh' hc' hs=>?_);obtain⟨oc,hoc,hocd⟩:=id z;refine h { s with heap:=h' } ⟨I.ok,I.os,I.bare,⟨λb o e n hb hx=>?_,λb o e n hb hx=>?_,I.base.free,λb o e hx=>?_,I.base.tups,I.base.frzs,I.base.tbls⟩,⟨m,hn.sameBut hs (cY (cne x c hc)),λj y v' e1 e2 e3=>?_⟩,λy c' e=>?_,I.free,I.freeC,λp hp=>?_,tracked ⟨oc,hoc,I.freeC x c hc⟩ hs,by simpa using I.len⟩ ⟨c,hs,.inr hc⟩
  ·exact(hs.2 b (bH (ar (aW e) (I.ok.cab x c hfn hc)))).trans (I.base.keep b o e n hb hx)
  ·obtain⟨sl,e1⟩:=I.base.slot b o e n hb hx;exact⟨sl,(hs.2 b (bH (ar (aW e) (I.ok.cab x c hfn hc)))).trans e1⟩
  ·obtain⟨o',e1⟩:=I.base.there b o e hx;exact⟨o',(hs.2 b (bH (ar (aW e) (I.ok.cab x c hfn hc)))).trans e1⟩
  ·by_cases hj:j=i
   ·subst hj;rw[hi] at e1;cases e1;rw[dZ hiZ] at e2;cases e2;exact⟨u,r,.inr ⟨.inl hk,c,hc,hc'⟩⟩
   ·rw[cX (cY hj)] at e2;obtain⟨u',r',q⟩:=hl j y v' e1 e2 e3;refine⟨u',r',?_⟩;rcases q with q | ⟨k,c',e,z'⟩
    ·exact .inl q
    ·refine .inr ⟨k,c',e,z'.sameBut hs ?_⟩;rintro rfl;exact hj (Qb hN e1 (I.ok.inj _ _ _ e hc▸hi))
  ·by_cases hcc:c'=c
   ·subst hcc;exact⟨_,hc'⟩
   ·obtain⟨w2,z2⟩:=I.cell y c' e;exact⟨w2,z2.sameBut hs hcc⟩
  ·obtain⟨e,n,ne,nf,d⟩:=I.pin p hp;refine⟨(hs.2 p.1 ?_).trans e,n,ne,nf,d⟩;intro q;rw[q,hoc] at e;have q':oc=p.2:=bB e;exact d w' (by rw[<-q'];exact hocd)
theorem Ut{M:Model}{A:bc}{E:aJ->aN->Prop}{i:Nat}{x:ah}{v:V}{u:aJ}{Q:Unit->aN->Prop}(I:Inv X du Z H s)(hN:X.N.Nodup)(hi:X.N[i]?=aA x)(hx:BU X.env.scope x)(r:RelV v u)
  (h:∀s',Inv X du (Z.set i (aA v)) H s'->Q () s') (hf:X.fn x=aD\/X.env.scope.names.lookup x=aA .local:=by first | exact .inl rfl | exact .inr rfl | assumption):ao M A (storeName X.env x u) Q E s:=
 JZ I hN hi hx r (λs' I' _=>h s' I') hf
theorem Inv.call'{s':aN}{ch:List aM}(I:Inv X du Z H s)(ho:s'.os=s.os)(u:Un (OH X.stack) ch H H' s.heap s'.heap)(hok:HOk X.prog X.w H' s'.heap)(hg:jl s'.gens)
  (hch:∀b∈ch,(b∈X.ex\/X.s₀.heap.objs.size<=b)/\b≠X.env.locals/\(∀x c,X.env.cells.lookup x=aA c->c≠b)/\∀p∈X.pn++du,p.1≠b):Inv X du Z H' s':=by
 obtain⟨h',g',d',t',o'⟩:=s';have e:o'=s.os:=ho;subst e;exact I.call (g':=g') (t':=t') (d':=d') u hok hg hch
end
abbrev XK:=aJ->Option aM->Hp->Prop
abbrev St:=List (Option V)
abbrev VK:=V->Hp->Prop
abbrev TE:=St->Hp->VK->Prop
abbrev TT:=St->Hp->(Bool->Hp->Prop)->Prop
abbrev TA:=St->Hp->(List V->Hp->Prop)->Prop
structure Uo where
 nx:St->Hp->Prop
 rt:VK
 bk:St->Hp->Prop:=λ_ _=>False
 ct:St->Hp->Prop:=λ_ _=>False
abbrev TS:=Uo->St->Hp->Prop
def EP(X:Cx)(du:List (aM×dX))(Z:St)(Q:VK)(u:aJ)(s':aN):Prop:=∃v H',Inv X du Z H' s'/\RelV v u/\Q v H'
def TP(X:Cx)(du:List (aM×dX))(Z:St)(Q:Bool->Hp->Prop)(b:Bool)(s':aN):Prop:=∃H',Inv X du Z H' s'/\Q b H'
def AP(X:Cx)(du:List (aM×dX))(Z:St)(Q:List V->Hp->Prop)(us:List aJ)(s':aN):Prop:=∃vs H',Inv X du Z H' s'/\Vals vs us/\Q vs H'
def SP(X:Cx)(du:List (aM×dX))(D:Uo)(f:Flow)(s':aN):Prop:=
 match f with
 | .next=>∃Z' H',Inv X du Z' H' s'/\D.nx Z' H'
 | .brk=>∃Z' H',Inv X du Z' H' s'/\D.bk Z' H'
 | .cont=>∃Z' H',Inv X du Z' H' s'/\D.ct Z' H'
 | .ret u=>∃v Z' H',Inv X du Z' H' s'/\RelV v u/\D.rt v H'
def PE(X:Cx)(e:bK)(t:TE):Prop:=
 ∀(du:List (aM×dX))(s:aN)(Z:St)(H:Hp)(Q:VK),Inv X du Z H s->t Z H Q->ao (model X.prog X.w) X.A (eval e X.env) (EP X du Z Q) X.xe s
def PT(X:Cx)(e:bK)(t:TT):Prop:=
 ∀(du:List (aM×dX))(s:aN)(Z:St)(H:Hp)(Q:Bool->Hp->Prop),Inv X du Z H s->t Z H Q->ao (model X.prog X.w) X.A (mX e X.env (eval e X.env)) (TP X du Z Q) X.xe s
def PW(X:Cx)(e:bK)(t:TT):Prop:=
 ∀(whole:Sem aJ)(du:List (aM×dX))(s:aN)(Z:St)(H:Hp)(Q:Bool->Hp->Prop),Inv X du Z H s->t Z H Q->ao (model X.prog X.w) X.A (mX e X.env whole) (TP X du Z Q) X.xe s
theorem PW.pt{X:Cx}{e:bK}{t:TT}(h:PW X e t):PT X e t:=h _
def PA(X:Cx)(es:List bK)(t:TA):Prop:=
 ∀(pos:fN)(du:List (aM×dX))(s:aN)(Z:St)(H:Hp)(Q:List V->Hp->Prop),Inv X du Z H s->t Z H Q->ao (model X.prog X.w) X.A (spliced (cw pos (aR es X.env))) (AP X du Z Q) X.xe s
def PS(X:Cx)(st:cO)(t:TS):Prop:=
 ∀(du:List (aM×dX))(s:aN)(Z:St)(H:Hp)(D:Uo),Inv X du Z H s->t D Z H->ao (model X.prog X.w) X.A (exec st X.env) (SP X du D) X.xe s
def PSs(X:Cx)(st:List cO)(t:TS):Prop:=
 ∀(du:List (aM×dX))(s:aN)(Z:St)(H:Hp)(D:Uo),Inv X du Z H s->t D Z H->ao (model X.prog X.w) X.A (execs st X.env) (SP X du D) X.xe s
theorem Yo{α:Type}{t:Sem α}{Q Q':α->aN->Prop}{M:Model}{A:bc}{E:aJ->aN->Prop}{s:aN}(h:ao M A t Q E s)(hQ:∀a s,Q a s->Q' a s):ao M A t Q' E s:=cH h hQ λ_ _ x=>x
section
variable {X:Cx}
theorem bin{a b:bK}{ta tb:TE}(ha:PE X a ta)(hb:PE X b tb){du:List (aM×dX)}{s:aN}{Z:St}{H:Hp}{R:V->V->Hp->Prop}(I:Inv X du Z H s)(h:ta Z H λx H1=>tb Z H1 λy H2=>R x y H2)
  {α:Type} {Q:α->aN->Prop} {f:aJ->aJ->Sem α}
  (hf:∀v u s2 x y H2,Inv X du Z H2 s2->RelV x v->RelV y u->R x y H2->ao (model X.prog X.w) X.A (f v u) Q X.xe s2) :
  ao (model X.prog X.w) X.A (eval a X.env) (λv s₁=>ao (model X.prog X.w) X.A (eval b X.env) (λu s₂=>ao (model X.prog X.w) X.A (f v u) Q X.xe s₂) X.xe s₁) X.xe s:=by
 refine Yo (ha du s Z H _ I h) λv s1 ⟨x,H1,I1,r1,q1⟩=>?_;refine Yo (hb du s1 Z H1 _ I1 q1) λu s2 ⟨y,H2,I2,r2,q2⟩=>?_;exact hf v u s2 x y H2 I2 r1 r2 q2
def Sb(i:Nat):TE:=λZ H Q=>∃v,Z[i]?=aA (aA v)/\Q v H
def tC(v:V):TE:=λ_ H Q=>Q v H
theorem HR{i:Nat}{x:ah}{pos:fN}(hN:X.N[i]?=aA x)(hv:A5 X.env.scope x)(hd:(x==("__debug__" : ah))=aC:=by decide)(hcd:(x==("__classdict__" : ah))=aC:=by decide):PE X (.Name x pos) (Sb i):=by
 intro du s Z H Q I h;obtain⟨v,e,h⟩:=h;obtain⟨m,hn,hl⟩:=I.loc;obtain⟨u,r,l⟩:=hl i x v hN e hv;have fin:EP X du Z Q u s:=⟨v,H,I,r,h⟩;rcases l with⟨hk,hm⟩ | ⟨hk,c,hc,hcell⟩
 ·exact ny (wpAny_loadName_local I.ok.kind hk hn hm fin) hd
 ·rcases hk with hk | hk
  ·exact ny (wpAny_loadName_cell I.ok.kind hk hc hcell fin) hd
  ·exact ny (wpAny_loadName_free I.ok.kind hk hc hcell fin hcd) hd
theorem HS{i j pos}:PE X (.Constant (.int i) j pos) (tC (.int i)):=λ_ _ _ H _ I h=>wpAny_Constant_int ⟨.int i,H,I.tok _,⟨_,rfl⟩,h⟩
theorem BV{b j pos}:PE X (.Constant (.bool b) j pos) (tC (.bl b)):=λ_ _ _ H _ I h=>Constant_bool ⟨.bl b,H,I,rfl,h⟩
theorem HU{j pos}:PE X (.Constant .none j pos) (tC .non):=λ_ _ _ H _ I h=>Constant_none ⟨.non,H,I,rfl,h⟩
theorem HV{x j pos}:PE X (.Constant (.str x) j pos) (tC (.str x)):=λ_ _ _ H _ I h=>Calls.Constant_str ⟨.str x,H,I.tok _,⟨_,rfl⟩,h⟩
def Gl(X:Cx)(x:ah):Prop:=X.env.kindOf x=aA .globalImplicit
theorem UY{E:aJ->aN->Prop}{du:List (aM×dX)}{s:aN}{Z:St}{H:Hp}{x:ah}{u:aJ}{pos:fN}{Q:aJ->aN->Prop}(I:Inv X du Z H s)(hg:Gl X x)(hm:X.mg x=aA u)(h:Q u s)
  (hd:(x==("__debug__" : ah))=aC:=by decide):ao (model X.prog X.w) X.A (eval (.Name x pos) X.env) Q E s:=
 j4 I.ok.kind hg (Calls.loadGlobal_global (by rw[I.ok.glob];exact I.mod.glob.keeps I.bk) hm h) hd
theorem XX{E:aJ->aN->Prop}{du:List (aM×dX)}{s:aN}{Z:St}{H:Hp}{x:ah}{u:aJ}{pos:fN}{Q:aJ->aN->Prop}(I:Inv X du Z H s)(hg:Gl X x)(hm:X.mg x=aB)(hv:dG x=aA u)(h:Q u s)
  (hn:x≠"__name__":=by decide) (hd:(x==("__debug__" : ah))=aC:=by decide):ao (model X.prog X.w) X.A (eval (.Name x pos) X.env) Q E s:=by
 obtain⟨mb,h1,h2⟩:=I.mod.blt;exact j4 I.ok.kind hg (Calls.loadGlobal_builtin (by rw[I.ok.glob];exact I.mod.glob.keeps I.bk) hm (by rw[I.ok.blt];exact h1.keeps I.bk) ((h2 x hn).trans hv) h) hd
theorem F8{x:ah}{v:V}{u:aJ}{pos:fN}(hg:Gl X x)(hm:X.mg x=aB)(hv:dG x=aA u)(r:RelV v u)(hn:x≠"__name__":=by decide)(hd:(x==("__debug__" : ah))=aC:=by decide):PE X (.Name x pos) (tC v):=
 λ_ _ _ H _ I h=>XX I hg hm hv ⟨v,H,I,r,h⟩ hn hd
variable {a b:bK} {ta tb:TE} {pos:fN}
def PC(X:Cx)(op:kq)(a b:bK)(t:TE):Prop:=
 ∀(du:List (aM×dX))(s:aN)(Z:St)(H:Hp)(Q:VK),Inv X du Z H s->t Z H Q->
  ao (model X.prog X.w) X.A (eval a X.env) (λv s₁=>ao (model X.prog X.w) X.A (eval b X.env) (λu s₂=>ao (model X.prog X.w) X.A (cy op v u) (EP X du Z Q) X.xe s₂) X.xe s₁) X.xe s
theorem NH(b:bK){op:kq}(h:op≠.In)(h2:op≠.NotIn):cg op b=aC:=by
 have e1:(op==kq.In)=aC:=by cases op<;>first | rfl | exact absurd rfl h
 have e2:(op==kq.NotIn)=aC:=by cases op<;>first | rfl | exact absurd rfl h2
 cases b<;>simp[cg,e1,e2]
def DM(ta:TE):TE:=λZ H Q=>ta Z H λx H1=>Q (.bl (!decide (x = .non))) H1
theorem RelV.none_iff{x:V}{v:aJ}(r:RelV x v):(v==bj)=decide (x = .non):=by
 cases x with
 | non=>cases r;rfl
 | bl _=>cases r;rfl
 | int _=>obtain⟨t,rfl⟩:=r;rfl
 | str _=>obtain⟨t,rfl⟩:=r;rfl
 | byt _=>obtain⟨t,rfl⟩:=r;rfl
 | flt _=>obtain⟨t,rfl⟩:=r;rfl
 | ref _=>cases r;rfl
 | ty _=>cases r;rfl
theorem KN{j pos'}(ha:PE X a ta):PC X .IsNot a (.Constant .none j pos') (DM ta):=by intro du s Z H Q I h;refine Yo (ha du s Z H _ I h) λv s1 ⟨x,H1,I1,r1,q1⟩=>?_;exact Constant_none (isnot_none_gen ⟨.bl _,H1,I1,by rw[r1.none_iff];rfl,q1⟩)
def tB(t:TE):TT:=λZ H Q=>t Z H λx H1=>∃c,x = .bl c/\Q c H1
theorem Ci{op:kq}{t:TE}(h:PC X op a b t)(h1:cg op b=aC:=by first | exact NH _ (by decide) (by decide) | rfl):PE X (.Compare a [op] [b] pos) t:=λdu s Z H Q I hw=>wpAny_Compare1 (h du s Z H Q I hw) h1
theorem HW{op:kq}{t:TE}(h:PC X op a b t)(h1:cg op b=aC:=by first | exact NH _ (by decide) (by decide) | rfl):PT X (.Compare a [op] [b] pos) (tB t):=by intro du s Z H Q I hw;refine lG (Yo (h du s Z H _ I hw) λv s1 h1=>Yo h1 λu s2 h2=>Yo h2 λc s3 ⟨x,H1,I1,r1,q1⟩=>?_) h1;obtain⟨d,rfl,q⟩:=q1;cases r1;exact cV ⟨H1,I1,q⟩
theorem Cj{e:bK}{t:TE}(h:PE X e t)(he:∀whole,mX e X.env whole=(do let v <-whole;nu e.pos;holding [v] (truthy v)):=by intro _;rfl):PT X e (tB t):=by intro du s Z H Q I hw;refine isTrue_plain (Yo (h du s Z H _ I hw) λv s1 ⟨x,H1,I1,r1,q1⟩=>?_) (he _);obtain⟨d,rfl,q⟩:=q1;cases r1;exact cV ⟨H1,I1,q⟩
variable {tA tB':TT} {Zt:List bK}
def BW(t u:TT):TT:=λZ H Q=>t Z H λc H1=>if c=aD then u Z H1 Q else Q aC H1
def tOr(t u:TT):TT:=λZ H Q=>t Z H λc H1=>if c=aD then Q aD H1 else u Z H1 Q
def Zaf(t:TT):TT:=λZ H Q=>t Z H λc H1=>Q (!c) H1
theorem F9(ha:PT X a tA):PW X (.BoolOp .And [a] pos) tA:=by
 intro wh du s Z H Q I h;refine isTrue_and (Yo (ha du s Z H Q I h) λc s1 e=>?_)
 cases c with
 | true=>exact isTrue_and_nil e
 | false=>exact e
theorem Ck(ha:PT X a tA):PW X (.BoolOp .Or [a] pos) tA:=by
 intro wh du s Z H Q I h;refine isTrue_or (Yo (ha du s Z H Q I h) λc s1 e=>?_)
 cases c with
 | false=>exact isTrue_or_nil e
 | true=>exact e
theorem Cm(ha:PT X a tA)(hb:PW X (.BoolOp .And (b::Zt) pos) tB'):PW X (.BoolOp .And (a::b::Zt) pos) (BW tA tB'):=by
 intro wh du s Z H Q I h;refine isTrue_and (Yo (ha du s Z H _ I h) λc s1 ⟨H1,I1,q1⟩=>?_)
 cases c with
 | true=>exact hb wh du s1 Z H1 Q I1 q1
 | false=>exact⟨H1,I1,q1⟩
theorem BX(ha:PT X a tA)(hb:PW X (.BoolOp .Or (b::Zt) pos) tB'):PW X (.BoolOp .Or (a::b::Zt) pos) (tOr tA tB'):=by
 intro wh du s Z H Q I h;refine isTrue_or (Yo (ha du s Z H _ I h) λc s1 ⟨H1,I1,q1⟩=>?_)
 cases c with
 | true=>exact⟨H1,I1,q1⟩
 | false=>exact hb wh du s1 Z H1 Q I1 q1
theorem Cn(ha:PT X a tA):PT X (.UnaryOp .Not a pos) (Zaf tA):=by intro du s Z H Q I h;exact isTrue_not (ha du s Z H (λc H1=>Q (!c) H1) I h)
def BY(ta tb:TE):TE:=λZ H Q=>ta Z H λx H1=>∃c,x = .bl c/\if c=aD then tb Z H1 Q else Q (.bl aC) H1
def BZ(ta:TE):TE:=λZ H Q=>ta Z H λx H1=>∃c,x = .bl c/\Q (.bl (!c)) H1
theorem Co{op}{t:TE}(h:PE X a t):PE X (.BoolOp op [a] pos) t:=λdu s Z H Q I hw=>BoolOp_one (h du s Z H Q I hw)
theorem Cp(ha:PE X a ta)(hb:PE X (.BoolOp .And (b::Zt) pos) tb):PE X (.BoolOp .And (a::b::Zt) pos) (BY ta tb):=by
 intro du s Z H Q I h;refine BoolOp_and (Yo (ha du s Z H _ I h) λv s1 ⟨x,H1,I1,r1,q1⟩=>?_);obtain⟨c,rfl,q1⟩:=q1;cases r1;refine cV ?_
 cases c with
 | true=>exact hb du s1 Z H1 Q I1 q1
 | false=>exact⟨.bl aC,H1,I1,rfl,q1⟩
theorem Cq(ha:PE X a ta):PE X (.UnaryOp .Not a pos) (BZ ta):=by intro du s Z H Q I h;refine UnaryOp_ (Yo (ha du s Z H _ I h) λv s1 ⟨x,H1,I1,r1,q1⟩=>?_);obtain⟨c,rfl,q1⟩:=q1;cases r1;exact not_of (cV ⟨.bl (!c),H1,I1,rfl,q1⟩)
def tIf(t:TT)(ta tb:TE):TE:=λZ H Q=>t Z H λc H1=>if c=aD then ta Z H1 Q else tb Z H1 Q
theorem HX{c:bK}(hc:PT X c tA)(ha:PE X a ta)(hb:PE X b tb):PE X (.IfExp c a b pos) (tIf tA ta tb):=by
 intro du s Z H Q I h;refine wpAny_IfExp (Yo (hc du s Z H _ I h) λd s1 ⟨H1,I1,q1⟩=>?_)
 cases d with
 | true=>exact ha du s1 Z H1 Q I1 q1
 | false=>exact hb du s1 Z H1 Q I1 q1
end
def SqL(K:aI)(H:Hp)(a:aM)(xs:List V):Prop:=
 Rd H a (.lst xs)\/
  ∃(o:dX) (pA:Array aJ) (n:Nat),K.lookup a=aA o/\o.cls = .type "list"/\o.dict=aB/\o.data = .seq pA n/\pA.size<=sizeLine/\Vals xs pA.toList
def SqT(K:aI)(H:Hp)(a:aM)(xs:List V):Prop:=
 Rd H a (.tup xs)\/
  ∃(o:dX) (pA:Array aJ) (n:Nat),K.lookup a=aA o/\o.cls = .type "tuple"/\o.data = .seq pA n/\pA.size<=sizeLine/\Vals xs pA.toList
def Zag:aJ->Option V
 | .none=>aA .non
 | .bool b=>aA (.bl b)
 | .int i _=>aA (.int i)
 | .str x _=>aA (.str x)
 | .bytes b _=>aA (.byt b)
 | .float b _=>aA (.flt b)
 | .ref a=>aA (.ref a)
 | .type n=>aA (.ty n)
 | _=>aB
theorem RelV.abs{x:V}{u:aJ}(r:RelV x u):Zag u=aA x:=by
 cases x with
 | non=>cases r;rfl
 | bl _=>cases r;rfl
 | int _=>obtain⟨t,rfl⟩:=r;rfl
 | str _=>obtain⟨t,rfl⟩:=r;rfl
 | byt _=>obtain⟨t,rfl⟩:=r;rfl
 | flt _=>obtain⟨t,rfl⟩:=r;rfl
 | ref _=>cases r;rfl
 | ty _=>cases r;rfl
theorem RelV.inj{x y:V}{u:aJ}(r:RelV x u)(q:RelV y u):x=y:=bB (r.abs.symm.trans q.abs)
theorem Vals.inj:∀{xs ys:List V}{us:List aJ},Vals xs us->Vals ys us->xs=ys
 | _,_,_,.nil,.nil=>rfl
 | _,_,_,.cons r t,.cons r' t'=>by rw[r.inj r',Vals.inj t t']
section
variable {X:Cx} {du:List (aM×dX)} {Z:St} {H:Hp} {s:aN} {a:aM} {xs ys:List V}
theorem SqL.of{K:aI}(h:H a=aA (.lst xs)):SqL K H a xs:=.inl (.inl h)
theorem SqT.of{K:aI}(h:H a=aA (.tup xs)):SqT K H a xs:=.inl (.inl h)
theorem Inv.list(I:Inv X du Z H s)(h:SqL X.K H a xs):∃pA:List aJ,Vals xs pA/\PlainL s.heap a pA.toArray/\xs.length<=sizeLine:=by
 rcases h with h | ⟨o,pA,n,hk,hc,hd,hs,hz,r⟩
 ·obtain⟨z,pA,n,r,e⟩:=h.ok I.hok;exact⟨pA,r,⟨_,n,e,rfl,rfl,rfl⟩,z⟩
 ·refine⟨pA.toList,r,⟨o,n,I.kIn a o hk,hc,hd,by simpa using hs⟩,?_⟩;have e:=r.length;simp only[cJ] at e;omega
theorem Inv.tuple(I:Inv X du Z H s)(h:SqT X.K H a xs):∃pA:List aJ,Vals xs pA/\IsTup s.heap a pA.toArray/\xs.length<=sizeLine:=by
 rcases h with h | ⟨o,pA,n,hk,hc,hs,hz,r⟩
 ·obtain⟨z,pA,r,p⟩:=h.ok I.hok;exact⟨pA,r,p,z.1⟩
 ·refine⟨pA.toList,r,⟨o,I.kIn a o hk,hc,n,by simpa using hs⟩,?_⟩;have e:=r.length;simp only[cJ] at e;omega
theorem Inv.list_inj(I:Inv X du Z H s)(h:SqL X.K H a xs)(h':SqL X.K H a ys):xs=ys:=by
 obtain⟨pA,r,⟨o,n,e,_,_,d⟩,_⟩:=I.list h;obtain⟨its',r',⟨o',n',e',_,_,d'⟩,_⟩:=I.list h';rw[e] at e';cases e';rw[d] at d';injection d' with d1 _
 have:pA=its':=by simpa using congrArg oj d1
 subst this;exact r.inj r'
theorem Inv.tuple_inj(I:Inv X du Z H s)(h:SqT X.K H a xs)(h':SqT X.K H a ys):xs=ys:=by
 obtain⟨pA,r,⟨o,e,_,n,d⟩,_⟩:=I.tuple h;obtain⟨its',r',⟨o',e',_,n',d'⟩,_⟩:=I.tuple h';rw[e] at e';cases e';rw[d] at d';injection d' with d1 _
 have:pA=its':=by simpa using congrArg oj d1
 subst this;exact r.inj r'
end
abbrev Cx.wish(X:Cx)(E:aJ->aN->Prop):Cx:={ X with xe:=E }
abbrev Cx.nox(X:Cx):Cx:=X.wish λ_ _=>False
theorem Cx.Ok.wish{X:Cx}(ok:X.Ok)(E:aJ->aN->Prop):(X.wish E).Ok:=
 ⟨ok.mod,ok.kind,ok.glob,ok.blt,ok.above,ok.inj,ok.has,ok.cab,ok.hd,ok.frames,ok.stk,ok.exf,ok.bs,ok.bsz,ok.noex,ok.exfs,ok.funs,ok.frf,ok.tab,ok.cod⟩
theorem Cx.Ok.unwish{X:Cx}{E:aJ->aN->Prop}(ok:(X.wish E).Ok):X.Ok:=
 ⟨ok.mod,ok.kind,ok.glob,ok.blt,ok.above,ok.inj,ok.has,ok.cab,ok.hd,ok.frames,ok.stk,ok.exf,ok.bs,ok.bsz,ok.noex,ok.exfs,ok.funs,ok.frf,ok.tab,ok.cod⟩
section
variable {X:Cx} {du:List (aM×dX)} {Z:St} {H:Hp} {s:aN} {E:aJ->aN->Prop}
theorem Inv.wish(I:Inv X du Z H s)(E:aJ->aN->Prop):Inv (X.wish E) du Z H s:=⟨I.ok.wish E,I.os,I.bare,I.base,I.loc,I.cell,I.free,I.freeC,I.pin,I.hok,I.len⟩
theorem Inv.unwish(I:Inv (X.wish E) du Z H s):Inv X du Z H s:=⟨I.ok.unwish,I.os,I.bare,I.base,I.loc,I.cell,I.free,I.freeC,I.pin,I.hok,I.len⟩
theorem SP.unwish{D:Uo}{f:Flow}{s':aN}(h:SP (X.wish E) du D f s'):SP X du D f s':=by
 cases f with
 | next=>obtain⟨Z',H',I,q⟩:=h;exact⟨Z',H',I.unwish,q⟩
 | brk=>obtain⟨Z',H',I,q⟩:=h;exact⟨Z',H',I.unwish,q⟩
 | cont=>obtain⟨Z',H',I,q⟩:=h;exact⟨Z',H',I.unwish,q⟩
 | ret u=>obtain⟨v,Z',H',I,r,q⟩:=h;exact⟨v,Z',H',I.unwish,r,q⟩
theorem PSs.nox{st:List cO}{t:TS}(h:PSs X.nox st t):PSs X st t:=λdu s Z H D I hw=>
 cH (h du s Z H D (I.wish _) hw) (λ_ _ q=>q.unwish) λ_ _ z=>cq z
end
section
variable {X:Cx} {st:cO} {Zt:List cO} {t u:TS} {e:bK} {te:TE} {pos:fN}
def DN:TS:=λD Z H=>D.nx Z H
def Zah(t u:TS):TS:=λD Z H=>t { D with nx:=u D } Z H
theorem Ea:PSs X [] DN:=λ_ _ Z H _ I h=>gy ⟨Z,H,I,h⟩
theorem NI(h1:PS X st t)(h2:PSs X Zt u):PSs X (st::Zt) (Zah t u):=by
 intro du s Z H D I h;refine iX (Yo (h1 du s Z H { D with nx:=u D } I h) λf s1 q=>?_)
 cases f with
 | next=>
  obtain⟨Z',H',I',q⟩:=q;exact h2 du s1 Z' H' D I' q
 | ret v=>exact q
 | brk=>exact q
 | cont=>exact q
theorem KO(h1:PS X st t):PSs X [st] t:=by
 intro du s Z H D I h;refine iX (Yo (h1 du s Z H D I h) λf s1 q=>?_)
 cases f with
 | next=>exact gy q
 | ret v=>exact q
 | brk=>exact q
 | cont=>exact q
theorem Inv.quiet{du:List (aM×dX)}{Z:St}{H:Hp}{s:aN}(I:Inv X du Z H s):interactive X.env=aC:=by simp[interactive,I.ok.kind]
def KP(te:TE):TS:=λD Z H=>te Z H λ_ H1=>D.nx Z H1
theorem Xb(he:PE X e te)(hs:g8 e aB pos.line X.env=pure aC:=by rfl):PS X (.Expr e pos) (KP te):=by intro du s Z H D I h;exact wpAny_Expr_any (Yo (he du s Z H _ I h) λv s1 ⟨x,H1,I1,r1,q1⟩=>⟨Z,H1,I1,q1⟩) I.quiet hs
def Zai(te:TE):TS:=λD Z H=>te Z H D.rt
theorem M7(he:PE X e te):PS X (.Return (aA e) pos) (Zai te):=by intro du s Z H D I h;exact wpAny_Return_some (Yo (he du s Z H _ I h) λv s1 ⟨x,H1,I1,r1,q1⟩=>⟨x,Z,H1,I1,r1,q1⟩)
def Zaj(c:TT)(t u:TS):TS:=λD Z H=>c Z H λb H1=>if b=aD then t D Z H1 else u D Z H1
theorem DO{c:bK}{a b:List cO}{tc:TT}(hc:PT X c tc)(ha:PSs X a t)(hb:PSs X b u):PS X (.If c a b pos) (Zaj tc t u):=by
 intro du s Z H D I h;refine wpAny_If (Yo (hc du s Z H _ I h) λd s1 ⟨H1,I1,q1⟩=>?_)
 cases d with
 | true=>exact ha du s1 Z H1 D I1 q1
 | false=>exact hb du s1 Z H1 D I1 q1
end
abbrev TG:=V->St->Hp->(St->Hp->Prop)->Prop
abbrev DP:=List V->St->Hp->(St->Hp->Prop)->Prop
def PG(X:Cx)(target:bK)(t:TG):Prop:=
 ∀(du:List (aM×dX))(s:aN)(Z:St)(H:Hp)(v:V)(u:aJ)(Q:St->Hp->Prop),Inv X du Z H s->RelV v u->t v Z H Q->
  ao (model X.prog X.w) X.A (assign target X.env u) (λ_ s'=>∃Z' H',Inv X du Z' H' s'/\Q Z' H') X.xe s
def A6(X:Cx)(ts:List bK)(t:DP):Prop:=
 ∀(du:List (aM×dX))(s:aN)(Z:St)(H:Hp)(vs:List V)(us:List aJ)(Q:St->Hp->Prop),Inv X du Z H s->Vals vs us->t vs Z H Q->
  ao (model X.prog X.w) X.A (assignInOrder ((j6 ts X.env).map (·.2)) us) (λ_ s'=>∃Z' H',Inv X du Z' H' s'/\Q Z' H') X.xe s
abbrev Cr:=V->V->V->Hp->(Hp->Prop)->Prop
def B0(X:Cx)(t:Cr):Prop:=
 ∀(du:List (aM×dX))(s:aN)(Z:St)(H:Hp)(o i v:V)(ov iv u:aJ)(Q:Hp->Prop),Inv X du Z H s->RelV o ov->RelV i iv->RelV v u->t o i v H Q->
  ao (model X.prog X.w) X.A (setItem ov iv u) (λ_ s'=>∃H',Inv X du Z H' s'/\Q H') X.xe s
section
variable {X:Cx} {pos:fN}
def RD(i:Nat):TG:=λv Z H Q=>Q (Z.set i (aA v)) H
theorem Zv{i:Nat}{x:ah}(hN:X.N.Nodup)(hi:X.N[i]?=aA x)(hx:BU X.env.scope x)(hf:X.fn x=aD\/X.env.scope.names.lookup x=aA .local:=by first | exact .inl rfl | exact .inr rfl | assumption):PG X (.Name x pos) (RD i):=by intro du s Z H v u Q I r h;exact wpAny_assign_Name (Ut I hN hi hx r (λs' I'=>⟨_,H,I',h⟩) hf)
def B1:DP:=λvs Z H Q=>vs=[]/\Q Z H
def DQ(t:TG)(u:DP):DP:=λvs Z H Q=>∃v r,vs=v::r/\t v Z H λZ' H'=>u r Z' H' Q
theorem Vg:A6 X [] B1:=by intro du s Z H vs us Q I r h;obtain⟨e,h⟩:=h;subst e;cases r;exact assignInOrder_nil ⟨Z,H,I,h⟩
theorem Yh{e:bK}{es:List bK}{t:TG}{u:DP}(h1:PG X e t)(h2:A6 X es u)
  (hs:(j6 (e::es) X.env).map (·.2)=assign e X.env::(j6 es X.env).map (·.2):=by rfl):A6 X (e::es) (DQ t u):=by
 intro du s Z H vs us Q I r h;obtain⟨v,vr,e1,h⟩:=h;subst e1
 cases r with
 | cons r rr=>
  rw[hs];refine assignInOrder_cons (Yo (h1 du s Z H _ _ _ I r h) λ_ s1 ⟨Z1,H1,I1,q1⟩=>?_);exact h2 du s1 Z1 H1 _ _ Q I1 rr q1
def B3(K:aI)(n:Nat)(t:DP):TG:=λv Z H Q=>∃a xs,v = .ref a/\SqT K H a xs/\xs.length=n/\t xs Z H Q
theorem Uu{es:List bK}{k:Nat}{t:DP}{n:Nat}(hc:X.calm=aD)(h:A6 X es t)
  (hn:(j6 es X.env).length=n:=by rfl) (hst:(j6 es X.env).findIdx? (·.1)=aB:=by rfl):PG X (.Tuple es k pos) (B3 X.K n t):=by
 intro du s Z H v u Q I r hw;obtain⟨a,xs,e1,hq,hl,hw⟩:=hw;subst e1;cases r;obtain⟨pA,rv,ht,hz⟩:=I.tuple hq;refine assign_Tuple_tuple (I.ok.hd hc) ht (by simp[hn,<-hl,rv.length]) hst λh' hx=>?_;have I1:Inv X du Z H { s with heap:=h' }:=I.kept (t':=s.toks) λb o e=>hx b o (bH (aW e)) e;exact h du _ Z H xs _ Q I1 (by simpa using rv) hw
def Cs(to ti:TE)(t:Cr):TG:=λv Z H Q=>to Z H λo H1=>ti Z H1 λi H2=>t o i v H2 λH3=>Q Z H3
theorem TF{o i:bK}{to ti:TE}{t:Cr}(ho:PE X o to)(hi:PE X i ti)(hs:B0 X t)
  (ha:∀v,assign (.Subscript o i pos) X.env v=(do
   let ov <-holding [v] (eval o X.env);let iv <-holding [v,ov] (eval i X.env)
   nu pos
   holding [v,ov,iv] (setItem ov iv v)
   release [v,ov,iv] []):=by intro _;rfl):PG X (.Subscript o i pos) (Cs to ti t):=by
 intro du s Z H v u Q I r h;rw[ha];refine aF (dR (Yo (ho du s Z H _ I h) λov s1 ⟨x,H1,I1,r1,q1⟩=>?_));refine aF (dR (Yo (hi du s1 Z H1 _ I1 q1) λiv s2 ⟨y,H2,I2,r2,q2⟩=>?_));refine aF (mO (aF (dR (Yo (hs du s2 Z H2 x y v ov iv u _ I2 r1 r2 r q2) λ_ s3 ⟨H3,I3,q3⟩=>?_))));exact wpAny_release ⟨Z,H3,I3,q3⟩
def M8(te:TE)(g:TG):TS:=λD Z H=>te Z H λx H1=>g x Z H1 D.nx
theorem TH{tg e:bK}{te:TE}{g:TG}(he:PE X e te)(hg:PG X tg g)(hs:swapsWithSole [tg] e pos.line X.env=pure aC:=by rfl)(hw:swappedStores [tg] e X.env=pure aB:=by rfl)
  (h1:(j6 [tg] X.env).map (·.2)=[assign tg X.env]:=by rfl):PS X (.Assign [tg] e pos) (M8 te g):=by
 intro du s Z H D I h;refine wpAny_Assign_stores (Yo (he du s Z H _ I h) λv s1 ⟨x,H1,I1,r1,q1⟩=>?_) hs hw;rw[h1];exact Yo (hg du s1 Z H1 x v _ I1 r1 q1) λ_ s2 q=>q
theorem Ct{i:Nat}{x:ah}{e:bK}{te:TE}{pos':fN}(hN:X.N.Nodup)(hi:X.N[i]?=aA x)(hx:BU X.env.scope x)(he:PE X e te)(hs:g8 e (aA (.Name x pos')) pos.line X.env=pure aC:=by rfl)(hf:X.fn x=aD\/X.env.scope.names.lookup x=aA .local:=by first | exact .inl rfl | exact .inr rfl | assumption) :
  PS X (.Assign [.Name x pos'] e pos) (M8 te (RD i)):=by
 intro du s Z H D I h;refine wpAny_Assign_Name (Yo (he du s Z H _ I h) λv s1 ⟨y,H1,I1,r1,q1⟩=>?_) hs;exact Ut I1 hN hi hx r1 (λs2 I2=>⟨_,H1,I2,q1⟩) hf
end
section
variable {X:Cx} {pos:fN}
def Cu(c:TT)(tb:TS):TS:=λD Z H=>∃W:Nat->St->Hp->Prop,(∃m,W m Z H)/\∀m Z H,W m Z H->
 c Z H λb H1=>if b=aD then ∃N:St->Hp->Prop,(∀Z' H',N Z' H'->∃m',m'<m/\W m' Z' H')/\tb { D with nx:=N,ct:=N,bk:=D.nx } Z H1 else D.nx Z H1
theorem HY{c:bK}{body:List cO}{tc:TT}{tb:TS}(hp:nF (model X.prog X.w) X.A X.env X.xe)(hc:PT X c tc)(hb:PSs X body tb):PS X (.While c body [] pos) (Cu tc tb):=by
 intro du s Z H D I h;obtain⟨W,⟨m0,w0⟩,turn⟩:=h;refine wpAny_While (codeAny_whileLoop (λn s'=>∃Z' H',Inv X du Z' H' s'/\W n Z' H') ?_ m0 ⟨Z,H,I,w0⟩);rintro n s1 ⟨Z1,H1,I1,w1⟩;refine fA hp (Yo (hc du s1 Z1 H1 _ I1 (turn n Z1 H1 w1)) λb s2 ⟨H2,I2,q2⟩=>?_)
 cases b with
 | true=>
  obtain⟨N,hN,q2⟩:=q2;rw[pC rfl];refine fA hp (Yo (hb du s2 Z1 H2 _ I2 q2) λf s3 q3=>?_)
  cases f with
  | next=>
   obtain⟨Z3,H3,I3,n3⟩:=q3;obtain⟨m',hm,w3⟩:=hN Z3 H3 n3;exact⟨m',hm,Z3,H3,I3,w3⟩
  | cont=>
   obtain⟨Z3,H3,I3,n3⟩:=q3;obtain⟨m',hm,w3⟩:=hN Z3 H3 n3;exact⟨m',hm,Z3,H3,I3,w3⟩
  | brk=>exact q3
  | ret v=>exact q3
 | false=>
  rw[pE aw];exact gy ⟨Z1,H2,I2,q2⟩
end
structure It where
 go:Nat->Hp->Prop
 yld:Nat->Hp->V->Hp->Prop
 stop:Nat->Hp->Prop
def RS(X:Cx)(du:List (aM×dX))(H:Hp)(b:aM):Prop:=
 H b=aB/\b≠X.env.locals/\b∉X.fs/\(b∈X.ex\/X.s₀.heap.objs.size<=b)/\(∀x c,X.env.cells.lookup x=aA c->c≠b)/\∀p∈X.pn++du,p.1≠b
theorem Inv.fpOk{X:Cx}{du:List (aM×dX)}{Z:St}{H H':Hp}{s:aN}{b:aM}(I:Inv X du Z H s)(hb:s.heap.objs.size<=b)(hn:H' b=aB):RS X du H' b:=by
 refine⟨hn,g9 (ar I.lt hb),I.nofs hb,.inr (cu I.sz hb),λx c e z=>?_,λp hp z=>?_⟩
 ·obtain⟨v,q⟩:=I.cell x c e;exact absurd (ar q.lt (by rw[z];exact hb)) (cU _)
 ·exact absurd (ar (aW (I.pin p hp).1) (by rw[z];exact hb)) (cU _)
structure M9(P:bE)(w:bg)(K:aI)(tg:bK)(J:It)(fp:List aM)(it:aM)(tn:Nat->bw->Prop):Prop where
 mem:it∈fp
 obj:∀i h,tn i h->∀b∈fp,∃o,h.get? b=aA o/\∀v,o.data≠.cell v
 keep:∀i h h',tn i h->(∀b∈fp,∀o,h.get? b=aA o->h'.get? b=aA o)->tn i h'
 item:∀(X:Cx),X.prog=P->X.w=w->X.K=K->X.calm=aD->∀(i:Nat)(du:List (aM×dX))(s:aN)(Z:St)(H:Hp)(E:aJ->aN->Prop),Inv X du Z H s->(∀b∈fp,RS X du H b)->tn i s.heap->J.go i H->
  ao (model P w) X.A (iB (.ref it)) (λr s1=>∃u,r=aA u/\
   ao (model P w) X.A (jK tg (.ref it) u) (λ_ s2=>∃x H',Inv X du Z H' s2/\RelV x u/\J.yld i H x H'/\tn (i+1) s2.heap/\∀b∈fp,H' b=aB) E s1) E s
 done:∀(X:Cx),X.prog=P->X.w=w->X.K=K->X.calm=aD->∀(i:Nat)(du:List (aM×dX))(s:aN)(Z:St)(H:Hp)(E:aJ->aN->Prop),Inv X du Z H s->(∀b∈fp,RS X du H b)->tn i s.heap->J.stop i H->
  ao (model P w) X.A (iB (.ref it)) (λr s1=>r=aB/\Inv X du Z H s1) E s
 self:∀(A:bc)(i:Nat)(s:aN)(Q:aJ->aN->Prop)(E:aJ->aN->Prop),tn i s.heap->Q (.ref it) s->ao (model P w) A (kZ (.ref it)) Q E s
abbrev TI:=St->Hp->(It->Hp->Prop)->Prop
def PIE(X:Cx)(du:List (aM×dX))(Z:St)(tg:bK)(R:It->Hp->Prop)(itv:aJ)(s2:aN):Prop:=
 ∃(it:aM) (fp:List aM) (tn:Nat->bw->Prop) (J:It) (H':Hp),itv = .ref it/\Inv X du Z H' s2/\M9 X.prog X.w X.K tg J fp it tn/\tn 0 s2.heap/\(∀b∈fp,RS X du H' b)/\R J H'
def PI(X:Cx)(tg iter:bK)(wi:TI):Prop:=
 ∀(du:List (aM×dX))(s:aN)(Z:St)(H:Hp)(R:It->Hp->Prop),Inv X du Z H s->wi Z H R->
  ao (model X.prog X.w) X.A (eval iter X.env) (λv s1=>ao (model X.prog X.w) X.A (kZ v) (PIE X du Z tg R) X.xe s1) X.xe s
theorem KQ{M:Model}{A:bc}{E:aJ->aN->Prop}{s:aN}{tg:bK}{it:aM}{u:aJ}{o:dX}{n:String}{vs:Array aJ}{Q:Unit->aN->Prop}(ho:s.heap.get? it=aA o)(hc:o.cls = .type n)(hd:o.data = .fields vs)
    (hn:["enumerate","zip","dict_itemiterator","dict_reverseitemiterator","odict_iterator","itertools.zip_longest","itertools.pairwise"].contains n=aC) (hQ:Q () s):ao M A (jK tg (.ref it) u) Q E s:=by
  unfold jK
  cases tg<;>first
    | exact aP hQ
    | (cases u<;>first
        | exact aP hQ
        | (refine aF (wpAny_load ho ?_)
           rw[hc,hd];show ao M A (if(["enumerate","zip","dict_itemiterator","dict_reverseitemiterator","odict_iterator","itertools.zip_longest","itertools.pairwise"].contains n&&vs[0]?==aA (dm _))=aD then _ else _) Q E s;rw[pE (by intro h;rw[hn,Bool.false_and] at h;cases h)];exact aP hQ))
def Itl(K:aI)(a:aM):It:=
 ⟨λi H=>∃xs x,SqL K H a xs/\xs[i]?=aA x,λi H x H'=>H'=H/\∀xs,SqL K H a xs->xs[i]?=aA x,λi H=>∃xs,SqL K H a xs/\xs.length<=i⟩
def Itt(K:aI)(a:aM):It:=
 ⟨λi H=>∃xs x,SqT K H a xs/\xs[i]?=aA x,λi H x H'=>H'=H/\∀xs,SqT K H a xs->xs[i]?=aA x,λi H=>∃xs,SqT K H a xs/\xs.length<=i⟩
def B4(lo:Int)(n:Nat):It:=⟨λi _=>i<n,λi H x H'=>H'=H/\x = .int (lo+i),λi _=>n<=i⟩
theorem J0{P:bE}{w:bg}{K:aI}{tg:bK}(a it:aM):M9 P w K tg (Itl K a) [it] it (λi h=>h.IsListIter it a i) where
 mem:=by simp
 obj:=λi h st b hb=>by
  have e:b=it:=by simpa using hb
  subst e;obtain⟨o,e,c,d⟩:=st;exact⟨o,e,λv z=>by rw[d] at z;cases z⟩
 keep:=λi h h' st k=>st.at λo e=>k it (by simp) o e
 item:=by intro X hP hw hK hc i du s Z H E I hf st hg;subst hP hw hK;obtain⟨xs,x,hq,hx⟩:=hg;obtain⟨pA,rv,p,hz⟩:=I.list hq;obtain⟨u,hu,ru⟩:=rv.get hx;obtain⟨f0,f1,f2,f3,f4,f5⟩:=hf it (by simp);refine wpAny_pyNext_list_item st p.isList (x:=u) (by simpa using hu) λh' st' sb=>?_;have I1:Inv X du Z H { s with heap:=h' }:=I.turned (t':=s.toks) (λb o hb e=>(sb.2 b hb).trans e) f0 f1 f3 f4 f5;obtain⟨o,e,c,d⟩:=id st';exact⟨u,rfl,KQ (s:={ s with heap:=h' }) e c d (by decide) ⟨x,H,I1,ru,⟨rfl,λys hy=>by rw[I.list_inj hy hq];exact hx⟩,st',λb hb=>(hf b hb).1⟩⟩
 done:=by intro X hP hw hK hc i du s Z H E I hf st hg;subst hP hw hK;obtain⟨xs,hq,hx⟩:=hg;obtain⟨pA,rv,p,hz⟩:=I.list hq;obtain⟨f0,f1,f2,f3,f4,f5⟩:=hf it (by simp);have hl:=rv.length;exact wpAny_pyNext_list_end (I.ok.hd hc) st p.isList (by simp;omega) λh' eb=>⟨rfl,I.turned (t':=s.toks) (λb o hb e=>eb b o hb e) f0 f1 f3 f4 f5⟩
 self:=λ_ _ _ _ _ st h=>wpAny_pyIter_listiter st h
theorem La{P:bE}{w:bg}{K:aI}{tg:bK}(a it:aM):M9 P w K tg (Itt K a) [it] it (λi h=>h.IsTupleIter it a i) where
 mem:=by simp
 obj:=λi h st b hb=>by
  have e:b=it:=by simpa using hb
  subst e;obtain⟨o,e,c,d⟩:=st;exact⟨o,e,λv z=>by rw[d] at z;cases z⟩
 keep:=λi h h' st k=>st.at λo e=>k it (by simp) o e
 item:=by intro X hP hw hK hc i du s Z H E I hf st hg;subst hP hw hK;obtain⟨xs,x,hq,hx⟩:=hg;obtain⟨pA,rv,p,hz⟩:=I.tuple hq;obtain⟨u,hu,ru⟩:=rv.get hx;obtain⟨f0,f1,f2,f3,f4,f5⟩:=hf it (by simp);refine wpAny_pyNext_tuple_item st (show s.heap.IsTuple a pA.toArray from p) (x:=u) (by simpa using hu) λh' st' sb=>?_;have I1:Inv X du Z H { s with heap:=h' }:=I.turned (t':=s.toks) (λb o hb e=>(sb.2 b hb).trans e) f0 f1 f3 f4 f5;obtain⟨o,e,c,d⟩:=id st';exact⟨u,rfl,KQ (s:={ s with heap:=h' }) e c d (by decide) ⟨x,H,I1,ru,⟨rfl,λys hy=>by rw[I.tuple_inj hy hq];exact hx⟩,st',λb hb=>(hf b hb).1⟩⟩
 done:=by intro X hP hw hK hc i du s Z H E I hf st hg;subst hP hw hK;obtain⟨xs,hq,hx⟩:=hg;obtain⟨pA,rv,p,hz⟩:=I.tuple hq;obtain⟨f0,f1,f2,f3,f4,f5⟩:=hf it (by simp);have hl:=rv.length;exact wpAny_pyNext_tuple_end (I.ok.hd hc) st (show s.heap.IsTuple a pA.toArray from p) (by simp;omega) λh' eb=>⟨rfl,I.turned (t':=s.toks) (λb o hb e=>eb b o hb e) f0 f1 f3 f4 f5⟩
 self:=λ_ _ _ _ _ st h=>wpAny_pyIter_tupleiter st h
theorem Lb{P:bE}{w:bg}{K:aI}{tg:bK}(it:aM)(lo:Int)(n:Nat):M9 P w K tg (B4 lo n) [it] it (λi h=>IsRangeIter h it (lo+(i:Nat)*1) ((n:Int)-(i:Nat)) 1) where
 mem:=by simp
 obj:=λi h st b hb=>by
  have e:b=it:=by simpa using hb
  subst e
  exact⟨_,st,λv z=>by
   have z':Data.fields _=Data.cell v:=z;cases z'⟩
 keep:=λi h h' st k=>k it (by simp) _ st
 item:=by intro X hP hw hK hc i du s Z H E I hf st hg;subst hP hw hK;obtain⟨f0,f1,f2,f3,f4,f5⟩:=hf it (by simp);have W:=Walks.range (prog:=X.prog) (w:=X.w) (I.ok.hd hc) it lo 1 n;refine W.item i s _ _ hg st λv h' tk hv st' kk=>?_;obtain⟨t,rfl⟩:=hv;have I1:Inv X du Z H { s with heap:=h',toks:=tk }:=I.turned (λb o hb e=>kk b o (by simpa using hb) e) f0 f1 f3 f4 f5;refine⟨_,rfl,KQ (s:={ s with heap:=h',toks:=tk }) (n:="range_iterator") st' rfl rfl (by decide) ⟨.int (lo+i),H,I1,⟨t,?_⟩,⟨rfl,rfl⟩,st',λb hb=>(hf b hb).1⟩⟩;rw[Int.mul_one]
 done:=by intro X hP hw hK hc i du s Z H E I hf st hg;subst hP hw hK;obtain⟨f0,f1,f2,f3,f4,f5⟩:=hf it (by simp);exact wpAny_pyNext_range_end (I.ok.hd hc) st (by have:n<=i:=hg;omega) λh' eb=>⟨rfl,I.turned (t':=s.toks) (λb o hb e=>eb b o hb e) f0 f1 f3 f4 f5⟩
 self:=λ_ _ _ _ _ st h=>wpAny_pyIter_rangeiter st h
section
variable {X:Cx} {tg:bK}
def B5(K:aI)(tl:TE):TI:=λZ H R=>tl Z H λx H1=>∃a,x = .ref a/\(∃xs,SqL K H1 a xs)/\R (Itl K a) H1
def Zam(K:aI)(tl:TE):TI:=λZ H R=>tl Z H λx H1=>∃a,x = .ref a/\(∃xs,SqT K H1 a xs)/\R (Itt K a) H1
theorem Eb{l:bK}{tl:TE}(hl:PE X l tl):PI X tg l (B5 X.K tl):=by
 intro du s Z H R I h;refine Yo (hl du s Z H _ I h) λv s1 ⟨x,H1,I1,r1,q1⟩=>?_;obtain⟨a,e,⟨xs,hq⟩,q⟩:=q1;subst e;cases r1;obtain⟨pA,rv,p,hz⟩:=I1.list hq;refine wpAny_pyIter_list p.isList ?_;refine⟨s1.heap.objs.size,[s1.heap.objs.size],_,_,H1,rfl,I1.kept (t':=s1.toks) λb o e=>aO _ e,J0 a _,⟨_,aj _ rfl,rfl,rfl⟩,λb hb=>?_,q⟩;have e:b=s1.heap.objs.size:=by simpa using hb
 subst e;exact I1.fpOk (af _) (I1.hok.fresh (af _))
theorem Cv{l:bK}{tl:TE}(hl:PE X l tl):PI X tg l (Zam X.K tl):=by
 intro du s Z H R I h;refine Yo (hl du s Z H _ I h) λv s1 ⟨x,H1,I1,r1,q1⟩=>?_;obtain⟨a,e,⟨xs,hq⟩,q⟩:=q1;subst e;cases r1;obtain⟨pA,rv,p,hz⟩:=I1.tuple hq;refine j7 (show s1.heap.IsTuple a pA.toArray from p) ?_;refine⟨s1.heap.objs.size,[s1.heap.objs.size],_,_,H1,rfl,I1.kept (t':=s1.toks) λb o e=>aO _ e,La a _,⟨_,aj _ rfl,rfl,rfl⟩,λb hb=>?_,q⟩;have e:b=s1.heap.objs.size:=by simpa using hb
 subst e;exact I1.fpOk (af _) (I1.hok.fresh (af _))
theorem NJ{du:List (aM×dX)}{Z:St}{H:Hp}{s:aN}{R:It->Hp->Prop}{E:aJ->aN->Prop}{lo hi:Int}{t u v:Tok}{tk:Nat}(I:Inv X du Z H s)(h1 : -(2^62)<=lo)(h2:lo<2^62)(h3 : -(2^62)<=hi)(h4:hi<2^62)
  (q:R (B4 lo (hi-lo).toNat) H):ao (model X.prog X.w) X.A (kZ (.ref s.heap.objs.size)) (PIE X du Z tg R) E { s with heap:=s.heap.push { cls:=.type "range",data:=.fields #[.int lo t,.int hi u,.int 1 v] },toks:=tk }:=by
 refine wpAny_pyIter_range (ou ..) (small_one h1 h2 h3 h4) ?_;have I1:Inv X du Z H { s with heap:=s.heap.push { cls:=.type "range",data:=.fields #[.int lo t,.int hi u,.int 1 v] },toks:=tk }:=I.kept λb o e=>aO _ e
 refine⟨(s.heap.push { cls:=.type "range",data:=.fields #[.int lo t,.int hi u,.int 1 v] }).objs.size,[(s.heap.push { cls:=.type "range",data:=.fields #[.int lo t,.int hi u,.int 1 v] }).objs.size],_,_,H,rfl,
  I1.kept (t':=tk) λb o e=>aO _ e,Lb _ lo (hi-lo).toNat,?_,λb hb=>?_,q⟩
 ·have e1:lo+((0:Nat):Int)*1=lo:=by simp
  have e2:(((hi-lo).toNat:Nat):Int)-((0:Nat):Int)=ij.Range.rangeSize lo hi 1:=by rw[rangeSize_one];split<;>omega
  show IsRangeIter _ _ (lo+((0:Nat):Int)*1) ((((hi-lo).toNat:Nat):Int)-((0:Nat):Int)) 1;rw[e1,e2];exact aj _ rfl
 ·have e:b=(s.heap.push { cls:=.type "range",data:=.fields #[.int lo t,.int hi u,.int 1 v] }).objs.size:=by simpa using hb
  subst e;exact I1.fpOk (af _) (I1.hok.fresh (af _))
def B6(ta:TA):TI:=λZ H R=>ta Z H λvs H1=>∃j:Int,vs=[.int j]/\-(2^62)<=j/\j<2^62/\R (B4 0 j.toNat) H1
def B7(ta:TA):TI:=λZ H R=>ta Z H λvs H1=>∃i j:Int,vs=[.int i,.int j]/\(-(2^62)<=i/\i<2^62/\-(2^62)<=j/\j<2^62)/\R (B4 i (j-i).toNat) H1
theorem J1{a:bK}{ta:TA}{p pos:fN}(hg:Gl X "range")(hm:X.mg "range" = aB)(ha:PA X [a] ta)(hs:aR [a] X.env=[(aC,eval a X.env)]:=by rfl):PI X tg (.Call (.Name "range" p) [a] [] pos) (B6 ta):=by
 intro du s Z H R I h;refine Call_ (XX I hg hm nz (cF (Yo (ha pos du s Z H _ I h) λus s1 ⟨vs,H1,I1,r1,q1⟩=>?_) hs rfl));obtain⟨j,e,q1,q2,q⟩:=q1;subst e
 cases r1 with
 | cons r rr=>
  cases rr;obtain⟨t,rfl⟩:=r;exact call_range_1 (NJ I1 (by omega) (by omega) q1 q2 (by simpa using q))
theorem J2{a b:bK}{ta:TA}{p pos:fN}(hg:Gl X "range")(hm:X.mg "range" = aB)(ha:PA X [a,b] ta)(hs:aR [a,b] X.env=[(aC,eval a X.env),(aC,eval b X.env)]:=by rfl)(hs2:aR [b] X.env=[(aC,eval b X.env)]:=by rfl) :
  PI X tg (.Call (.Name "range" p) [a,b] [] pos) (B7 ta):=by
 intro du s Z H R I h;refine Call_ (XX I hg hm nz (cF (Yo (ha pos du s Z H _ I h) λus s1 ⟨vs,H1,I1,r1,q1⟩=>?_) (by rw[hs,hs2]) (by rw[hs2];rfl)));obtain⟨i,j,e,⟨q1,q2,q3,q4⟩,q⟩:=q1;subst e
 cases r1 with
 | cons r rr=>
  cases rr with
  | cons r' rr=>
   cases rr;obtain⟨t,rfl⟩:=r;obtain⟨t',rfl⟩:=r';exact call_range_2 (NJ I1 q1 q2 q3 q4 q)
def Ec(wi:TI)(g:TG)(tb:TS):TS:=λD Z H=>wi Z H λJ H1=>∃W:Nat->Nat->St->Hp->Prop,(∃m,W 0 m Z H1)/\∀i m Z H,W i m Z H->
 (J.stop i H/\D.nx Z H)\/(J.go i H/\∃N:St->Hp->Prop,(∀Z' H',N Z' H'->∃m',m'<m/\W (i+1) m' Z' H')/\∀x H',J.yld i H x H'->g x Z H' λZ2 H2=>tb { D with nx:=N,ct:=N,bk:=D.nx } Z2 H2)
def SQ(fp:List aM)(h:bw):List (aM×dX):=fp.filterMap λb=>(h.get? b).map λo=>(b,o)
theorem VU{fp:List aM}{h:bw}{b:aM}{o:dX}(hb:b∈fp)(e:h.get? b=aA o):(b,o)∈SQ fp h:=iC.mpr ⟨b,hb,by rw[e];rfl⟩
theorem J3{fp:List aM}{h:bw}{p:aM×dX}(hp:p∈SQ fp h):p.1∈fp/\h.get? p.1=aA p.2:=by
 obtain⟨b,hb,e⟩:=iC.mp hp
 cases q:h.get? b with
 | none=>rw[q] at e;cases e
 | some o=>
  rw[q] at e;have e':(b,o)=p:=bB e;subst e';exact⟨hb,q⟩
theorem Inv.pinned{du:List (aM×dX)}{Z:St}{H:Hp}{s:aN}{fp:List aM}(I:Inv X du Z H s)(hf:∀b∈fp,RS X du H b)(ho:∀b∈fp,∃o,s.heap.get? b=aA o/\∀v,o.data≠.cell v):Inv X (du++SQ fp s.heap) Z H s:=
 I.pins_of λp hp=>(aq.mp hp).elim (λz=>I.pin p (au _ z)) λz=>by obtain⟨hb,e⟩:=J3 z;obtain⟨f0,f1,f2,_⟩:=hf p.1 hb;obtain⟨o,e',d⟩:=ho p.1 hb;rw[e] at e';cases e';exact⟨e,f0,f1,f2,d⟩
theorem Inv.unpinned{du pl:List (aM×dX)}{Z:St}{H:Hp}{s:aN}(I:Inv X (du++pl) Z H s):Inv X du Z H s:=I.pins_of λp hp=>I.pin p (au _ (av _ hp))
theorem OI{iter:bK}{body:List cO}{wi:TI}{g:TG}{tb:TS}{pos:fN}(hp:nF (model X.prog X.w) X.A X.env X.xe)(hc:X.calm=aD)(hi:PI X tg iter wi)(hg:PG X tg g)(hb:PSs X body tb)
  (hs:∀x,dM iter X.env x=pure x:=by intro _;rfl):PS X (.For tg iter body [] pos) (Ec wi g tb):=by
 intro du s Z H D I h;refine wpAny_For (Yo (hi du s Z H _ I h) λv s1 h1=>Yo h1 λitv s2 h2=>?_) hs;obtain⟨it,fp,tn,J,H2,e,I2,T,st2,f2,W,⟨m0,w0⟩,turn⟩:=h2;subst e
 -- what stays aD of the iterator's objects through the loop
 have stat:∀{H':Hp},(∀b∈fp,H' b=aB)->∀b∈fp,RS X du H' b:=λhn b hb=>⟨hn b hb,(f2 b hb).2⟩;refine codeAny_forLoop_any (λn s'=>∃i Z' H',Inv X du Z' H' s'/\tn i s'.heap/\(∀b∈fp,H' b=aB)/\W i n Z' H') ?_ m0 ⟨0,Z,H2,I2,st2,λb hb=>(f2 b hb).1,w0⟩;rintro n s3 ⟨i,Z3,H3,I3,st3,fr3,w3⟩;rcases turn i n Z3 H3 w3 with⟨stop,qn⟩ | ⟨go,N,hN,step⟩
 ·refine fA hp (Yo (T.done X rfl rfl rfl hc i du s3 Z3 H3 X.xe I3 (stat fr3) st3 stop) λr s4 ⟨hr,I4⟩=>?_);subst hr;exact gy ⟨Z3,H3,I4,qn⟩
 ·refine fA hp (Yo (T.item X rfl rfl rfl hc i du s3 Z3 H3 X.xe I3 (stat fr3) st3 go) λr s4 ⟨u,hr,h4⟩=>?_);subst hr;refine fA hp (Yo h4 λ_ s5 ⟨x,H5,I5,r5,y5,st5,fr5⟩=>?_);have I5':=I5.pinned (stat fr5) (T.obj _ _ st5);refine fA hp (Yo (hg _ s5 Z3 H5 x u _ I5' r5 (step x H5 y5)) λ_ s6 ⟨Z6,H6,I6,q6⟩=>?_);refine fA hp (Yo (hb _ s6 Z6 H6 _ I6 q6) λf s7 q7=>?_);have again:∀{Z7:St}{H7:Hp},Inv X (du++SQ fp s5.heap) Z7 H7 s7->N Z7 H7->∃m,m<n/\∃i Z' H',Inv X du Z' H' s7/\tn i s7.heap/\(∀b∈fp,H' b=aB)/\W i m Z' H':=λ{Z7 H7} I7 n7=>by obtain⟨m',hm,w7⟩:=hN Z7 H7 n7;refine⟨m',hm,i+1,Z7,H7,I7.unpinned,T.keep _ _ _ st5 λb hb o e=>(I7.pin (b,o) (au _ (au _ (VU hb e)))).1,λb hb=>?_,w7⟩;obtain⟨o,e,d⟩:=T.obj _ _ st5 b hb;exact(I7.pin (b,o) (au _ (au _ (VU hb e)))).2.1
  cases f with
  | next=>obtain⟨Z7,H7,I7,n7⟩:=q7;exact again I7 n7
  | cont=>obtain⟨Z7,H7,I7,n7⟩:=q7;exact again I7 n7
  | brk=>obtain⟨Z7,H7,I7,q7⟩:=q7;exact⟨Z7,H7,I7.unpinned,q7⟩
  | ret v=>obtain⟨x7,Z7,H7,I7,r7,q7⟩:=q7;exact⟨x7,Z7,H7,I7.unpinned,r7,q7⟩
end
abbrev R2:=V->V->Hp->VK->Prop
def Us(X:Cx)(f:aJ->aJ->Sem aJ)(r:R2):Prop:=
 ∀(du:List (aM×dX))(s:aN)(Z:St)(H:Hp)(x y:V)(v u:aJ)(Q:VK),Inv X du Z H s->RelV x v->RelV y u->r x y H Q->
  ao (model X.prog X.w) X.A (f v u) (EP X du Z Q) X.xe s
def UnR(X:Cx)(f:aJ->Sem aJ)(r:V->Hp->VK->Prop):Prop:=
 ∀(du:List (aM×dX))(s:aN)(Z:St)(H:Hp)(x:V)(v:aJ)(Q:VK),Inv X du Z H s->RelV x v->r x H Q->
  ao (model X.prog X.w) X.A (f v) (EP X du Z Q) X.xe s
def Wo(X:Cx)(f:aJ)(r:List V->Hp->VK->Prop):Prop:=
 ∀(du:List (aM×dX))(s:aN)(Z:St)(H:Hp)(xs:List V)(us:List aJ)(Q:VK),Inv X du Z H s->Vals xs us->r xs H Q->
  ao (model X.prog X.w) X.A (call f us) (EP X du Z Q) X.xe s
def Zao(X:Cx)(r:V->Hp->(Bool->Hp->Prop)->Prop):Prop:=
 ∀(du:List (aM×dX))(s:aN)(Z:St)(H:Hp)(x:V)(v:aJ)(Q:Bool->Hp->Prop),Inv X du Z H s->RelV x v->r x H Q->
  ao (model X.prog X.w) X.A (truthy v) (TP X du Z Q) X.xe s
def Cw(r:R2)(ta tb:TE):TE:=λZ H Q=>ta Z H λx H1=>tb Z H1 λy H2=>r x y H2 Q
def tUn(r:V->Hp->VK->Prop)(ta:TE):TE:=λZ H Q=>ta Z H λx H1=>r x H1 Q
def rI(C:Int->Int->Prop)(g:Int->Int->V):R2:=λx y H Q=>∃i j,x = .int i/\y = .int j/\C i j/\Q (g i j) H
def Ed(g:Int->Int->V):R2:=λx y H Q=>∃i j,x = .int i/\y = .int j/\Q (g i j) H
def rU(g:Int->V):V->Hp->VK->Prop:=λx H Q=>∃i,x = .int i/\Q (g i) H
section
variable {X:Cx} {a b c:bK} {ta tb tc:TE} {pos:fN}
theorem Cy(ha:PE X a ta)(hb:PE X b tb){du:List (aM×dX)}{s:aN}{Z:St}{H:Hp}{R:V->V->Hp->Prop}(I:Inv X du Z H s)
  (h:ta Z H λx H1=>tb Z H1 λy H2=>R x y H2) {Q:aJ->aN->Prop} {f:aJ->aJ->Sem aJ}
  (hf:∀v u s2 x y H2,Inv X du Z H2 s2->RelV x v->RelV y u->R x y H2->ao (model X.prog X.w) X.A (f v u) Q X.xe s2) :
  ao (model X.prog X.w) X.A (eval a X.env) (λv s₁=>ao (model X.prog X.w) X.A (eval b X.env) (λu s₂=>ao (model X.prog X.w) X.A (f v u) Q X.xe s₂) X.xe s₁) X.xe s:=by
 refine Yo (ha du s Z H _ I h) λv s1 ⟨x,H1,I1,r1,q1⟩=>?_;refine Yo (hb du s1 Z H1 _ I1 q1) λu s2 ⟨y,H2,I2,r2,q2⟩=>?_;exact hf v u s2 x y H2 I2 r1 r2 q2
theorem HZ{op:Operator}{r:R2}(ho:Us X (fD op) r)(ha:PE X a ta)(hb:PE X b tb):PE X (.BinOp a op b pos) (Cw r ta tb):=by intro du s Z H Q I h;exact wpAny_BinOp (Cy ha hb I h λv u s2 x y H2 I2 rx ry q=>ho du s2 Z H2 x y v u Q I2 rx ry q)
theorem B8{op:UnaryOp}{r:V->Hp->VK->Prop}(ho:UnR X (unaryOp op) r)(ha:PE X a ta):PE X (.UnaryOp op a pos) (tUn r ta):=by intro du s Z H Q I h;exact UnaryOp_ (Yo (ha du s Z H _ I h) λv s1 ⟨x,H1,I1,r1,q1⟩=>ho du s1 Z H1 x v Q I1 r1 q1)
theorem BM{f:aJ->aJ->Sem aJ}{C:Int->Int->Prop}{g:Int->Int->Int}
  (rule:∀(i j:Int)(t u:Tok)(s:aN)(Q:aJ->aN->Prop)(E:aJ->aN->Prop),C i j->Q (.int (g i j) s.toks) { s with toks:=s.toks+1 }->ao (model X.prog X.w) X.A (f (.int i t) (.int j u)) Q E s) :
  Us X f (rI C λi j=>.int (g i j)):=by
 intro du s Z H x y v u Q I rx ry h;obtain⟨i,j,rfl,rfl,hc,q⟩:=h;obtain⟨t,rfl⟩:=rx;obtain⟨t',rfl⟩:=ry;exact rule i j t t' s _ _ hc ⟨.int (g i j),H,I.tok _,⟨_,rfl⟩,q⟩
theorem B9{f:aJ->aJ->Sem aJ}{g:Int->Int->Int}
  (rule:∀(i j:Int)(t u:Tok)(s:aN)(Q:aJ->aN->Prop)(E:aJ->aN->Prop),Q (.int (g i j) s.toks) { s with toks:=s.toks+1 }->ao (model X.prog X.w) X.A (f (.int i t) (.int j u)) Q E s) :
  Us X f (Ed λi j=>.int (g i j)):=by
 intro du s Z H x y v u Q I rx ry h;obtain⟨i,j,rfl,rfl,q⟩:=h;obtain⟨t,rfl⟩:=rx;obtain⟨t',rfl⟩:=ry;exact rule i j t t' s _ _ ⟨.int (g i j),H,I.tok _,⟨_,rfl⟩,q⟩
theorem Cz{f:aJ->aJ->Sem aJ}{g:Int->Int->Bool}
  (rule:∀(i j:Int)(t u:Tok)(s:aN)(Q:aJ->aN->Prop)(E:aJ->aN->Prop),Q (.bool (g i j)) s->ao (model X.prog X.w) X.A (f (.int i t) (.int j u)) Q E s) :
  Us X f (Ed λi j=>.bl (g i j)):=by
 intro du s Z H x y v u Q I rx ry h;obtain⟨i,j,rfl,rfl,q⟩:=h;obtain⟨t,rfl⟩:=rx;obtain⟨t',rfl⟩:=ry;exact rule i j t t' s _ _ ⟨.bl (g i j),H,I,rfl,q⟩
def Qc(i j:Int):Prop:=0<j/\j<1073741824
def DR(i j:Int):Prop:=j≠0/\j.natAbs<1073741824
def H9(i j:Int):Prop:=0<=j/\j<=1000000/\i.natAbs<2^64
def CMul(i j:Int):Prop:=(-(2^64)<i/\i<2^64)\/(-(2^64)<j/\j<2^64)
theorem CMul.ok{i j:Int}(h:CMul i j):IntMulOk i j:=by
 rcases h with⟨h1,h2⟩ | ⟨h1,h2⟩
 ·exact .of_left (intBits_le_64 h1 h2)
 ·exact .of_right (intBits_le_64 h1 h2)
theorem CA:Us X (fD .Add) (Ed λi j=>.int (i+j)):=B9 λ_ _ _ _ _ _ _ q=>add_int q
theorem CB:Us X (fD .Sub) (Ed λi j=>.int (i-j)):=B9 λ_ _ _ _ _ _ _ q=>sub_int q
theorem CC:Us X (fD .Mult) (rI CMul λi j=>.int (i*j)):=BM λ_ _ _ _ _ _ _ hc q=>mul_int q hc.ok
theorem Ee:Us X (fD .FloorDiv) (rI Qc λi j=>.int (i/j)):=BM λi j _ _ _ _ _ hc q=>by have h1:(0:Int)<j:=hc.1;have h2:j<1073741824:=hc.2;exact floordiv_int (by omega) (by rw[Int.fdiv_eq_ediv_of_nonneg i (by omega)];exact q) (.inl (PyProof.noPylong_small (by omega)))
theorem CD:Us X (fD .Mod) (rI (λ_ j=>0<j) λi j=>.int (i%j)):=BM λi j _ _ _ _ _ hc q=>by have h1:(0:Int)<j:=hc;exact mod_int' (by omega) (by rw[Int.fmod_eq_emod_of_nonneg i (by omega)];exact q)
theorem CF:Us X (fD .Pow) (rI H9 λi j=>.int (i^j.toNat)):=BM λ_ _ _ _ _ _ _ hc q=>pow_int_small hc.1 hc.2.1 hc.2.2 q
theorem unI{f:aJ->Sem aJ}{g:Int->Int}
  (rule:∀(i:Int)(t:Tok)(s:aN)(Q:aJ->aN->Prop)(E:aJ->aN->Prop),Q (.int (g i) s.toks) { s with toks:=s.toks+1 }->ao (model X.prog X.w) X.A (f (.int i t)) Q E s) :
  UnR X f (rU λi=>.int (g i)):=by
 intro du s Z H x v Q I rx h;obtain⟨i,rfl,q⟩:=h;obtain⟨t,rfl⟩:=rx;exact rule i t s _ _ ⟨.int (g i),H,I.tok _,⟨_,rfl⟩,q⟩
theorem CG:UnR X (unaryOp .USub) (rU λi=>.int (-i)):=unI λ_ _ _ _ _ q=>neg_int q
end
section
variable {X:Cx} {a b c:bK} {ta tb tc:TE} {pos:fN}
theorem KR:Us X (cy .Lt) (Ed λi j=>.bl (decide (i<j))):=Cz λ_ _ _ _ _ _ _ q=>lt_int q
theorem DS:Us X (cy .LtE) (Ed λi j=>.bl (decide (i<=j))):=Cz λ_ _ _ _ _ _ _ q=>le_int q
theorem Aa:Us X (cy .Gt) (Ed λi j=>.bl (decide (j<i))):=Cz λ_ _ _ _ _ _ _ q=>gt_int q
theorem SR(b:bK){op:kq}(h:op≠.In:=by decide)(h2:op≠.NotIn:=by decide):cg op b=aC:=by
 have e1:(op==kq.In)=aC:=by cases op<;>first | rfl | exact absurd rfl h
 have e2:(op==kq.NotIn)=aC:=by cases op<;>first | rfl | exact absurd rfl h2
 cases b<;>simp[cg,e1,e2]
theorem Ef{op:kq}{r:R2}(ho:Us X (cy op) r)(ha:PE X a ta)(hb:PE X b tb)(hm:cg op b=aC):PE X (.Compare a [op] [b] pos) (Cw r ta tb):=by intro du s Z H Q I h;exact wpAny_Compare1 (Cy ha hb I h λv u s2 x y H2 I2 rx ry q=>ho du s2 Z H2 x y v u Q I2 rx ry q) hm
def NK(t:TE):TT:=λZ H Q=>t Z H λx H'=>∃k,x = .bl k/\Q k H'
theorem Eg{op:kq}{r:R2}(ho:Us X (cy op) r)(ha:PE X a ta)(hb:PE X b tb)(hm:cg op b=aC):PT X (.Compare a [op] [b] pos) (NK (Cw r ta tb)):=by
 intro du s Z H Q I h
 refine lG (Yo (ha du s Z H _ I h) λv s1 ⟨x,H1,I1,r1,q1⟩=>Yo (hb du s1 Z H1 _ I1 q1) λu s2 ⟨y,H2,I2,r2,q2⟩=>
  Yo (ho du s2 Z H2 x y v u _ I2 r1 r2 q2) λc s3 ⟨z,H3,I3,r3,k,e,q3⟩=>?_) hm
 subst e;cases r3;exact cV ⟨H3,I3,q3⟩
def Lc(r r':R2)(ta tb tc:TE):TE:=λZ H Q=>ta Z H λx H1=>tb Z H1 λy H2=>r x y H2 λz H3=>∃k,z = .bl k/\
 (if k=aD then tc Z H3 λw' H4=>r' y w' H4 Q else Q (.bl aC) H3)
theorem Ga{op op':kq}{r r':R2}(ho:Us X (cy op) r)(ho':Us X (cy op') r')(ha:PE X a ta)(hb:PE X b tb)(hc:PE X c tc)
  (hm:nG [op,op'] [b,c]=aC:=by with_unfolding_all rfl):PE X (.Compare a [op,op'] [b,c] pos) (Lc r r' ta tb tc):=by
 intro du s Z H Q I h
 refine Compare_chain (Yo (ha du s Z H _ I h) λv s1 ⟨x,H1,I1,r1,q1⟩=>chain_link (Yo (hb du s1 Z H1 _ I1 q1) λu s2 ⟨y,H2,I2,r2,q2⟩=>
  Yo (ho du s2 Z H2 x y v u _ I2 r1 r2 q2) λd s3 ⟨z,H3,I3,r3,k,e,q3⟩=>?_)) hm
 subst e;cases r3;refine cV ?_
 cases k with
 | false=>exact ite_ff ⟨.bl aC,H3,I3,rfl,q3⟩
 | true=>exact ite_tt (chain_last (Yo (hc du s3 Z H3 _ I3 q3) λw' s4 ⟨z',H4,I4,r4,q4⟩=>ho' du s4 Z H4 y z' u w' Q I4 r2 r4 q4))
theorem Gb{op op':kq}{r r':R2}(ho:Us X (cy op) r)(ho':Us X (cy op') r')(ha:PE X a ta)(hb:PE X b tb)(hc:PE X c tc)
  (hm:nG [op,op'] [b,c]=aC:=by with_unfolding_all rfl):PT X (.Compare a [op,op'] [b,c] pos) (NK (Lc r r' ta tb tc)):=by
 intro du s Z H Q I h
 refine isTrue_chain (Yo (ha du s Z H _ I h) λv s1 ⟨x,H1,I1,r1,q1⟩=>test_link (Yo (hb du s1 Z H1 _ I1 q1) λu s2 ⟨y,H2,I2,r2,q2⟩=>
  Yo (ho du s2 Z H2 x y v u _ I2 r1 r2 q2) λd s3 ⟨z,H3,I3,r3,k,e,q3⟩=>?_)) hm
 subst e;cases r3;refine cV ?_
 cases k with
 | false=>
  obtain⟨k',e',q'⟩:=q3;cases e';exact ite_ff ⟨H3,I3,q'⟩
 | true=>
  refine ite_tt (test_last (Yo (hc du s3 Z H3 _ I3 q3) λw' s4 ⟨z',H4,I4,r4,q4⟩=>Yo (ho' du s4 Z H4 y z' u w' _ I4 r2 r4 q4) λd' s5 ⟨z2,H5,I5,r5,k2,e2,q5⟩=>?_));subst e2;cases r5;exact cV ⟨H5,I5,q5⟩
def Ac(K:aI)(x:V)(H:Hp)(k:Bool):Prop:=
 match x with
 | .non=>k=aC
 | .bl b=>k=b
 | .int i=>k=(i != 0)
 | .str y=>y.length<=sizeLine/\k=((y.length:Int) != 0)
 | .byt y=>y.size<=sizeLine/\k=((y.size:Int) != 0)
 | .ref p=>(∃xs,SqL K H p xs/\k = !xs.isEmpty)\/(∃xs,SqT K H p xs/\k = !xs.isEmpty)\/∃oy,H p=aA (.dK oy)/\k = !oy.isEmpty
 | _=>False
theorem Ld{κ:Type}{oy:List (κ×V)}{vs:List (κ×aJ)}(r:KV oy vs):(!vs.isEmpty) = !oy.isEmpty:=by cases r<;>rfl
theorem Qd{xs:List V}{pA:List aJ}(r:Vals xs pA):(!pA.toArray.isEmpty) = !xs.isEmpty:=by cases r<;>simp
theorem SS:(sizeLine:Nat)<2^63:=by rw[iH];decide
theorem CH:Zao X (λx H Q=>∃k,Ac X.K x H k/\Q k H):=by
 intro du s Z H x v Q I rx h;obtain⟨k,e,q⟩:=h;have hl:=SS;have hs:sizeLine=16777216:=iH
 cases x with
 | non=>
  cases rx;have e':k=aC:=e;subst e';exact truthy_none ⟨H,I,q⟩
 | bl b=>
  cases rx;have e':k=b:=e;subst e';exact cV ⟨H,I,q⟩
 | int i=>
  obtain⟨t,rfl⟩:=rx;have e':k=(i != 0):=e;subst e';exact PySem.P.truthy_int ⟨H,I,q⟩
 | str y=>
  obtain⟨t,rfl⟩:=rx;obtain⟨hy,e'⟩:y.length<=sizeLine/\k=((y.length:Int) != 0):=e;subst e';exact PySem.P.truthy_str (by omega) ⟨H,I.tok _,q⟩
 | byt y=>
  obtain⟨t,rfl⟩:=rx;obtain⟨hy,e'⟩:y.size<=sizeLine/\k=((y.size:Int) != 0):=e;subst e';exact PySem.W.truthy_bytes (by omega) ⟨H,I.tok _,q⟩
 | ref p=>
  cases rx;have e':(∃xs,SqL X.K H p xs/\k = !xs.isEmpty)\/(∃xs,SqT X.K H p xs/\k = !xs.isEmpty)\/∃oy,H p=aA (.dK oy)/\k = !oy.isEmpty:=e;rcases e' with⟨xs,hx,e'⟩ | ⟨xs,hx,e'⟩ | ⟨oy,hx,e'⟩
  ·subst e';obtain⟨pA,r,pl,hz⟩:=I.list hx;have hlen:=r.length;exact wpAny_truthy_list pl.isList (by simp only[aV];omega) ⟨H,I.tok _,by rw[Qd r];exact q⟩
  ·subst e';obtain⟨pA,r,pl,hz⟩:=I.tuple hx;have hlen:=r.length;exact truthy_tuple pl (by simp only[aV];omega) ⟨H,I.tok _,by rw[Qd r];exact q⟩
  ·subst e';obtain⟨hz,hS,vs,r,m⟩:oy.length<=sizeLine/\(p==fM)=aC/\∃vs,KV oy vs/\s.heap.DictOf (YT X.prog X.w) p vs:=I.hok p _ hx;have hlen:oy.length=vs.length:=Paired.length r;exact wpAny_truthy_dict hS m (by omega) ⟨H,I.tok _,by rw[Ld r];exact q⟩
 | _=>exact(show False from e).elim
theorem Gd(ha:PE X a ta)(he:∀whole,mX a X.env whole=(do let v <-whole;nu a.pos;holding [v] (truthy v))) :
  PT X a (λZ H Q=>ta Z H λx H'=>∃k,Ac X.K x H' k/\Q k H'):=by
 intro du s Z H Q I h;exact isTrue_plain (Yo (ha du s Z H _ I h) λv s1 ⟨x,H1,I1,r1,q1⟩=>CH du s1 Z H1 x v Q I1 r1 q1) (he _)
theorem Uv{x:V}{us:List aJ}(r:Vals [x] us):∃u,us=[u]/\RelV x u:=by
 cases r with
 | cons r1 r2=>cases r2;exact⟨_,rfl,r1⟩
theorem KS{x y:V}{us:List aJ}(r:Vals [x,y] us):∃u w',us=[u,w']/\RelV x u/\RelV y w':=by
 cases r with
 | cons r1 r2=>
  cases r2 with
  | cons r3 r4=>cases r4;exact⟨_,_,rfl,r1,r3⟩
theorem PR(hc:X.calm=aD):Wo X (.builtin "max") (λxs H Q=>∃i j,xs=[.int i,.int j]/\Q (.int (if j>i then j else i)) H):=by
 intro du s Z H xs us Q I r h;obtain⟨i,j,rfl,q⟩:=h;obtain⟨u,w',rfl,⟨t,rfl⟩,⟨t',rfl⟩⟩:=KS r;refine max_two_ints (I.ok.hd hc) λh' tk k=>⟨_,H,I.kept k,?_,q⟩;by_cases hj:j>i
 ·rw[pC hj,pC hj];exact⟨_,rfl⟩
 ·rw[pE hj,pE hj];exact⟨_,rfl⟩
theorem SU(hc:X.calm=aD):Wo X (.builtin "min") (λxs H Q=>∃i j,xs=[.int i,.int j]/\Q (.int (if j<i then j else i)) H):=by
 intro du s Z H xs us Q I r h;obtain⟨i,j,rfl,q⟩:=h;obtain⟨u,w',rfl,⟨t,rfl⟩,⟨t',rfl⟩⟩:=KS r;refine min_two_ints (I.ok.hd hc) λh' tk k=>⟨_,H,I.kept k,?_,q⟩;by_cases hj:j<i
 ·rw[pC hj,pC hj];exact⟨_,rfl⟩
 ·rw[pE hj,pE hj];exact⟨_,rfl⟩
theorem PU:Wo X (.type "int") (λxs H Q=>(∃i,xs=[.int i]/\Q (.int i) H)\/∃k,xs=[.bl k]/\Q (.int (if k then 1 else 0)) H):=by
 intro du s Z H xs us Q I r h;rcases h with⟨i,rfl,q⟩ | ⟨k,rfl,q⟩
 ·obtain⟨u,rfl,t,rfl⟩:=Uv r;exact call_int_int ⟨.int i,H,I,⟨_,rfl⟩,q⟩
 ·obtain⟨u,rfl,r1⟩:=Uv r;cases r1;exact call_int_bool ⟨.int (if k then 1 else 0),H,I.tok _,⟨_,rfl⟩,q⟩
def Ad(K:aI)(x:V)(H:Hp)(n:Nat):Prop:=
 match x with
 | .str y=>y.length<=sizeLine/\n=y.length
 | .byt y=>y.size<=sizeLine/\n=y.size
 | .ref p=>(∃xs,SqL K H p xs/\n=xs.length)\/∃xs,SqT K H p xs/\n=xs.length
 | _=>False
theorem ZM:Wo X (.builtin "len") (λxs H Q=>∃x n,xs=[x]/\Ad X.K x H n/\Q (.int n) H):=by
 intro du s Z H xs us Q I r h;obtain⟨x,n,rfl,e,q⟩:=h;obtain⟨u,rfl,rx⟩:=Uv r;have hl:=SS;have hs:sizeLine=16777216:=iH
 cases x with
 | str y=>
  obtain⟨t,rfl⟩:=rx;obtain⟨hy,e'⟩:y.length<=sizeLine/\n=y.length:=e;subst e';exact len_str (by omega) ⟨.int _,H,I.tok _,⟨_,rfl⟩,q⟩
 | byt y=>
  obtain⟨t,rfl⟩:=rx;obtain⟨hy,e'⟩:y.size<=sizeLine/\n=y.size:=e;subst e';exact PySem.W.len_bytes (by omega) ⟨.int _,H,I.tok _,⟨_,rfl⟩,q⟩
 | ref p=>
  cases rx;have e':(∃xs,SqL X.K H p xs/\n=xs.length)\/∃xs,SqT X.K H p xs/\n=xs.length:=e;rcases e' with⟨xs,hx,e'⟩ | ⟨xs,hx,e'⟩
  ·subst e';obtain⟨pA,r',pl,hz⟩:=I.list hx;have hlen:=r'.length;exact Calls.call_len_list pl.isList (by simp only[aV];omega) ⟨.int xs.length,H,I.tok _,⟨_,by simp only[aV];rw[hlen]⟩,q⟩
  ·subst e';obtain⟨pA,r',pl,hz⟩:=I.tuple hx;have hlen:=r'.length;exact len_tuple pl (by simp only[aV];omega) ⟨.int xs.length,H,I.tok _,⟨_,by simp only[aV];rw[hlen]⟩,q⟩
 | _=>exact(show False from e).elim
end
structure ObjM(h:bw)(x dx C:aM)(mA:ah->Option aJ):Prop where
 obj:h.get? x=aA (ko C dx)
 ns:h.Ns1 dx mA
 ne:dx≠x
theorem J4{h:bw}{dx:aM}{mA:ah->Option aJ}(n:h.Ns1 dx mA):∃od,h.get? dx=aA od/\∀name,lR name od=aA (mA name):=by
 obtain⟨o,es,ep,ho,hd,hk,_,hm⟩:=n;refine⟨o,ho,λname=>?_⟩;have e:=hm name;unfold nsFind findBy at e;rw[<-Array.find?_toList] at e;unfold lR;rw[hd]
 dsimp only
 split
 ·rename_i y q;rw[q] at e;exact congrArg aA e
 ·rename_i q;rw[q] at e;have a:es.toList.any (·.refKey)=aC:=by rw[List.any_eq_false];intro y hy;obtain⟨z,t,hkey⟩:=hk y (Array.mem_toList_iff.mp hy);simp[mG.refKey,hkey]
  have a':¬es.toList.any (·.refKey)=aD:=by rw[a];exact aw
  rw[pE a'];exact congrArg aA e
theorem ObjM.look{h:bw}{x dx C:aM}{mA:ah->Option aJ}(I:ObjM h x dx C mA):∃od,lS h x (ko C dx) C (aA od)/\∀name,lR name od=aA (mA name):=
 let⟨od,ho,hl⟩:=J4 I.ns
 ⟨od,⟨I.obj,rfl,rfl,ho⟩,hl⟩
theorem RelO.some_of{v:V}{o:Option aJ}(r:RelO (aA v) o):∃u,o=aA u/\RelV v u:=by
 cases o with
 | none=>exact(show False from r).elim
 | some u=>exact⟨u,rfl,r⟩
section
variable {P:bE} {w:bg} {H H':Hp} {h h':bw} {a C dx:aM} {fs fs':List (ah×V)}
theorem Eh(hok:HOk P w H h)(e:H a=aA (.ins C dx fs)):∃mA,ObjM h a dx C mA/\(∀f,RelO (fs.lookup f) (mA f))/\oh mA (fs.map (·.1))/\fs.length<=1000/\H dx=aA (.own a):=by obtain⟨d,z,ne,ob,mA,n,r,q⟩:=(show ObjOk P w H h a (.ins C dx fs) from hok a _ e);exact⟨mA,⟨ob,n,ne⟩,r,q,z,d⟩
end
structure Cls(K:aI)(C:aM):Prop where
 pg:nH K C kM=aD
 hd:PySem.W.hasDictIn K C=aD
 po:PySem.W.plainOver K C=aD
 sa:dS K (.ref C) "__setattr__" = aA (aA (.builtin "object.__setattr__"))
theorem Cls.get{K:aI}{C:aM}(c:Cls K C)(f:ah):nH K C f=aD:=c.pg
section
variable {X:Cx} {du:List (aM×dX)} {Z:St} {H:Hp} {s:aN} {A:bc} {E:aJ->aN->Prop} {Q:aJ->aN->Prop} {c:aJ} {b:Bool}
inductive TyOf(K:aI)(H:Hp):V->aJ->Prop where
 | non:TyOf K H .non (.type "NoneType")
 | bl (x:Bool):TyOf K H (.bl x) (.type "bool")
 | int (i:Int):TyOf K H (.int i) (.type "int")
 | str (x:ah):TyOf K H (.str x) (.type "str")
 | flt (x:UInt64):TyOf K H (.flt x) (.type "float")
 | lst {a:aM} {xs:List V} (e:H a=aA (.lst xs)):TyOf K H (.ref a) (.type "list")
 | frz {a:aM} {o:dX} {xs:List V} (e:H a=aA (.frz o (.lst xs))):TyOf K H (.ref a) (.type "list")
 | tup {a:aM} {xs:List V} (e:H a=aA (.tup xs)):TyOf K H (.ref a) (.type "tuple")
 | dK {a:aM} {oy:List (YM×V)} (e:H a=aA (.dK oy)):TyOf K H (.ref a) (.type "dict")
 | dT {a:aM} {oy:List (List YM×V)} (e:H a=aA (.dT oy)):TyOf K H (.ref a) (.type "dict")
 | ins {a C dx:aM} {fs:List (ah×V)} (e:H a=aA (.ins C dx fs)) (cl:Cls K C) (ha:dS K (.ref C) "__class__" = aA (aA (.builtin "object.__class__")))
   (hn:PySem.W.specialIn K (.builtin "object.__class__") "__get__" = aA (aA (.builtin "getset_descriptor.__get__"))) (htk:PySem.W.takesIn K (.builtin "object.__class__")=aA aD)
   (hm:jv K C (.type "object")=aA aD):TyOf K H (.ref a) (.ref C)
theorem J5{x:V}{u t:aJ}(I:Inv X du Z H s)(rx:RelV x u)(ty:TyOf X.K H x t)(e:bM X.K t c=aA b)(h:∀tk,Q (.bool b) { s with toks:=tk }) :
  ao (model X.prog X.w) A (call (.builtin "isinstance") [u,c]) Q E s:=by
 cases ty with
 | non=>cases (show u=bj from rx);exact c9 PySem.W.kitx_none I.kIn cE e (λz=>nomatch z) h
 | bl y=>cases (show u=gW y from rx);exact c9 PySem.W.kitx_bool I.kIn cE e (λz=>nomatch z) h
 | int i=>obtain⟨t,q⟩:=(show ∃t,u=dN i t from rx);cases q;exact c9 PySem.W.kitx_int I.kIn cE e (λz=>nomatch z) h
 | str y=>obtain⟨t,q⟩:=(show ∃t,u=kI y t from rx);cases q;exact c9 PySem.W.kitx_str I.kIn cE e (λz=>nomatch z) h
 | flt y=>obtain⟨t,q⟩:=(show ∃t,u=aJ.float y t from rx);cases q;exact c9 PySem.W.kitx_float I.kIn cE e (λz=>nomatch z) h
 | @lst a xs ea=>
  cases (show u=b7 a from rx);obtain⟨_,_,n,_,h1⟩:=(show ObjOk X.prog X.w H s.heap a (.lst xs) from I.hok a _ ea);exact c9 mm I.kIn ⟨_,h1,rfl⟩ e (λz=>nomatch z) h
 | @frz a ob xs ea=>
  cases (show u=b7 a from rx);obtain⟨_,_,_,n,_,h1⟩:=(show ObjOk X.prog X.w H s.heap a (.frz ob (.lst xs)) from I.hok a _ ea);exact c9 mm I.kIn ⟨_,h1,rfl⟩ e (λz=>nomatch z) h
 | @tup a xs ea=>
  cases (show u=b7 a from rx);obtain⟨_,_,_,p⟩:=(show ObjOk X.prog X.w H s.heap a (.tup xs) from I.hok a _ ea);obtain⟨o,h1,h2,_⟩:=p;exact c9 PySem.W.kitx_tuple I.kIn ⟨o,h1,h2⟩ e (λz=>nomatch z) h
 | @dK a oy ea=>
  cases (show u=b7 a from rx);obtain⟨_,_,vs,_,p⟩:=(show ObjOk X.prog X.w H s.heap a (.dK oy) from I.hok a _ ea);obtain⟨o,es,ep,h1,h2,_⟩:=p;exact c9 mn I.kIn ⟨o,h1,h2.1⟩ e (λz=>nomatch z) h
 | @dT a oy ea=>
  cases (show u=b7 a from rx);obtain⟨_,_,xs,_,o,es,ep,h1,h2,_⟩:=(show ObjOk X.prog X.w H s.heap a (.dT oy) from I.hok a _ ea);exact c9 mn I.kIn ⟨o,h1,h2.1⟩ e (λz=>nomatch z) h
 | @ins a C dx fs ea cl ha hn htk hm=>
  cases (show u=b7 a from rx);obtain⟨mA,O,_⟩:=Eh I.hok ea;obtain⟨od,J,_⟩:=O.look;exact c9 (PySem.W.kitx_own (cl.get _) cl.hd ha hn htk hm) I.kIn J e (λz=>nomatch z) h
end
structure Room(k:Nat)(A:bc):Prop where
 hd:A.handled=aB
 dp:A.depth+3*k+5<recursionLimit
 un:A.units+16*k+200<fE
 gd:A.guards=aA []
theorem Room.mono{j k:Nat}{A:bc}(r:Room k A)(h:j<=k):Room j A:=⟨r.hd,by have:=r.dp;omega,by have:=r.un;omega,r.gd⟩
theorem Room.deeper{k:Nat}{A:bc}(r:Room (k+1) A)(env:lP):Room k (A.deeper env):=
 ⟨r.hd,by have:=r.dp;show A.depth+1+3*k+5<_;omega,by have:=r.un;show A.units+3+16*k+200<_;omega,r.gd⟩
theorem Room.depth{k:Nat}{A:bc}(r:Room k A):A.depth<recursionLimit:=by have:=r.dp;omega
theorem Room.units{k:Nat}{A:bc}(r:Room k A):A.units+64<fE:=by have:=r.un;omega
def J6:TA:=λ_ H Q=>Q [] H
def RE(ta:TE)(tr:TA):TA:=λZ H Q=>ta Z H λx H1=>tr Z H1 λxs H2=>Q (x::xs) H2
section
variable {X:Cx} {e:bK} {es:List bK} {te:TE} {t:TA} {pos:fN}
theorem YU:PA X [] J6:=λ_ _ _ _ H Q I h=>iK ⟨[],H,I,.nil,h⟩
theorem ZW(ha:PE X e te)(hr:PA X es t)(hs:aR (e::es) X.env=(aC,eval e X.env)::aR es X.env:=by rfl):PA X (e::es) (RE te t):=by intro pos du s Z H Q I h;rw[hs];show ao _ _ (spliced ((aC,eval e X.env)::cw pos (aR es X.env))) _ _ s;refine iD (Yo (ha du s Z H _ I h) λu s1 ⟨x,H1,I1,r1,q1⟩=>?_);exact Yo (hr pos du s1 Z H1 _ I1 q1) λus s2 ⟨xs,H2,I2,r2,q2⟩=>⟨x::xs,H2,I2,.cons r1 r2,q2⟩
def Zap(t:TA):TE:=λZ H Q=>t Z H λxs H1=>xs.length<=sizeLine/\∀p,H1 p=aB->Q (.ref p) (upd H1 p (.tup xs))
def Ae(t:TA):TE:=λZ H Q=>t Z H λxs H1=>xs.length<=sizeLine/\∀p,H1 p=aB->Q (.ref p) (upd H1 p (.lst xs))
theorem CI{x1}(h:PA X es t):PE X (.Tuple es x1 pos) (Zap t):=by intro du s Z H Q I hq;refine wpAny_Tuple_spliced (Yo (h pos du s Z H _ I hq) λus s1 ⟨xs,H1,I1,r,z,q⟩=>⟨by rw[<-r.length];exact z,?_⟩);have hf:H1 s1.heap.objs.size=aB:=I1.hok.fresh (af _);refine⟨.ref s1.heap.objs.size,upd H1 s1.heap.objs.size (.tup xs),I1.laid (t':=s1.toks) (λb u e=>aO _ e) (af _) ?_,rfl,q _ hf⟩;exact⟨⟨z,λo e=>OG e⟩,us,r,⟨_,aj _ rfl,rfl,_,rfl⟩⟩
theorem Lf(h:PA X es t):PE X (.List es pos) (Ae t):=by intro du s Z H Q I hq;refine wpAny_List_spliced (Yo (h pos du s Z H _ I hq) λus s1 ⟨xs,H1,I1,r,z,q⟩=>⟨by rw[<-r.length];exact z,?_⟩);have hf:H1 s1.heap.objs.size=aB:=I1.hok.fresh (af _);refine⟨.ref s1.heap.objs.size,upd H1 s1.heap.objs.size (.lst xs),I1.laid (t':=s1.toks) (λb u e=>aO _ e) (af _) ?_,rfl,q _ hf⟩;exact⟨z,us,0,r,aj _ rfl⟩
end
abbrev Sp:=List V->Hp->VK->XK->Prop
abbrev Ei:=List lP->Hp->aN->XK->aJ->aN->Prop
structure Env0(P:bE)(w:bg)(K:aI)(mg:ah->Option aJ)(base:bw)(A:bc)(outer:List lP)(s:aN)(H:Hp):Prop where
 frames:A.frames=aA outer
 mod:Mod K mg base
 bs:∀b o,base.get? b=aA o->s.heap.get? b=aA o/\H b=aB
 bsz:base.objs.size<=s.heap.objs.size
 funs:s.heap.FunFrames base outer
 frf:∀b∈OH outer,H b=aB
 tab:TabsH K mg base H
 hok:HOk P w H s.heap
 bare:jl s.gens
def CE(outer:List lP)(P:bE)(w:bg)(H:Hp)(s:aN)(Q:VK)(u:aJ)(s':aN):Prop:=
 ∃v H',s'.os=s.os/\jl s'.gens/\Un (OH outer) [] H H' s.heap s'.heap/\HOk P w H' s'.heap/\RelV v u/\Q v H'
def CR(CX:Ei)(outer:List lP)(P:bE)(w:bg)(H:Hp)(s:aN)(Q:VK)(E:XK)(r:om)(s':aN):Prop:=
 match r with
 | .ok (.ret u)=>CE outer P w H s Q u s'
 | .ok _=>False
 | .error e=>CX outer H s E e s'
structure SV(P:bE)(w:bg)(K:aI)(mg:ah->Option aJ)(base:bw)(CX:Ei)(k:Nat)(f:aM)(fd:fX)(ps:List ah)(sp:Sp):Prop where
 len:∀vs H Q E,sp vs H Q E->vs.length=ps.length
 run:∀(A:bc)(outer:List lP)(s:aN)(H:Hp)(args:Args)(us:List aJ)(vs:List V)(Q:VK)(E:XK),Room k A->Env0 P w K mg base A outer s H->mq s fd args (ps.zip us)->Vals vs us->sp vs H Q E->
  gz (model P w) A (.call (.ref f) args) (CR CX outer P w H s Q E) s
section
variable {X:Cx} {du:List (aM×dX)} {Z:St} {H:Hp} {s s':aN}
theorem Inv.env0(I:Inv X du Z H s):Env0 X.prog X.w X.K X.mg X.base X.A X.stack s H:=
 ⟨I.ok.frames,I.ok.mod,I.bs,cu I.ok.bsz I.sz,I.stack,I.stkFree,I.ok.tab.un I.base,I.hok,I.bare⟩
theorem Inv.after{Q:VK}{u:aJ}(I:Inv X du Z H s)(h:CE X.stack X.prog X.w H s Q u s'):EP X du Z Q u s':=by obtain⟨v,H',os,bare,un,hok,r,q⟩:=h;obtain⟨hh,g,d,t,os'⟩:=s';obtain rfl:os'=s.os:=os;exact⟨v,H',I.call (h':=hh) (g':=g) (d':=d) (t':=t) (ch:=[]) un hok bare (λb z=>absurd z (by simp)),r,q⟩
end
def DT(sp:Sp)(dvs:List V)(E:XK)(t:TA):TE:=λZ H Q=>t Z H λvs H1=>sp (vs++dvs) H1 Q E
def Binds(K:aI)(fd:fX)(ps:List ah)(ds:List aJ):Prop:=
 ∀(s:aN)(us:List aJ),K.In s.heap->(us++ds).length=ps.length->mq s fd ⟨us,[]⟩ (ps.zip (us++ds))
theorem Binds.all{K:aI}{fd:fX}{ps:List ah}(h:∀us:List aJ,us.length=ps.length->kN fd ⟨us,[]⟩=pure (ps.zip us)):Binds K fd ps []:=λs us _ hl=>by rw[dU] at hl ⊢;exact .of_eq (h us hl)
def Lg(CX:Ei)(X:Cx)(E:XK):Prop:=∀(du:List (aM×dX))(Z:St)(H:Hp)(s:aN)(e:aJ)(s':aN),Inv X du Z H s->CX X.stack H s E e s'->X.xe e s'
section
variable {X:Cx} {CX:Ei} {k:Nat} {f C:aM} {fd:fX} {ps:List ah} {sp:Sp} {dvs:List V} {ds:List aJ} {E:XK} {x m:ah} {p pos apos:fN} {e o:bK} {es:List bK} {ta:TE} {t:TA}
theorem CJ{du:List (aM×dX)}{Z:St}{H:Hp}{s:aN}{Q:VK}{us:List aJ}{vs:List V}(F:SV X.prog X.w X.K X.mg X.base CX k f fd ps sp)(hr:Room k X.A)(hb:Binds X.K fd ps ds)(hd:Vals dvs ds)(hx:Lg CX X E)
  (I:Inv X du Z H s) (r:Vals vs us) (h:sp (vs++dvs) H Q E):ao (model X.prog X.w) X.A (call (.ref f) us) (EP X du Z Q) X.xe s:=by
 have r2:Vals (vs++dvs) (us++ds):=r.append hd;have hl:(us++ds).length=ps.length:=by rw[<-r2.length];exact F.len _ _ _ _ h
 refine k6 (gE (F.run X.A X.stack s H ⟨us,[]⟩ (us++ds) (vs++dvs) Q E hr I.env0 (hb s us I.kIn hl) r2 h) λr s' hq=>?_)
 cases r with
 | error e=>exact hx du Z H s e s' I hq
 | ok fl=>
  cases fl with
  | ret u=>exact I.after hq
  | next=>exact cq hq
  | brk=>exact cq hq
  | cont=>exact cq hq
theorem Ej(F:SV X.prog X.w X.K X.mg X.base CX k f fd ps sp)(hr:Room k X.A)(hg:Gl X x)(hm:X.mg x=aA (.ref f))(hk:gX X.K (.ref f)=aD)(hb:Binds X.K fd ps ds)(hd:Vals dvs ds)(hx:Lg CX X E)
  (ha:PA X (e::es) t) (hdb:(x==("__debug__" : ah))=aC:=by decide) (he:aR (e::es) X.env=(aC,eval e X.env)::aR es X.env:=by rfl) (hpl:(cw pos (aR es X.env)).any (·.1)=aC:=by rfl) :
  PE X (.Call (.Name x p) (e::es) [] pos) (DT sp dvs E t):=by
 intro du s Z H Q I h;refine cZ (UY I hg hm ?_ hdb);refine j8 (h₀:=X.base) I.ok.mod.kin hk (Yo (ha pos du s Z H _ I h) λus s1 ⟨vs,H1,I1,r,q⟩=>⟨I1.kIn,?_⟩) he hpl;exact CJ F hr hb hd hx I1 r q
end
def PK(X:Cx)(kws:List mB)(t:TA):Prop:=
 ∀(pos:fN)(du:List (aM×dX))(s:aN)(Z:St)(H:Hp)(Q:List V->Hp->Prop),Inv X du Z H s->t Z H Q->ao (model X.prog X.w) X.A (evalAll ((oA pos (lU kws X.env)).map (·.2))) (AP X du Z Q) X.xe s
structure Zz(N P:List ah)(sc:gk):Prop where
 kind:sc.kind = .function
 co:sc.isCoroutine=aC
 gen:sc.isGenerator=aC
 nd:N.Nodup
 pre:N.take P.length=P
 par:∀x∈P,sc.names.lookup x=aA .local\/sc.names.lookup x=aA .cell
 nofree:∀y∈sc.names,y.2≠.free
theorem PX{kindOf:ah->Option fY}{x:ah}:∀{binds:List (ah×aJ)}{m:ah->Option aJ},(∀v,(x,v)∉binds)->oB kindOf binds m x=m x
 | [],_,_=>rfl
 | (n,v)::r,m,h=>by
  unfold oB;rw[PX λw hw=>h w (aT _ hw)];split
  ·have:x≠n:=by rintro rfl;exact h v ag
   simp[this]
  ·rfl
theorem PY{kindOf:ah->Option fY}{x:ah}:∀{binds:List (ah×aJ)}{m:ah->Option aJ},(∀v,(x,v)∉binds)->oE kindOf binds m x=m x
 | [],_,_=>rfl
 | (n,v)::r,m,h=>by
  unfold oE;rw[PY λw hw=>h w (aT _ hw)];split
  ·rfl
  ·have:x≠n:=by rintro rfl;exact h v ag
   simp[this]
theorem PZ{kindOf:ah->Option fY}{x:ah}{v:aJ}:∀{P:List ah}{vs:List aJ}{i:Nat}{m:ah->Option aJ},P.Nodup->P[i]?=aA x->vs[i]?=aA v->kindOf x=aA .local->
  oB kindOf (P.zip vs) m x=aA v
 | [],_,_,_,_,h,_,_=>by simp at h
 | _::_,[],_,_,_,_,h,_=>by simp at h
 | p::P,w::vs,0,m,nd,h1,h2,hk=>by simp at h1 h2;subst h1;subst h2;show oB kindOf ((p,w)::P.zip vs) m p=_;unfold oB;rw[PX λv hv=>(az.mp nd).1 (hU hv).1,pC hk];simp
 | p::P,w::vs,i+1,m,nd,h1,h2,hk=>by show oB kindOf ((p,w)::P.zip vs) m x=_;unfold oB;exact PZ (i:=i) (az.mp nd).2 (by simpa using h1) (by simpa using h2) hk
theorem P0{kindOf:ah->Option fY}{x:ah}{v:aJ}:∀{P:List ah}{vs:List aJ}{i:Nat}{m:ah->Option aJ},P.Nodup->P[i]?=aA x->vs[i]?=aA v->kindOf x≠aA .local->
  oE kindOf (P.zip vs) m x=aA v
 | [],_,_,_,_,h,_,_=>by simp at h
 | _::_,[],_,_,_,_,h,_=>by simp at h
 | p::P,w::vs,0,m,nd,h1,h2,hk=>by simp at h1 h2;subst h1;subst h2;show oE kindOf ((p,w)::P.zip vs) m p=_;unfold oE;rw[PY λv hv=>(az.mp nd).1 (hU hv).1,pE hk];simp
 | p::P,w::vs,i+1,m,nd,h1,h2,hk=>by show oE kindOf ((p,w)::P.zip vs) m x=_;unfold oE;exact P0 (i:=i) (az.mp nd).2 (by simpa using h1) (by simpa using h2) hk
def start(N:List ah)(vs:List V):St:=vs.map aA++aK (N.length-vs.length) aB
def Qe(CX:Ei)(P:bE)(w:bg)(K:aI)(mg:ah->Option aJ)(base:bw)(N:List ah)(qual:ah)(scope:gk)(f:aM)(cd:aJ)(A:bc)(outer:List lP)(s:aN)(H:Hp)(E:XK):Cx where
 prog:=P
 w:=w
 K:=K
 mg:=mg
 base:=base
 A:=A.deeper (jL qual scope s.heap.objs.size f cd)
 N:=N
 s₀:=s
 H₀:=H
 env:=jL qual scope s.heap.objs.size f cd
 outer:=outer
 stack:=jL qual scope s.heap.objs.size f cd::outer
 ex:=[]
 calm:=aD
 fn:=λ_=>aD
 pn:=[]
 xe:=λe s'=>ao (model P w) (A.deeper (jL qual scope s.heap.objs.size f cd)) (leaving (jL qual scope s.heap.objs.size f cd) e) (λ_ s''=>CX outer H s E e s'') (λe' s''=>CX outer H s E e' s'') s'
theorem NL{sc:gk}{n:Nat}{x:ah}(h:sc.names.lookup x=aA .cell):∃c,(cellsFrom n sc.names []).lookup x=aA c:=by have q:=k8 sc.names n [] (.inl h);exact cj.mp q
theorem KU{a b c:ah}(h:a++c=b++c):a=b:=by
 obtain⟨a⟩:=a;obtain⟨b⟩:=b;have h2:a++c.cps=b++c.cps:=congrArg ah.cps h;have h3:a.toList++c.cps.toList=b.toList++c.cps.toList:=by rw[<-eJ,<-eJ,h2]
 have h4:a=b:=Array.toList_inj.mp (List.append_cancel_right h3);rw[h4]
theorem J7{CX:Ei}{P:bE}{w:bg}{K:aI}{mg:ah->Option aJ}{base:bw}{N ps:List ah}{qual:ah}{scope:gk}{f:aM}{cd:aJ}{A:bc}{outer:List lP}{s s1:aN}{H:Hp}{E:XK}{us:List aJ}{vs:List V}
  (hcd:dY K cd qual=aD) (S:Zz N ps scope) (hd:A.handled=aB) (e0:Env0 P w K mg base A outer s H) (hl:vs.length=ps.length) (r:Vals vs us)
  (x:InCallC s s.heap.objs.size (oB (jL qual scope s.heap.objs.size f cd).kindOf (ps.zip us) λ_=>aB) (cellsFrom (s.heap.objs.size+1) scope.names []) (oE (jL qual scope s.heap.objs.size f cd).kindOf (ps.zip us) λ_=>aB) s1) :
  Inv (Qe CX P w K mg base N qual scope f cd A outer s H E) [] (start N vs) H s1:=by
 have hpl:ps.length<=N.length:=by have:=congrArg dj S.pre;rw[bp] at this;omega
 obtain⟨h1,tk,rfl,hk⟩:=x.done;have noA:∀b:aM,b∉(Qe CX P w K mg base N qual scope f cd A outer s H E).ex:=λb z=>absurd (show b∈([]:List aM) from z) (by simp)
 refine⟨⟨e0.mod,S.kind,rfl,rfl,af _,λy z c h1 h2=>?_,λy hy=>?_,λy c _ h=>?_,λ_=>hd,lV e0.frames,.inr ⟨rfl,rfl⟩,λb z=>absurd z (noA b),e0.bs,e0.bsz,λb _ _=>noA b,λb z=>absurd z (noA b),e0.funs,e0.frf,e0.tab,λq _ hq _=>by rw[<-KU hq];exact hcd⟩,
  rfl,e0.bare,Un.kept hk,⟨_,x.toInCall.ns,λi y v h1 h2 h3=>?_⟩,λy c h=>⟨_,x.cell y c h⟩,e0.hok.fresh (af _),λy c h=>?_,λp hp=>absurd (show p∈([]:List (aM×dX)) from hp) (by simp),e0.hok.kept hk,?_⟩
 ·exact name_of_addr x.apart (dJ h1) (dJ h2)
 ·have hy:scope.names.lookup y=aA .cell\/scope.names.lookup y=aA .free:=hy;rcases hy with hy | hy
  ·exact NL hy
  ·exact absurd rfl (S.nofree _ (dJ hy))
 ·exact dH (x.above y c (dJ h))
 ·have hi:i<vs.length:=by
   unfold start at h2;by_cases hi:i<vs.length
   ·exact hi
   ·rw[bX (by simpa using hi)] at h2;rw[cI] at h2;split at h2<;>cases h2
  have ha:vs[i]?=aA v:=by
   unfold start at h2;rw[bP (by simpa using hi),aU] at h2
   cases e:vs[i]? with
   | none=>rw[e] at h2;cases h2
   | some a=>rw[e] at h2;cases h2;rfl
  obtain⟨u,hu,rv⟩:=r.get ha;have hp:ps[i]?=aA y:=by rw[<-S.pre,List.getElem?_take_of_lt (by omega)];exact h1
  have ndP:ps.Nodup:=by rw[<-S.pre];exact S.nd.sublist (gO _ _)
  refine⟨u,rv,?_⟩;rcases S.par y (bN hp) with k | k
  ·exact .inl ⟨k,PZ ndP hp hu k⟩
  ·obtain⟨c,e⟩:=NL (n:=s.heap.objs.size+1) k;refine .inr ⟨.inl k,c,e,?_⟩;have q:=x.cell y c e;rw[P0 ndP hp hu (by show scope.names.lookup y≠_;rw[k];decide)] at q;exact q
 ·exact e0.hok.fresh (dH (x.above y c (dJ h)))
 ·unfold start;show _=N.length;rw[aY,aH,cN];omega
theorem DU{CX:Ei}{P:bE}{w:bg}{K:aI}{mg:ah->Option aJ}{base:bw}{k:Nat}{f:aM}{name qual:ah}{params:mC}{body:List cO}{scope:gk}{dV kV doc pm cdv ct oc:aJ}{an od:Option aM}
  {osl:Array (Option aJ)} {N ps:List ah} {sp:Sp} (lk:K.lookup f=aA ⟨oc,od,.func (dw name qual params body scope dV kV doc pm an cdv ct),osl⟩) (hcd:dY K cdv qual=aD) (S:Zz N ps scope)
  (len:∀vs H Q E,sp vs H Q E->vs.length=ps.length)
  (hbody:∀(A:bc)(outer:List lP)(s:aN)(H:Hp)(vs:List V)(Q:VK)(E:XK),Room k (A.deeper (jL qual scope s.heap.objs.size f cdv))->sp vs H Q E->
   ∃t,PSs (Qe CX P w K mg base N qual scope f cdv A outer s H E) body t/\t { nx:=λ_ H'=>Q .non H',rt:=Q } (start N vs) H) :
  SV P w K mg base CX (k+1) f (dw name qual params body scope dV kV doc pm an cdv ct) ps sp:=by
 refine⟨len,λA outer s H args us vs Q E hr e0 hb r hsp=>?_⟩;have hl:=len _ _ _ _ hsp;have KX:K.In s.heap:=e0.mod.kin.keeps λb o e=>(e0.bs b o e).1;have lim:s.heap.NoLimit:=e0.mod.nolimit.keeps λb o e=>(e0.bs b o e).1
 have hkind:∀y∈ps.zip us,scope.names.lookup y.1=aA .local\/(scope.names.lookup y.1=aA .cell/\((cellsFrom (s.heap.objs.size+1) scope.names []).lookup y.1).isSome=aD):=λ⟨n,v⟩ hy=>by
  rcases S.par n (hU hy).1 with q | q
  ·exact .inl q
  ·exact .inr ⟨q,k8 _ _ _ (.inl q)⟩
 refine codeAny_call_function hr.depth (KX _ _ lk) rfl S.co S.gen rfl (PySem.W.codeRec_of KX hcd) (hb _ _ _ _ ?_);refine wpAny_newFunctionEnv_cells S.kind hkind λenv he s1 x=>?_;subst he;refine⟨lim.keeps x.toInCall.keep,codeAny_func ?_⟩;obtain⟨t,ht,hq⟩:=hbody A outer s H vs Q E (hr.deeper _) hsp;have I:Inv (Qe CX P w K mg base N qual scope f cdv A outer s H E) [] (start N vs) H s1:=J7 hcd S hr.hd e0 hl r x;refine cH (ht [] s1 (start N vs) H _ I hq) (λfl s' hs=>?_) λe s' hs=>hs
 have fin:∀{Z':St}{H':Hp}{v:V}{u:aJ},Inv (Qe CX P w K mg base N qual scope f cdv A outer s H E) [] Z' H' s'->RelV v u->Q v H'->CE outer P w H s Q u s':=
  λ{Z' H' v u} J rv q=>⟨v,H',J.os,J.bare,J.base,J.hok,rv,q⟩
 cases fl with
 | ret u=>
  obtain⟨v,Z',H',J,rv,q⟩:=hs;exact fin J rv q
 | next=>
  obtain⟨Z',H',J,q⟩:=hs;exact fin (v:=V.non) (u:=bj) J rfl q
 | brk=>
  obtain⟨_,_,_,q⟩:=hs;exact cq q
 | cont=>
  obtain⟨_,_,_,q⟩:=hs;exact cq q
section
variable {X:Cx} {x:ah} {p pos:fN} {e:bK} {es:List bK} {t:TA} {id T:String} {r:List V->Hp->VK->Prop}
def A7(r:List V->Hp->VK->Prop)(t:TA):TE:=λZ H Q=>t Z H λvs H1=>r vs H1 Q
theorem Qf(hc:Wo X (.builtin id) r)(hg:Gl X x)(hm:X.mg x=aB)(hv:dG x=aA (.builtin id))(ha:PA X (e::es) t)(hn:x≠"__name__":=by decide)(hdb:(x==("__debug__" : ah))=aC:=by decide)
  (he:aR (e::es) X.env=(aC,eval e X.env)::aR es X.env:=by rfl) (hpl:(cw pos (aR es X.env)).any (·.1)=aC:=by rfl):PE X (.Call (.Name x p) (e::es) [] pos) (A7 r t):=by
 intro du s Z H Q I h;refine cZ (XX I hg hm hv ?_ hn hdb);exact fZ (Yo (ha pos du s Z H _ I h) λus s1 ⟨vs,H1,I1,r1,q1⟩=>hc du s1 Z H1 vs us Q I1 r1 q1) he hpl
theorem P1(hc:Wo X (.type T) r)(hg:Gl X x)(hm:X.mg x=aB)(hv:dG x=aA (.type T))(ha:PA X (e::es) t)(hn:x≠"__name__":=by decide)(hdb:(x==("__debug__" : ah))=aC:=by decide)
  (he:aR (e::es) X.env=(aC,eval e X.env)::aR es X.env:=by rfl) (hpl:(cw pos (aR es X.env)).any (·.1)=aC:=by rfl):PE X (.Call (.Name x p) (e::es) [] pos) (A7 r t):=by
 intro du s Z H Q I h;refine cZ (XX I hg hm hv ?_ hn hdb);exact cF (Yo (ha pos du s Z H _ I h) λus s1 ⟨vs,H1,I1,r1,q1⟩=>hc du s1 Z H1 vs us Q I1 r1 q1) he hpl
end
end L2
namespace HT
open PySem PyProof.Rows
section
variable {prog:bE} {w:bg} {A:bc} {E:aJ->aN->Prop} {s:aN}
theorem cat_tup{t b:aM}{vs ws:List aJ}{Q:aJ->aN->Prop}(ht:IsTup s.heap t vs.toArray)(hb:IsTup s.heap b ws.toArray)(hv:vs≠[])
  (h1:ws=[]->Q (.ref t) s) (h2:ws≠[]->Q (.ref s.heap.objs.size) { s with heap:=s.heap.push { cls:=.type "tuple",data:=.seq (vs++ws).toArray } })
  (hsz:vs.length+ws.length<=sizeLine):ao (model prog w) A (fD .Add (.ref t) (.ref b)) Q E s:=by
 obtain⟨⟨cls,dd,data,sl⟩,ho,hc,n,hd⟩:=id ht;obtain⟨⟨cls2,dd2,data2,sl2⟩,ho2,hc2,n2,hd2⟩:=id hb;simp only at hc hd hc2 hd2;subst hc hd hc2 hd2;have e:vs.toArray++ws.toArray=(vs++ws).toArray:=by simp
 by_cases hw:ws=[]
 ·exact mw ⟨_,ho,rfl⟩ ⟨_,ho2,rfl⟩ kO mP iM iI (gu _ _)
   (tuple_addW1 t b vs.toArray ws.toArray n n2 dd dd2 sl sl2 (by simpa using hv) (by simp[hw])) ⟨ho,ho2,h1 hw⟩
 ·refine mw ⟨_,ho,rfl⟩ ⟨_,ho2,rfl⟩ kO mP iM iI (gu _ _)
   (tuple_addW2 t b vs.toArray ws.toArray n n2 dd dd2 sl sl2 (by simpa using hv) (by simpa using hw) (by rw[aV,aV];exact hsz)) ⟨ho,ho2,?_⟩
  rw[e];exact h2 hw
def sIx(n d:Nat):Option Int->Nat
 | none=>d
 | some v=>if v<0 then(v+(n:Int)).toNat else min v.toNat n
theorem sIx_none(n d:Nat):sIx n d aB=d:=rfl
theorem sIx_nat(n d k:Nat):sIx n d (aA (k:Int))=min k n:=by show(if(k:Int)<0 then((k:Int)+(n:Int)).toNat else min (k:Int).toNat n)=min k n;rw[pE (by omega),cL]
theorem CK(n d:Nat)(hd:d<=n)(o:Option Int):sIx n d o<=n:=by
 cases o with
 | none=>exact hd
 | some v=>
  show(if v<0 then(v+(n:Int)).toNat else min v.toNat n)<=n;by_cases hv:v<0
  ·rw[pC hv];omega
  ·rw[pE hv];exact Nat.min_le_right _ _
theorem KW(v:Int)(n d:Nat):(if v<0 then max (v+(n:Int)) 0 else min v (n:Int))=((sIx n d (aA v):Nat):Int):=by
 show(if v<0 then max (v+(n:Int)) 0 else min v (n:Int))=(((if v<0 then(v+(n:Int)).toNat else min v.toNat n):Nat):Int);by_cases hv:v<0
 ·simp only[pC hv];omega
 ·simp only[pE hv];omega
theorem Lh(lo hi:Option Int)(n:Nat):gn lo hi 1 (n:Int)=(((sIx n 0 lo:Nat):Int),((sIx n n hi:Nat):Int)):=by
 have h1:¬((1:Int)<0):=by omega
 unfold gn;simp only[h1,if_false];refine Prod.ext ?_ ?_
 ·cases lo with
  | none=>rfl
  | some v=>exact KW v n 0
 ·cases hi with
  | none=>rfl
  | some v=>exact KW v n n
theorem Li(i j:Nat):eZ (i:Int) (j:Int) 1=j-i:=by
 unfold eZ;have h1:(1:Int)>0:=by omega
 simp only[h1,if_true,Int.ediv_one];split<;>omega
theorem Qg{v:aJ}{o:Option Int}{Q:Option Int->aN->Prop}(p:mY v o)(h:Q o s):ao (model prog w) A (ij.Slice.slicePartIndex v) Q E s:=by
 cases p with
 | none=>exact slicePart_none h
 | int i t=>exact slicePart_int h
theorem SW{sl:aM}{vl vu:aJ}{lo hi:Option Int}{n:Nat}{Q:Int×Int×Nat->aN->Prop}(hs:s.heap.IsSliceOf sl vl vu .none)(pl:mY vl lo)(pu:mY vu hi)
  (h:Q (((sIx n 0 lo:Nat):Int),1,sIx n n hi-sIx n 0 lo) s):ao (model prog w) A (j9 (.ref sl) (pure (n:Int))) Q E s:=by
 obtain⟨os,hos,hcs,hds⟩:=id hs;unfold j9 ij.Slice.sliceFields;refine aF (aF (eQ hos hds (x:=vl) rfl (aF (eQ hos hds (x:=vu) rfl (aF (eQ hos hds (x:=.none) rfl (aP ?_)))))));refine aF (slicePart_none ?_);show ao _ _ (if((1:Int)==0)=aD then _ else _) _ _ s;rw[pE (by decide)];refine aF (Qg pl (aF (Qg pu (aF (aP ?_)))));show ao _ _ (match gn lo hi 1 (n:Int) with | (lo,hi)=>pure (lo,(1:Int),eZ lo hi 1)) _ _ s;rw[Lh lo hi n];show ao _ _ (pure (((sIx n 0 lo:Nat):Int),(1:Int),eZ ((sIx n 0 lo:Nat):Int) ((sIx n n hi:Nat):Int) 1)) _ _ s;rw[Li];exact aP h
theorem Ge(xs:Array aJ)(i k:Nat):((aS k).filterMap λ(m:Nat)=>xs[((i:Int)+(m:Int)*1).toNat]?).toArray=((xs.toList.drop i).take k).toArray:=by
 have e:(λ(m:Nat)=>xs[((i:Int)+(m:Int)*1).toNat]?)=λm=>xs[i+m]?:=by
  funext m;have:((i:Int)+(m:Int)*1).toNat=i+m:=by omega
  rw[this]
 rw[e];have:=pick_run xs i k;rw[List.filterMap_map] at this;have e2:((λx=>xs[x]?) ∘ λx=>i+x)=λm=>xs[i+m]?:=rfl;rw[e2] at this;rw[this]
theorem getItem_tuple_cut{t sl:aM}{items:Array aJ}{vl vu:aJ}{lo hi:Option Int}{Q:aJ->aN->Prop}(ht:IsTup s.heap t items)(hs:s.heap.IsSliceOf sl vl vu .none)(pl:mY vl lo)(pu:mY vu hi)
  (hw:¬(sIx items.size 0 lo=0/\sIx items.size items.size hi=items.size))
  (h:Q (.ref s.heap.objs.size) { s with heap:=s.heap.push { cls:=.type "tuple",data:=.seq ((items.toList.drop (sIx items.size 0 lo)).take (sIx items.size items.size hi-sIx items.size 0 lo)).toArray } })
  (hsz:items.size<=sizeLine):ao (model prog w) A (k9 (.ref t) (.ref sl)) Q E s:=by
 have htake:sizeOk (.seq ((items.toList.drop (sIx items.size 0 lo)).take (sIx items.size items.size hi-sIx items.size 0 lo)).toArray):=by show((items.toList.drop (sIx items.size 0 lo)).take (sIx items.size items.size hi-sIx items.size 0 lo)).toArray.size<=sizeLine;rw[aV,bp,bq,cJ];omega
 have hj:sIx items.size items.size hi<=items.size:=CK _ _ (af _) hi;obtain⟨os,hos,hcs,hds⟩:=id hs;have hTs:s.TypeIs (.ref sl) "slice":=⟨os,hos,hcs⟩;unfold k9
 try with_reducible refine dR ?_
 first | refine aF (aP ?_) | skip
 refine aF (wpAny_sequenceKey ht.typeIs (by decide) ?_)
 refine aF (cz (name:=cP "__getitem__") ht.typeIs fU
  (cS fU ht.typeIs entry_tuple_getitem ?_ (args_tuple_getitem _ _)))
 show ao _ _ (ij.Tuple.tupleItemsOf (.ref t) >>= _) _ _ s;refine aF (tupleItemsOf_ ht ?_);refine aF (wpAny_typeOf hTs ?_);rw[pC (by decide)];refine aF (SW hs pl pu ?_);have hno:¬((((sIx items.size 0 lo:Nat):Int)==0&&(1:Int)==1&&(sIx items.size items.size hi-sIx items.size 0 lo)==items.size)=aD):=by intro q;rw[ak,ak] at q;have q1:((sIx items.size 0 lo:Nat):Int)=0:=eq_of_beq q.1.1;have q2:sIx items.size items.size hi-sIx items.size 0 lo=items.size:=eq_of_beq q.2;exact hw ⟨by omega,by omega⟩
 show ao _ _ (if(((sIx items.size 0 lo:Nat):Int)==0&&(1:Int)==1&&(sIx items.size items.size hi-sIx items.size 0 lo)==items.size)=aD then _ else _) _ _ s;rw[pE hno,Ge]
 first
  | exact aF (m:=fO _) (bh (aP ⟨_,rfl,aP h⟩) htake)
  | exact aF (m:=fO _) (bh (aF (aP (aP ⟨_,rfl,aP h⟩))) htake)
  | exact aF (aF (m:=fO _) (bh (aP (aP ⟨_,rfl,aP h⟩)) htake))
  | exact aF (aF (m:=fO _) (bh (aP ⟨_,rfl,aP h⟩) htake))
end
end HT
namespace L2
open PySem PySem.Spec PyProof.Rows
abbrev TO:=St->Hp->(Option Int->Hp->Prop)->Prop
def PO(X:Cx)(e:Option bK)(t:TO):Prop:=
 ∀(du:List (aM×dX))(s:aN)(Z:St)(H:Hp)(Q:Option Int->Hp->Prop),Inv X du Z H s->t Z H Q->
  ao (model X.prog X.w) X.A (evalPart e X.env) (λu s'=>∃o H',Inv X du Z H' s'/\mY u o/\Q o H') X.xe s
def Ek:TO:=λ_ H Q=>Q aB H
def Af(t:TE):TO:=λZ H Q=>t Z H λx H1=>∃i,x = .int i/\Q (aA i) H1
theorem TJ{ns:List Int}:∀{us:List aJ},Vals (ns.map V.int) us->ig us ns:=by
 induction ns with
 | nil=>intro us r;rw[da] at r;cases r;exact .nil
 | cons n ns ih=>
  intro us r;rw[aZ] at r
  cases r with
  | cons r1 r2=>
   obtain⟨t,e⟩:=r1;subst e;exact .cons n t (ih r2)
section
variable {X:Cx} {e:bK} {te:TE} {lo hi:Option bK} {tl th:TO} {pos p2:fN}
theorem El:PO X aB Ek:=by intro du s Z H Q I h;rw[evalPart_none];exact aP ⟨aB,H,I,.none,h⟩
theorem Em(h:PE X e te):PO X (aA e) (Af te):=by intro du s Z H Q I hw;rw[evalPart_some];refine Yo (h du s Z H _ I hw) λu s1 ⟨x,H1,I1,r1,q1⟩=>?_;obtain⟨i,rfl,q⟩:=q1;obtain⟨t,rfl⟩:=r1;exact⟨aA i,H1,I1,.int i t,q⟩
def SlR(X:Cx)(r:V->Option Int->Option Int->Hp->VK->Prop):Prop:=
 ∀(du:List (aM×dX))(s:aN)(Z:St)(H:Hp)(x:V)(v vl vu:aJ)(lo hi:Option Int)(sl:aM)(Q:VK),Inv X du Z H s->RelV x v->s.heap.IsSliceOf sl vl vu .none->mY vl lo->mY vu hi->r x lo hi H Q->
  ∃T id,typeLookup (.type T) "__getitem__" = pure (aA (.builtin id))/\s.TypeIs v T/\ao (model X.prog X.w) X.A (k9 v (.ref sl)) (EP X du Z Q) X.xe s
def tSl(r:V->Option Int->Option Int->Hp->VK->Prop)(te:TE)(tl th:TO):TE:=λZ H Q=>te Z H λx H1=>tl Z H1 λl H2=>th Z H2 λu H3=>r x l u H3 Q
theorem NM{r:V->Option Int->Option Int->Hp->VK->Prop}(hr:SlR X r)(he:PE X e te)(hl:PO X lo tl)(hu:PO X hi th):PE X (.Subscript e (.Slice lo hi aB p2) pos) (tSl r te tl th):=by intro du s Z H Q I h;refine oF (Yo (he du s Z H _ I h) λv s1 ⟨x,H1,I1,r1,q1⟩=>?_);refine wpAny_Slice (Yo (hl du s1 Z H1 _ I1 q1) λvl s2 ⟨l,H2,I2,pl,q2⟩=>Yo (hu du s2 Z H2 _ I2 q2) λvu s3 ⟨u,H3,I3,pu,q3⟩=>?_);rw[evalPart_none];refine aP ?_;have I4:Inv X du Z H3 { s3 with heap:=s3.heap.push { cls:=.type "slice",data:=.fields #[vl,vu,.none] } }:=I3.kept (t':=s3.toks) λb ob q=>aO _ q;obtain⟨T,id,hT,ht,hg⟩:=hr du { s3 with heap:=s3.heap.push { cls:=.type "slice",data:=.fields #[vl,vu,.none] } } Z H3 x v vl vu l u s3.heap.objs.size Q I4 r1 (bw.IsSliceOf.new ..) pl pu q3;show ao (model X.prog X.w) X.A (mQ e (.Slice lo hi aB p2) v (.ref s3.heap.objs.size)) (EP X du Z Q) X.xe { s3 with heap:=s3.heap.push { cls:=.type "slice",data:=.fields #[vl,vu,.none] } };exact tail_any (ops:=[.ref s3.heap.objs.size,v]) ht hT hg (by with_unfolding_all rfl)
def NN(xs:List V)(lo hi:Option Int):List V:=(xs.drop (HT.sIx xs.length 0 lo)).take (HT.sIx xs.length xs.length hi-HT.sIx xs.length 0 lo)
theorem RF(xs:List V)(lo hi:Option Int):(NN xs lo hi).length<=xs.length:=by unfold NN;rw[bp,bq];omega
def Zar(K:aI):V->Option Int->Option Int->Hp->VK->Prop:=λx lo hi H Q=>∃a xs,x = .ref a/\SqT K H a xs/\
 ¬(HT.sIx xs.length 0 lo=0/\HT.sIx xs.length xs.length hi=xs.length)/\∀p,H p=aB->Q (.ref p) (upd H p (.tup (NN xs lo hi)))
theorem CM:SlR X (Zar X.K):=by
 intro du s Z H x v vl vu lo hi sl Q I rx hs pl pu h;obtain⟨a,xs,rfl,hx,hw,q⟩:=h;cases rx;obtain⟨pA,r,ht,hz⟩:=I.tuple hx;have hlen:pA.toArray.size=xs.length:=by rw[aV];exact r.length.symm
 refine⟨"tuple",_,fU.lookup,ht.typeIs,?_⟩;refine HT.getItem_tuple_cut ht hs pl pu (by rw[hlen];exact hw) ?_ (by rw[hlen];exact hz);rw[hlen];refine⟨.ref s.heap.objs.size,_,I.laid (t':=s.toks) (o:=.tup (NN xs lo hi)) (λb ob q=>aO _ q) (af _) ?_,rfl,q _ (I.hok.fresh (af _))⟩;exact⟨⟨cu (RF xs lo hi) hz,λo e=>OG e⟩,_,(r.drop (HT.sIx xs.length 0 lo)).take (HT.sIx xs.length xs.length hi-HT.sIx xs.length 0 lo),o8 _ _⟩
def Ag(K:aI):R2:=λx y H Q=>∃a b xs ys,x = .ref a/\y = .ref b/\SqT K H a xs/\SqT K H b ys/\xs≠[]/\xs.length+ys.length<=sizeLine/\
 (ys=[]->Q (.ref a) H)/\(ys≠[]->∀p,H p=aB->Q (.ref p) (upd H p (.tup (xs++ys))))
theorem Vals.nil_iff{xs:List V}{us:List aJ}(r:Vals xs us):us=[]↔xs=[]:=by
 cases r with
 | nil=>simp
 | cons _ _=>simp
theorem En:Us X (fD .Add) (Ag X.K):=by intro du s Z H x y v u Q I rx ry h;obtain⟨a,b,xs,ys,rfl,rfl,ha,hb,hx,hz,q1,q2⟩:=h;cases rx;cases ry;obtain⟨pA,r1,p1,_⟩:=I.tuple ha;obtain⟨its2,r2,p2,_⟩:=I.tuple hb;refine HT.cat_tup p1 p2 (λz=>hx (r1.nil_iff.mp z)) (λz=>⟨.ref a,H,I,rfl,q1 (r2.nil_iff.mp z)⟩) (λz=>?_) (by rw[<-r1.length,<-r2.length];exact hz);refine⟨.ref s.heap.objs.size,_,I.laid (t':=s.toks) (o:=.tup (xs++ys)) (λb ob q=>aO _ q) (af _) ?_,rfl,q2 (λw=>z (r2.nil_iff.mpr w)) _ (I.hok.fresh (af _))⟩;exact⟨⟨by rw[aY];exact hz,λo e=>OG e⟩,_,r1.append r2,o8 _ _⟩
end
def M4(n:Nat)(i:Int):Option Nat:=if 0<=i then(if i<n then aA i.toNat else aB) else if -(n:Int)<=i then aA (i+n).toNat else aB
def Ts{α:Type}(xs:List α)(i:Int):Option α:=(M4 xs.length i).bind λj=>xs[j]?
theorem KY{n:Nat}{i:Int}{j:Nat}(h:M4 n i=aA j):seqIndex? i n=aA j/\j<n/\-(n:Int)<=i/\i<n:=by
 unfold M4 at h;by_cases h0:0<=i
 ·rw[pC h0] at h;by_cases h1:i<n
  ·rw[pC h1] at h;have e:i.toNat=j:=bB h;exact⟨by rw[nV h0 h1,e],by omega,by omega,h1⟩
  ·rw[pE h1] at h;cases h
 ·rw[pE h0] at h;by_cases h1 : -(n:Int)<=i
  ·rw[pC h1] at h;have e:(i+n).toNat=j:=bB h;exact⟨by rw[my (by omega) h1,e],by omega,h1,by omega⟩
  ·rw[pE h1] at h;cases h
theorem OJ{α:Type}{xs:List α}{i:Int}{v:α}(h:Ts xs i=aA v):∃j,seqIndex? i xs.length=aA j/\xs[j]?=aA v/\j<xs.length/\-(xs.length:Int)<=i/\i<xs.length:=by
 unfold Ts at h
 cases e:M4 xs.length i with
 | none=>rw[e] at h;cases h
 | some j=>
  rw[e] at h;obtain⟨h1,h2,h3,h4⟩:=KY e;exact⟨j,h1,h,h2,h3,h4⟩
theorem WG{α:Type}{xs:List α}{j:Nat}{v:α}(h:xs[j]?=aA v):Ts xs (j:Int)=aA v:=by
 have hj:j<xs.length:=(aX.mp h).1;have e:M4 xs.length (j:Int)=aA j:=by unfold M4;rw[pC (by omega),pC (by omega)];simp
 unfold Ts;rw[e];exact h
def OK(b:bK):Prop:=∀o i,subscripted b aC o i=operate [o,i] (k9 o i)
def IxR(X:Cx)(r:R2):Prop:=
 ∀(value slice:bK)(du:List (aM×dX))(s:aN)(Z:St)(H:Hp)(x y:V)(v u:aJ)(Q:VK),Inv X du Z H s->RelV x v->RelV y u->r x y H Q->
  subscripted slice aC v u=operate [v,u] (k9 v u)->ao (model X.prog X.w) X.A (mQ value slice v u) (EP X du Z Q) X.xe s
def MtR(X:Cx)(id:String)(r:V->List V->Hp->VK->Prop):Prop:=
 ∀(du:List (aM×dX))(s:aN)(Z:St)(H:Hp)(x:V)(xs:List V)(v:aJ)(us:List aJ)(Q:VK),Inv X du Z H s->RelV x v->Vals xs us->r x xs H Q->
  ao (model X.prog X.w) X.A (call (.builtin id) (v::us)) (EP X du Z Q) X.xe s
section
variable {X:Cx} {a b:bK} {ta tb:TE} {pos:fN}
theorem IxR.or{r r':R2}(h:IxR X r)(h':IxR X r'):IxR X (λx y H Q=>r x y H Q\/r' x y H Q):=by
 intro value slice du s Z H x y v u Q I rx ry q hs;rcases q with q | q
 ·exact h value slice du s Z H x y v u Q I rx ry q hs
 ·exact h' value slice du s Z H x y v u Q I rx ry q hs
theorem KZ{r:R2}(hr:IxR X r)(ha:PE X a ta)(hb:PE X b tb)(hs:OK b):PE X (.Subscript a b pos) (Cw r ta tb):=by intro du s Z H Q I h;exact oF (Cy ha hb I h λv u s2 x y H2 I2 rx ry q=>hr a b du s2 Z H2 x y v u Q I2 rx ry q (hs _ _))
def Eo(K:aI):R2:=λx y H Q=>∃p xs i v,x = .ref p/\y = .int i/\SqL K H p xs/\Ts xs i=aA v/\Q v H
def Ah(K:aI):R2:=λx y H Q=>∃p xs i v,x = .ref p/\y = .int i/\SqT K H p xs/\Ts xs i=aA v/\Q v H
def Ai:R2:=λx y H Q=>∃z i c,x = .str z/\y = .int i/\z.length<=sizeLine/\Ts z.cps.toList i=aA c/\Q (.str ⟨#[c]⟩) H
theorem ix_list:IxR X (Eo X.K):=by
 intro value slice du s Z H x y v u Q I rx ry h hs;obtain⟨p,xs,i,z,rfl,rfl,hq,he,q⟩:=h;cases rx;obtain⟨t,rfl⟩:=ry;obtain⟨pA,r,pl,hz⟩:=I.list hq;obtain⟨j,h1,h2,h3,h4,h5⟩:=OJ he;obtain⟨w,ew,Rz⟩:=r.get h2;have hl:=r.length;have hn:=SS;have fin:EP X du Z Q w s:=⟨z,H,I,Rz,q⟩;by_cases h0:0<=i
 ·have hj:i.toNat=j:=by rw[nV h0 h5] at h1;exact bB h1
  exact item_listR pl.isList h0 (by omega) (by rw[hj];simpa using ew) fin hs
 ·have hj:(i+(pA.toArray.size:Int)).toNat=j:=by rw[my (by omega) h4] at h1;rw[aV,<-hl];exact bB h1
  exact ka (x:=w) pl.isList.typeIs slot_list_getitem.lookup
   (wpAny_getItem_list_neg (Q:=λr s'=>r=w/\EP X du Z Q r s') pl.isList (by omega) (by rw[aV]<;>omega) (by omega) (by rw[hj];simpa using ew) ⟨rfl,fin⟩) hs
theorem ix_tup:IxR X (Ah X.K):=by
 intro value slice du s Z H x y v u Q I rx ry h hs;obtain⟨p,xs,i,z,rfl,rfl,hq,he,q⟩:=h;cases rx;obtain⟨t,rfl⟩:=ry;obtain⟨pA,r,pl,hz⟩:=I.tuple hq;obtain⟨j,h1,h2,h3,h4,h5⟩:=OJ he;obtain⟨w,ew,Rz⟩:=r.get h2;have hl:=r.length;have hn:=SS;have fin:EP X du Z Q w s:=⟨z,H,I,Rz,q⟩
 exact ka (x:=w) pl.typeIs slot_tuple_getitem.lookup
  (getItem_tuple (j:=j) (Q:=λr s'=>r=w/\EP X du Z Q r s') pl (by omega) (by omega) (by rw[aV,<-hl];exact h1) (by simpa using ew) ⟨rfl,fin⟩) hs
theorem CN:IxR X Ai:=by
 intro value slice du s Z H x y v u Q I rx ry h hs;obtain⟨z,i,c,rfl,rfl,hz,he,q⟩:=h;obtain⟨t,rfl⟩:=rx;obtain⟨t',rfl⟩:=ry;obtain⟨j,h1,h2,h3,h4,h5⟩:=OJ he;have hl:z.cps.toList.length=z.length:=by simp[ah.length]
 rw[hl] at h1 h4 h5;have hn:=SS
 exact tail_any (typeIs_str s z t) slot_str_getitem.lookup (getItem_str (c:=c) (by
  have e1:decide (i < -(2^63:Int))=aC:=decide_eq_false (by omega);have e2:decide (i ≥ 2^63)=aC:=decide_eq_false (by omega);rw[e1,e2,Bool.or_false]) (by rw[h1];simpa using h2) ⟨.str ⟨#[c]⟩,H,I.tok _,⟨_,rfl⟩,q⟩) hs
def rIx(K:aI):R2:=λx y H Q=>Eo K x y H Q\/Ah K x y H Q\/Ai x y H Q
theorem CO:IxR X (rIx X.K):=ix_list.or (ix_tup.or CN)
theorem Lj(pA:List aJ)(n j:Nat)(u:aJ):kc (·.setIfInBounds j u) { cls:=.type "list",data:=.seq pA.toArray n }={ cls:=.type "list",data:=.seq (pA.set j u).toArray n }:=by simp[kc]
theorem Inv.lst{du:List (aM×dX)}{Z:St}{H:Hp}{s:aN}{p:aM}{xs:List V}(I:Inv X du Z H s)(h:H p=aA (.lst xs)) :
  ∃(pA:List aJ) (n:Nat),Vals xs pA/\s.heap.get? p=aA { cls:=.type "list",data:=.seq pA.toArray n }/\xs.length<=sizeLine:=by
 obtain⟨z,pA,n,r,e⟩:=I.hok p _ h;exact⟨pA,n,r,e,z⟩
theorem Inv.lstUpd{du:List (aM×dX)}{Z:St}{H:Hp}{s:aN}{p:aM}{xs ys:List V}{pA its':List aJ}{n n':Nat}{f:dX->dX}(I:Inv X du Z H s)(h:H p=aA (.lst xs))
  (ho:s.heap.get? p=aA { cls:=.type "list",data:=.seq pA.toArray n }) (hf:f { cls:=.type "list",data:=.seq pA.toArray n }={ cls:=.type "list",data:=.seq its'.toArray n' }) (r:Vals ys its') (hz:ys.length<=sizeLine) (t:Nat) :
  Inv X du Z (upd H p (.lst ys)) { s with heap:=s.heap.update p f,toks:=t }:=by
 have e:(s.heap.update p f).get? p=aA { cls:=.type "list",data:=.seq its'.toArray n' }:=by rw[cC f ho (by rw[hf]<;>rfl),hf]
 refine I.write (x:=p) (e:=p) (by rw[h];trivial) (.inl rfl) (λb u hb q=>(bY _ _ (cY hb)).trans q) ⟨_,e⟩ ?_;exact⟨hz,its',n',r,e⟩
def Gf:V->V->V->Hp->(Hp->Prop)->Prop:=λo i v H Q=>∃p xs k j,o = .ref p/\i = .int k/\H p=aA (.lst xs)/\M4 xs.length k=aA j/\Q (upd H p (.lst (xs.set j v)))
theorem W4:B0 X Gf:=by
 intro du s Z H o i v ov iv u Q I ro ri rv h;obtain⟨p,xs,k,j,rfl,rfl,hp,hj,q⟩:=h;cases ro;obtain⟨t,rfl⟩:=ri;obtain⟨pA,n,r,ho,hz⟩:=I.lst hp;obtain⟨h1,h2,h3,h4⟩:=KY hj;have hl:=r.length;have hn:=SS
 have I':Inv X du Z (upd H p (.lst (xs.set j v))) { s with heap:=s.heap.update p (kc (·.setIfInBounds j u)) }:=
  I.lstUpd hp ho (Lj pA n j u) (r.set rv j) (by rw[bU];exact hz) s.toks
 by_cases h0:0<=k
 ·have hk:k.toNat=j:=by rw[nV h0 h4] at h1;exact bB h1
  exact PySem.W.ki_setAt ho h0 (by omega) (by rw[aV,<-hl];exact h4) (by rw[hk];exact⟨_,I',q⟩)
 ·have hk:(k+(pA.toArray.size:Int)).toNat=j:=by rw[my (by omega) h3] at h1;rw[aV,<-hl];exact bB h1
  exact PySem.W.ki_setBack ho (by omega) (by rw[aV,<-hl];exact h3) (by omega) (by rw[hk];exact⟨_,I',q⟩)
theorem OL(lo hi:Option Int)(n:Nat):(iJ lo hi aB n).1=((HT.sIx n 0 lo:Nat):Int)/\(iJ lo hi aB n).2.1=((HT.sIx n n hi:Nat):Int)/\(iJ lo hi aB n).2.2=1:=by
 refine⟨?_,?_,rfl⟩
 ·cases lo with
  | none=>simp[iJ,HT.sIx]
  | some i=>
   simp only[iJ,HT.sIx,nI,show(1:Int)>0 by decide,if_true];by_cases h:i<0
   ·simp only[h,if_true]<;>omega
   ·simp only[h,if_false]<;>omega
 ·cases hi with
  | none=>simp[iJ,HT.sIx]
  | some i=>
   simp only[iJ,HT.sIx,nI,show(1:Int)>0 by decide,if_true];by_cases h:i<0
   ·simp only[h,if_true]<;>omega
   ·simp only[h,if_false]<;>omega
theorem Pp(pA:List aJ)(lo hi:Option Int):slicePick pA.toArray lo hi aB=((pA.drop (HT.sIx pA.length 0 lo)).take (HT.sIx pA.length pA.length hi-HT.sIx pA.length 0 lo)).toArray:=by
 obtain⟨h1,h2,h3⟩:=OL lo hi pA.toArray.size;unfold slicePick;rw[h1,h2,h3];simp only[sliceRange_one,pick_run,aV]<;>rfl
def Zat(K:aI):V->Option Int->Option Int->Hp->VK->Prop:=λx lo hi H Q=>∃a xs,x = .ref a/\SqL K H a xs/\∀p,H p=aB->Q (.ref p) (upd H p (.lst (NN xs lo hi)))
theorem Ep:SlR X (Zat X.K):=by intro du s Z H x v vl vu lo hi sl Q I rx hs pl pu h;obtain⟨a,xs,rfl,hx,q⟩:=h;cases rx;obtain⟨pA,r,ht,hz⟩:=I.list hx;have hlen:=r.length;refine⟨"list",_,slot_list_getitem.lookup,ht.isList.typeIs,?_⟩;refine wpAny_getItem_list_slice ht.isList hs pl pu .none (by simp) ?_ (by rw[aV]<;>omega);rw[Pp,<-hlen];refine⟨.ref s.heap.objs.size,_,I.laid (t':=s.toks) (o:=.lst (NN xs lo hi)) (λb ob q=>aO _ q) (af _) ?_,rfl,q _ (I.hok.fresh (af _))⟩;exact⟨cu (RF xs lo hi) hz,_,0,(r.drop (HT.sIx xs.length 0 lo)).take (HT.sIx xs.length xs.length hi-HT.sIx xs.length 0 lo),aj _ rfl⟩
theorem OM:Wo X (.type "list") (λxs H Q=>∃p ys,xs=[.ref p]/\(SqL X.K H p ys\/SqT X.K H p ys)/\∀l,H l=aB->Q (.ref l) (upd H l (.lst ys))):=by
 intro du s Z H xs us Q I r h;obtain⟨p,ys,rfl,hq,q⟩:=h;obtain⟨u,rfl,rx⟩:=Uv r;cases rx
 have fin:∀(pA:List aJ),Vals ys pA->ys.length<=sizeLine->∀(h':bw)(c':Nat),(∀b o',s.heap.get? b=aA o'->h'.get? b=aA o')->
   h'.get? s.heap.objs.size=aA { cls:=.type "list",dict:=aB,data:=.seq pA.toArray c',slots:=#[] }->EP X du Z Q (.ref s.heap.objs.size) { s with heap:=h' }:=λpA r' hz h' c' kp e=>
  ⟨.ref s.heap.objs.size,_,I.laid (t':=s.toks) kp (af _) (show ObjOk X.prog X.w _ h' _ (.lst ys) from⟨hz,pA,c',r',e⟩),rfl,q _ (I.hok.fresh (af _))⟩
 rcases hq with hq | hq
 ·obtain⟨pA,r',pl,hz⟩:=I.list hq;have hlen:=r'.length;obtain⟨o,ho,hc,n,hd⟩:=pl.isList;exact call_list_seq p (.inl rfl) ho hc hd (λh' c' kp e=>fin pA r' hz h' c' kp e) (by simp only[aV]<;>omega)
 ·obtain⟨pA,r',pl,hz⟩:=I.tuple hq;have hlen:=r'.length;obtain⟨o,ho,hc,n,hd⟩:=pl;exact call_list_seq p (.inr rfl) ho hc hd (λh' c' kp e=>fin pA r' hz h' c' kp e) (by simp only[aV]<;>omega)
theorem YZ:Wo X (.type "tuple") (λxs H Q=>∃p ys,xs=[.ref p]/\((SqL X.K H p ys/\∀l,H l=aB->Q (.ref l) (upd H l (.tup ys)))\/(SqT X.K H p ys/\Q (.ref p) H))):=by
 intro du s Z H xs us Q I r h;obtain⟨p,ys,rfl,h⟩:=h;obtain⟨u,rfl,rx⟩:=Uv r;cases rx;rcases h with⟨hq,q⟩ | ⟨hq,q⟩
 ·obtain⟨pA,r',pl,hz⟩:=I.list hq;have hlen:=r'.length;refine call_tuple_list pl.isList (λh' kp=>?_) (by simp only[aV]<;>omega);have I1:Inv X du Z H { s with heap:=h' }:=I.kept (t':=s.toks) kp
  have I2:Inv X du Z (upd H h'.objs.size (.tup ys)) { s with heap:=h'.push { cls:=.type "tuple",data:=.seq pA.toArray } }:=
   I1.laid (t':=s.toks) (λb o e=>aO _ e) (af _) (show ObjOk X.prog X.w _ _ _ (.tup ys) from⟨⟨hz,λo e=>OG e⟩,pA,r',o8 _ _⟩)
  exact⟨.ref h'.objs.size,_,I2,rfl,q _ (I1.hok.fresh (af _))⟩
 ·obtain⟨pA,r',pl,hz⟩:=I.tuple hq;exact call_tuple_same pl ⟨.ref p,H,I,rfl,q⟩
def tyV(K:aI)(T:String)(x:V)(H:Hp):Prop:=match x with
 | .str _=>T = "str"
 | .int _=>T = "int"
 | .ref p=>(T = "list"/\∃xs,SqL K H p xs)\/(T = "tuple"/\∃o,K.lookup p=aA o/\o.cls = .type "tuple"/\o.dict=aB)\/
   (T = "dict"/\((∃oy,H p=aA (.dK oy))\/∃oy,H p=aA (.dT oy)))\/(T = "set"/\∃S n,H p=aA (.set S n))\/(T = "tuple"/\∃xs,H p=aA (.tup xs))
 | _=>False
theorem CP{du:List (aM×dX)}{Z:St}{H:Hp}{s:aN}{T:String}{x:V}{v:aJ}(I:Inv X du Z H s)(r:RelV x v)(ty:tyV X.K T x H) :
  s.TypeIs v T/\∀a,v = .ref a->∃ob,s.heap.get? a=aA ob/\ob.dict=aB:=by
 cases x with
 | str z=>
  obtain⟨t,rfl⟩:=r;cases (show T = "str" from ty);exact⟨typeIs_str s z t,λ_ e=>nomatch e⟩
 | int i=>
  obtain⟨t,rfl⟩:=r;cases (show T = "int" from ty);exact⟨oG s i t,λ_ e=>nomatch e⟩
 | ref p=>
  cases r;rcases ty with⟨rfl,xs,hq⟩ | ⟨rfl,o,hk,hc,hd⟩ | ⟨rfl,hk⟩ | ⟨rfl,S,n,hk⟩ | ⟨rfl,xs,hk⟩;rotate_left 4
  ·obtain⟨z,pA,_,o,e1,e2,_⟩:=(show ObjOk X.prog X.w H s.heap p (.tup xs) from I.hok p _ hk);refine⟨⟨o,e1,e2⟩,λa e=>?_⟩;cases e;exact⟨o,e1,z.2 o e1⟩
  ·obtain⟨pA,_,pl,_⟩:=I.list hq;refine⟨pl.isList.typeIs,λa e=>?_⟩;cases e;obtain⟨o,n,e,c,hd,_⟩:=pl;exact⟨o,e,hd⟩
  ·refine⟨⟨o,I.kIn p o hk,hc⟩,λa e=>?_⟩;cases e;exact⟨o,I.kIn _ o hk,hd⟩
  ·have z:∃o,s.heap.get? p=aA o/\o.ExactDict:=by
    rcases hk with⟨oy,hk⟩ | ⟨oy,hk⟩
    ·obtain⟨_,_,_,_,o,_,_,e,ex,_⟩:=I.hok p _ hk;exact⟨o,e,ex⟩
    ·obtain⟨_,_,_,_,o,_,_,e,ex,_⟩:=I.hok p _ hk;exact⟨o,e,ex⟩
   obtain⟨o,e,ex⟩:=z;refine⟨⟨o,e,ex.1⟩,λa e2=>?_⟩;cases e2;exact⟨o,e,ex.2.1⟩
  ·obtain⟨o,_,_,_,e,ex,_⟩:=I.hok p _ hk;refine⟨⟨o,e,ex.1⟩,λa e2=>?_⟩;cases e2;exact⟨o,e,ex.2.1⟩
 | _=>exact cq ty
def A8(K:aI)(T:String)(r:V->List V->Hp->VK->Prop)(to:TE)(t:TA):TE:=λZ H Q=>to Z H λx H1=>tyV K T x H1/\t Z H1 λxs H2=>r x xs H2 Q
variable {o e:bK} {es:List bK} {to:TE} {t:TA} {name:ah} {apos p6:fN} {T id:String} {r:V->List V->Hp->VK->Prop}
theorem W5(pa:PlainAttrs T)(slot:Slot T name id)(hty:typeOf (.builtin id)=pure (.type "method_descriptor"))(hm:MtR X id r)(ho:PE X o to)(ha:PA X (e::es) t)
  (hbase:mR o name X.env (eval o X.env)=eval o X.env:=by rfl)
  (hfew:((cw p6 (aR (e::es) X.env)).all (λx=>!x.1)&&(oA p6 (lU [] X.env)).all (λx=>x.1.isSome)
   &&decide ((e::es).length+([]:List mB).length+(if([]:List mB).isEmpty then 0 else 1)<30))=aD:=by rfl)
  (hline:(apos.endLine==p6.line)=aD:=by rfl) (hs:aR (e::es) X.env=(aC,eval e X.env)::aR es X.env:=by rfl) (hplain:(cw p6 (aR es X.env)).any (·.1)=aC:=by rfl) :
  PE X (.Call (.Attribute o name apos) (e::es) [] p6) (A8 X.K T r to t):=by
 intro du s Z H Q I h;refine wpAny_Call_method_late hbase hfew hline rfl (Yo (ho du s Z H _ I h) λv s1 ⟨x,H1,I1,r1,ty,q1⟩=>?_);obtain⟨h1,h2⟩:=CP I1 r1 ty;refine⟨T,id,pa,slot,hty,h1,h2,?_⟩;have hA:=ha p6 du s1 Z H1 _ I1 q1;rw[hs] at hA ⊢;refine Calls.callWith_builtin (by show(aC || (cw p6 (aR es X.env)).any (·.1))=aC;rw[hplain]<;>rfl) (lX ?_);exact Yo hA λus s2 ⟨vs,H2,I2,r2,q2⟩=>hm du s2 Z H2 x vs v us Q I2 r1 r2 q2
end
def MtM(X:Cx)(id:String)(r:V->List V->Hp->VK->Prop):Prop:=
 ∀(du:List (aM×dX))(s:aN)(Z:St)(H:Hp)(x:V)(xs:List V)(v:aJ)(us:List aJ)(Q:VK),Inv X du Z H s->RelV x v->Vals xs us->r x xs H Q->
  ao (model X.prog X.w) X.A (call (.builtin id) (v::us)) (EP X du Z Q) X.xe s
theorem Vals.one:∀{x:V}{us:List aJ},Vals [x] us->∃u,us=[u]/\RelV x u
 | _,_,.cons r .nil=>⟨_,rfl,r⟩
theorem Vals.two:∀{x y:V}{us:List aJ},Vals [x,y] us->∃u v,us=[u,v]/\RelV x u/\RelV y v
 | _,_,_,.cons r (.cons q .nil)=>⟨_,_,rfl,r,q⟩
theorem Vals.dropLast{xs:List V}{us:List aJ}(h:Vals xs us):Vals xs.dropLast us.dropLast:=by
 induction h with
 | nil=>exact .nil
 | cons r t ih=>
  cases t with
  | nil=>exact .nil
  | cons q t'=>exact .cons r ih
theorem Vals.rep{xs:List V}{us:List aJ}(h:Vals xs us):∀k:Nat,Vals (aK k xs).flatten (aK k us).flatten
 | 0=>.nil
 | k+1=>by rw[cQ,cQ,de,de];exact Vals.append h (Vals.rep h k)
theorem P4(pA:List aJ):∀(k:Nat)(acc:List aJ),
  mZ (λx1 x2=>x1++x2) acc.toArray (aK k pA.toArray)=(acc++(aK k pA).flatten).toArray
 | 0,acc=>by simp
 | k+1,acc=>by
  have e:acc.toArray++pA.toArray=(acc++pA).toArray:=by simp
  have e2:(acc++pA)++(aK k pA).flatten=acc++(aK (k+1) pA).flatten:=by rw[cQ,de,fF]
  rw[<-e2,<-P4 pA k (acc++pA),<-e,cQ,fB]
section
variable {X:Cx} {du:List (aM×dX)} {Z:St} {H:Hp} {s:aN} {l b:aM} {xs ys zs:List V}
theorem Inv.lset{pA its':List aJ}{n:Nat}{f:Array aJ->Array aJ}{t':Nat}(I:Inv X du Z H s)(hH:H l=aA (.lst xs))
  (e:s.heap.get? l=aA { cls:=.type "list",data:=.seq pA.toArray n }) (hf:f pA.toArray=its'.toArray) (hv:Vals ys its') (hz:ys.length<=sizeLine) :
  Inv X du Z (upd H l (.lst ys)) { s with heap:=s.heap.update l (kc f),toks:=t' }:=by
 have q:=PySem.IsL.update e f;rw[hf] at q;refine I.write (x:=l) (e:=l) (by rw[hH];exact trivial) (.inl rfl) (λb' u hb hu=>(bY s.heap (kc f) (cY hb)).trans hu) ⟨_,q⟩ ?_;exact⟨hz,its',_,hv,q⟩
theorem Inv.lnew{pA:List aJ}{t':Nat}(I:Inv X du Z H s)(hv:Vals ys pA)(hz:ys.length<=sizeLine) :
  Inv X du Z (upd H s.heap.objs.size (.lst ys)) { s with heap:=s.heap.push { cls:=.type "list",data:=.seq pA.toArray },toks:=t' }:=
 I.laid (λ_ _ q=>aO _ q) (af _) ⟨hz,pA,0,hv,aj _ rfl⟩
theorem Inv.fresh(I:Inv X du Z H s):H s.heap.objs.size=aB:=I.hok.fresh (af _)
theorem Inv.lstM(I:Inv X du Z H s)(hH:H l=aA (.lst xs)):xs.length<=sizeLine/\∃(pA:List aJ) (n:Nat),Vals xs pA/\xs.length=pA.length/\s.heap.get? l=aA { cls:=.type "list",data:=.seq pA.toArray n }:=by obtain⟨z,pA,n,r,e⟩:=I.hok l _ hH;exact⟨z,pA,n,r,r.length,e⟩
theorem NO{n:Nat}(h:n<=sizeLine):fP n=aC:=by unfold fP;exact decide_eq_false (by omega)
end
section
variable {X:Cx}
def K0:V->List V->Hp->VK->Prop:=λx vs H Q=>∃l xs y,x = .ref l/\vs=[y]/\H l=aA (.lst xs)/\xs.length<sizeLine/\Q .non (upd H l (.lst (xs++[y])))
theorem Y0:MtM X "list.append" K0:=by intro du s Z H x vs v us Q I rx rv h;obtain⟨l,xs,y,rfl,rfl,hH,hz,q⟩:=h;cases rx;obtain⟨u,rfl,ru⟩:=rv.one;obtain⟨z,pA,n,r,hl,e⟩:=I.lstM hH;refine iY F.slot_list_append ⟨_,e,rfl⟩ F.entry_list_append (F.args_list_append_2 _ _) (PySem.list_append l pA.toArray n u (by rw[aV];omega)) ⟨e,?_⟩;refine⟨.non,_,I.lset (its':=pA++[u]) hH e (by simp) (r.append (.cons ru .nil)) ?_,rfl,q⟩;rw[aY,cD];omega
def K1:V->List V->Hp->VK->Prop:=λx vs H Q=>∃l b xs zs,x = .ref l/\vs=[.ref b]/\H l=aA (.lst xs)/\H b=aA (.lst zs)/\xs.length+zs.length<=sizeLine/\Q .non (upd H l (.lst (xs++zs)))
theorem J8:MtM X "list.extend" K1:=by
 intro du s Z H x vs v us Q I rx rv h;obtain⟨l,b,xs,zs,rfl,rfl,hH,hB,hz,q⟩:=h;cases rx;obtain⟨u,rfl,ru⟩:=rv.one;cases ru;obtain⟨z,pA,n,r,hl,e⟩:=I.lstM hH;obtain⟨z2,its2,n2,r2,hl2,e2⟩:=I.lstM hB;have hsz:pA.toArray.size+its2.toArray.size<=sizeLine:=by rw[aV,aV];omega
 have hlong:¬(!pA.toArray.isEmpty&&fP (pA.toArray.size+its2.toArray.size))=aD:=by rw[NO hsz,Bool.and_false];exact aw
 refine iY F.slot_list_extend ⟨_,e,rfl⟩ F.entry_list_extend (F.args_list_extend_2 _ _)
  (AutoSeq1.list_extend_list_list_0 l pA.toArray n b its2.toArray n2 hlong (by rw[aV];omega) (by omega)) ⟨e,e2,?_⟩
 refine⟨.non,_,I.lset (its':=pA++its2) hH e (by simp) (r.append r2) ?_,rfl,q⟩;rw[aY];omega
def Zaw:R2:=λx y H Q=>∃l b xs zs,x = .ref l/\y = .ref b/\H l=aA (.lst xs)/\H b=aA (.lst zs)/\xs.length+zs.length<=sizeLine/\∀p,H p=aB->Q (.ref p) (upd H p (.lst (xs++zs)))
theorem CQ:Us X (fD .Add) Zaw:=by
 intro du s Z H x y v u Q I rx ry h;obtain⟨l,b,xs,zs,rfl,rfl,hH,hB,hz,q⟩:=h;cases rx;cases ry;obtain⟨z,pA,n,r,hl,e⟩:=I.lstM hH;obtain⟨z2,its2,n2,r2,hl2,e2⟩:=I.lstM hB;refine PySem.P.add_list e e2 ?_ (by rw[aV,aV];omega);have ea:pA.toArray++its2.toArray=(pA++its2).toArray:=by simp
 rw[ea];exact⟨.ref _,_,I.lnew (t':=s.toks) (r.append r2) (by rw[aY];omega),rfl,q _ I.fresh⟩
def Zax:R2:=λx y H Q=>∃l k xs,x = .ref l/\y = .int k/\H l=aA (.lst xs)/\-(2^63)<=k/\k<2^63/\xs.length*k.toNat<=sizeLine/\
 ∀p,H p=aB->Q (.ref p) (upd H p (.lst (aK k.toNat xs).flatten))
theorem Er{α:Type}(xs:List α)(k:Nat):(aK k xs).flatten.length=k*xs.length:=by
 induction k with
 | zero=>simp
 | succ k ih=>rw[cQ,de,aY,ih,Nat.succ_mul,Nat.add_comm]
theorem CS:Us X (fD .Mult) Zax:=by
 intro du s Z H x y v u Q I rx ry h;obtain⟨l,k,xs,rfl,rfl,hH,h1,h2,hz,q⟩:=h;cases rx;obtain⟨t,rfl⟩:=ry;obtain⟨z,pA,n,r,hl,e⟩:=I.lstM hH;have hlen:pA.toArray.size*k.toNat<=sizeLine:=by rw[aV,<-hl];exact hz
 have hcap:¬pA.toArray.size*k.toNat>(2^63-1)/8:=by
  have:(sizeLine:Nat)<=(2^63-1)/8:=by decide
  omega
 have hfit:¬(!Builtin.List.listFitsIndex k)=aD:=by rw[fitsIndex_both h1 h2];exact aw
 have hlong:¬fP (pA.toArray.size*k.toNat)=aD:=by rw[NO hlen];exact aw
 have hnew:mZ (λx1 x2=>x1++x2) #[] (aK (if pA.toArray.isEmpty=aD then 0 else k.toNat) pA.toArray)=(aK k.toNat pA).flatten.toArray:=by
  have f0:∀m:Nat,mZ (λx1 x2=>x1++x2) #[] (aK m pA.toArray)=(aK m pA).flatten.toArray:=λm=>by have:=P4 pA m [];rw[jM] at this;exact this
  rw[f0]
  cases pA with
  | nil=>simp
  | cons a r'=>rw[pE (by simp)]
 refine wpAny_binaryOp_repeat_ref (T:="list") (U:="int") (by decide) ⟨_,e,rfl⟩ (λs'=>oG s' k t) noFill_list_mul F.fills_int_mul F.slot_int_rmul repeat_list F.slot_int_index.lookup
  (iY F.slot_int_rmul (oG s k t) F.entry_int_rmul (F.args_int_rmul_2 _ _) (int___rmul___int_list k t l pA.toArray n)
   ⟨e,rfl,⟨_,e,rfl⟩,iY F.slot_list_mul ⟨_,e,rfl⟩ F.entry_list_mul (F.args_list_mul_2 _ _) (AutoListH.list___mul___list_int_3 l pA.toArray n k t hfit hcap hlong) ⟨e,?_⟩⟩)
 rw[hnew];exact⟨.ref _,_,I.lnew (t':=s.toks) (r.rep k.toNat) (by rw[Er,Nat.mul_comm];exact hz),rfl,q _ I.fresh⟩
end
end L2
namespace Att
open PySem PySem.W PySem.Calls PyProof.Rows
theorem RT{P:Params}{h:bw}:∀(ns:List Int)(vs:List aJ),WellAll P h vs (ns.map nJ)->ig vs ns:=by
 intro ns
 induction ns with
 | nil=>
  intro vs w;rw[da] at w;cases w;exact .nil
 | cons n ns ih=>
  intro vs w;rw[aZ] at w
  cases w with
  | cons a b=>
   cases a;exact .cons _ _ (ih _ b)
theorem script_of{l:OpenLaw}{n:Nat}(hn:l.most=aA n){P:Params}{h:bw}{args:List WData}{vals:List aJ}
  (hpre:l.row.toRowW.claim.pre args=aD) (hwl:WellAll P h vals args) :
  ∃a vs ns,vals=[b7 a]/\args=[WData.list (ns.map nJ)]/\h.get? a=aA { cls:=.type "list",data:=.seq vs.toArray }/\ig vs ns/\ns.length<=n:=by
 have hsh:WShape.hasAll [] args [.list .int]=aD:=(pre_splitW hpre).1;have hc:l.pre.holds [] { args:=args }=aD:=(pre_splitW hpre).2;obtain⟨d,r,rfl,h1,h2⟩:=hasAllW_cons hsh;obtain rfl:=hasAllW_nil h2;obtain⟨xs,rfl,h3⟩:=hasW_list h1;obtain⟨ns,rfl⟩:=items_int h3
 have hlen:ns.length<=n:=by
  unfold OpenLaw.pre at hc;have h4:(WTm.not (.lt (.lit (.int (n:Int))) (.len (.arg 0)))).holds [] { args:=[.list (ns.map .int)] }=aD:=by have h4:=(holds_andW hc).1;rw[hn] at h4;exact h4
  have h5:=condW_of h4 (w_not (w_lt w_lit (w_len_list (w_arg rfl))));rw[aH] at h5;refine Nat.le_of_not_lt λq=>?_;have q':(n:Int)<((ns.length:Nat):Int):=by omega
  first
   | (rw[decide_eq_true q'] at h5;exact absurd h5 (by decide))
   | (simp at h5;omega)
 cases hwl with
 | cons w1 w2=>
  cases w2
  cases w1 with
  | list ho hall=>exact⟨_,_,ns,rfl,rfl,ho,RT ns _ hall,hlen⟩
theorem post_true(l:OpenLaw)(args:List WData):l.row.toRowW.claim.post args (.bool aD) args=aD:=
 postW_of (r:=l.row.toRowW) (X:=(aD==aD))
  (show WShape.has [] (.bool aD) .bool=aD by first | rfl | decide | simp[WShape.has,WShape.arms,WShape.armsAll])
  (show(WTm.eq .res (.lit (.bool aD))).value [] { args:=args,res:=aA (.bool aD),after:=args }=aA (.bool (aD==aD)) from w_eq_bool (w_res rfl) w_lit) rfl
end Att
namespace L2
open PySem PySem.Spec PyProof.Rows
section
variable {κ:Type} [DecidableEq κ]
def Uw(oy:List (κ×V))(k:κ):Option V:=(oy.find? λkv=>decide (kv.1=k)).map (·.2)
def Vy(oy:List (κ×V))(k:κ)(v:V):List (κ×V):=
 if(oy.any λkv=>decide (kv.1=k))=aD then oy.map (λkv=>if kv.1=k then(kv.1,v) else kv) else oy++[(k,v)]
theorem Sd{p:κ×V}{r:List (κ×V)}{k:κ}(e:p.1=k):Uw (p::r) k=aA p.2:=by simp[Uw,cf,e]
theorem Se{p:κ×V}{r:List (κ×V)}{k:κ}(e:¬p.1=k):Uw (p::r) k=Uw r k:=by simp[Uw,cf,e]
theorem Qh(k:κ):∀oy:List (κ×V),(oy.any λkv=>decide (kv.1=k))=(Uw oy k).isSome
 | []=>rfl
 | p::r=>by
  rw[mS];by_cases e:p.1=k
  ·simp only[Sd e,decide_eq_true e,Bool.true_or,Option.isSome_some]
  ·rw[Se e,decide_eq_false e,oZ];exact Qh k r
theorem RG(oy:List (κ×V))(k:κ)(v:V):(Vy oy k v).length<=oy.length+1:=by
 unfold Vy;split
 ·rw[aH];omega
 ·rw[aY,bA,dk];omega
theorem Gg{oy:List (κ×V)}{k:κ}(v:V)(h:Uw oy k=aB):Vy oy k v=oy++[(k,v)]:=by unfold Vy;rw[Qh,h];exact pE (by decide)
theorem RelO.isSome_eq{o:Option V}{u:Option aJ}(r:RelO o u):o.isSome=u.isSome:=by
 cases o with
 | none=>cases u with
  | none=>rfl
  | some _=>exact(show False from r).elim
 | some _=>cases u with
  | none=>exact(show False from r).elim
  | some _=>rfl
theorem KV.val{oy:List (κ×V)}{vs:List (κ×aJ)}(r:KV oy vs)(k:κ):RelO (Uw oy k) (mD vs k):=by
 unfold KV at r
 induction r with
 | nil=>exact cE
 | @cons p q ps qs h t ih=>
  obtain⟨h1,h2⟩:=h;by_cases e:p.1=k
  ·have e':q.1=k:=h1.symm.trans e;have b:mD (q::qs) k=aA q.2:=by simp[mD,cf,e']
   rw[Sd e,b];exact h2
  ·have e':¬q.1=k:=λz=>e (h1.trans z);have b:mD (q::qs) k=mD qs k:=by simp[mD,cf,e']
   rw[Se e,b];exact ih
theorem KV.any{oy:List (κ×V)}{vs:List (κ×aJ)}(r:KV oy vs)(k:κ):(oy.any λkv=>decide (kv.1=k))=vs.any λkv=>decide (kv.1=k):=by
 unfold KV at r
 induction r with
 | nil=>rfl
 | cons h t ih=>rw[mS,mS,ih,h.1]
theorem KV.repl{oy:List (κ×V)}{vs:List (κ×aJ)}(r:KV oy vs)(k:κ){y:V}{u:aJ}(ry:RelV y u) :
  KV (oy.map λkv=>if kv.1=k then(kv.1,y) else kv) (vs.map λkv=>if kv.1=k then(kv.1,u) else kv):=by
 unfold KV at r ⊢
 induction r with
 | nil=>exact .nil
 | @cons p q ps qs h t ih=>
  rw[aZ,aZ];refine .cons ?_ ih;obtain⟨h1,h2⟩:=h;by_cases e:p.1=k
  ·rw[pC e,pC (h1.symm.trans e)];exact⟨h1,ry⟩
  ·rw[pE e,pE (λz=>e (h1.trans z))];exact⟨h1,h2⟩
theorem KV.put{oy:List (κ×V)}{vs:List (κ×aJ)}(r:KV oy vs)(k:κ){y:V}{u:aJ}(ry:RelV y u):KV (Vy oy k y) (stored vs k u):=by
 unfold Vy stored;rw[r.any k];by_cases e:(vs.any λkv=>decide (kv.1=k))=aD
 ·rw[pC e,pC e];exact r.repl k ry
 ·rw[pE e,pE e];exact Paired.snoc r ⟨rfl,ry⟩
theorem KV.length{oy:List (κ×V)}{vs:List (κ×aJ)}(r:KV oy vs):oy.length=vs.length:=Paired.length r
end
theorem K2{P:bE}{w:bg}{k:YM}{u:aJ}(r:RelV (kV k) u):(YT P w).is k u=aD:=by
 cases k with
 | inl i=>obtain⟨t,e⟩:=(show ∃t,u=dN i t from r);subst e;exact NF P w i t
 | inr x=>obtain⟨t,e⟩:=(show ∃t,u=kI x t from r);subst e;exact NG P w x t
theorem P5{P:bE}{w:bg}:∀{ks:List YM}{us:List aJ},Vals (ks.map kV) us->ItemsAre (YT P w) ks us
 | [],_,r=>by rw[da] at r;cases r;exact .nil
 | k::ks,_,r=>by
  rw[aZ] at r
  cases r with
  | cons h t=>exact .cons (K2 h) (P5 t)
abbrev KT(H:Hp):List (List YM×V)->List (List YM×aM×aJ)->Prop:=Paired λp q=>p.1=q.1/\H q.2.1=aA (.tup (p.1.map kV))/\RelV p.2 q.2.2
theorem KT.val{H:Hp}{oy:List (List YM×V)}{xs:List (List YM×aM×aJ)}(r:KT H oy xs)(k:List YM):RelO (Uw oy k) ((nW xs k).map (·.2)):=by
 induction r with
 | nil=>exact cE
 | @cons p q ps qs h t ih=>
  obtain⟨h1,_,h2⟩:=h;by_cases e:p.1=k
  ·have e':q.1=k:=h1.symm.trans e;have b:nW (q::qs) k=aA q.2:=by simp[nW,cf,e']
   rw[Sd e,b];exact h2
  ·have e':¬q.1=k:=λz=>e (h1.trans z);have b:nW (q::qs) k=nW qs k:=by simp[nW,cf,e']
   rw[Se e,b];exact ih
theorem KT.repl{H:Hp}{oy:List (List YM×V)}{xs:List (List YM×aM×aJ)}(r:KT H oy xs)(k:List YM){y:V}{u:aJ}(ry:RelV y u) :
  KT H (oy.map λkv=>if kv.1=k then(kv.1,y) else kv) (xs.map (putAt k u)):=by
 induction r with
 | nil=>exact .nil
 | @cons p q ps qs h t ih=>
  rw[aZ,aZ];refine .cons ?_ ih;obtain⟨h1,h2,h3⟩:=h;unfold putAt;by_cases e:p.1=k
  ·rw[pC e,pC (h1.symm.trans e)];exact⟨h1,h2,ry⟩
  ·rw[pE e,pE (λz=>e (h1.trans z))];exact⟨h1,h2,h3⟩
theorem KT.put{H:Hp}{oy:List (List YM×V)}{xs:List (List YM×aM×aJ)}(r:KT H oy xs)(k:List YM){b:aM}{y:V}{u:aJ}(hb:H b=aA (.tup (k.map kV)))(ry:RelV y u) :
  KT H (Vy oy k y) (storedH xs k b u):=by
 have e:(oy.any λkv=>decide (kv.1=k))=(nW xs k).isSome:=by rw[Qh,(r.val k).isSome_eq,mz]
 unfold Vy storedH;rw[e];by_cases q:(nW xs k).isSome=aD
 ·rw[pC q,pC q];exact r.repl k ry
 ·rw[pE q,pE q];exact Paired.snoc r ⟨rfl,hb,ry⟩
theorem KT.keeps{H H':Hp}{oy:List (List YM×V)}{xs:List (List YM×aM×aJ)}(r:KT H oy xs)(ht:∀b ys,H b=aA (.tup ys)->H' b=aA (.tup ys)):KT H' oy xs:=
 Paired.mapP r λ_ _ z=>⟨z.1,ht _ _ z.2.1,z.2.2⟩
section
variable {P:bE} {w:bg} {H:Hp} {h:bw} {a:aM}
theorem DV{u:HO}(ok:HOk P w H h)(e:Rd H a u):ObjOk P w H h a u:=e.ok ok
theorem K3{oy:List (YM×V)}(ok:HOk P w H h)(e:Rd H a (.dK oy)):oy.length<=sizeLine/\(a==fM)=aC/\∃vs,KV oy vs/\h.DictOf (YT P w) a vs:=
 show ObjOk P w H h a (.dK oy) from DV ok e
theorem Aj{oy:List (YM×V)}(ok:HOk P w H h)(e:H a=aA (.dK oy)):oy.length<=sizeLine/\(a==fM)=aC/\∃vs,KV oy vs/\h.DictOf (YT P w) a vs:=K3 ok (.inl e)
theorem ON{ks:List YM}(ok:HOk P w H h)(e:H a=aA (.tup (ks.map kV))):(kJ (YT P w)).is h ks a:=by obtain⟨_,pA,r,o,h1,h2,n,h3⟩:=(show ObjOk P w H h a (.tup (ks.map kV)) from ok a _ e);exact⟨o,pA.toArray,n,h1,h2,h3,by simpa using P5 r⟩
theorem K4{oy:List (List YM×V)}(ok:HOk P w H h)(e:Rd H a (.dT oy)):oy.length<=sizeLine/\(a==fM)=aC/\
  ∃xs,KT H oy xs/\h.DictOfH (kJ (YT P w)) a xs:=by
 obtain⟨z,y,xs,r,o,es,ep,h1,h2,h3,h4,h5⟩:=(show ObjOk P w H h a (.dT oy) from DV ok e);refine⟨z,y,xs,r,o,es,ep,h1,h2,h3,h4,λx hx=>?_,h5⟩
 have all:∀{l:List (List YM×V)}{m:List (List YM×aM×aJ)},KT H l m->∀x∈m,(kJ (YT P w)).is h x.1 x.2.1:=by
  intro l m q
  induction q with
  | nil=>intro x hx;exact nomatch hx
  | @cons p q ps qs hq t ih=>
   intro x hx;rcases a9.mp hx with e | hx
   ·subst e;exact ON ok (by rw[<-hq.1];exact hq.2.1)
   ·exact ih x hx
 exact all r x hx
theorem Ak{oy:List (List YM×V)}(ok:HOk P w H h)(e:H a=aA (.dT oy)):oy.length<=sizeLine/\(a==fM)=aC/\
  ∃xs,KT H oy xs/\h.DictOfH (kJ (YT P w)) a xs:=K4 ok (.inl e)
end
def J9(H:Hp)(a:aM)(y:V)(r:Option V):Prop:=
 (∃oy k,Rd H a (.dK oy)/\y=kV k/\r=Uw oy k)\/∃oy k b,Rd H a (.dT oy)/\y = .ref b/\H b=aA (.tup (k.map kV))/\r=Uw oy k
def Al(H:Hp)(a:aM)(y v:V)(H':Hp):Prop:=
 (∃oy k,H a=aA (.dK oy)/\y=kV k/\oy.length<sizeLine/\H'=upd H a (.dK (Vy oy k v)))\/
 ∃oy k b,H a=aA (.dT oy)/\y = .ref b/\H b=aA (.tup (k.map kV))/\oy.length<sizeLine/\H'=upd H a (.dT (Vy oy k v))
section
variable {X:Cx} {du:List (aM×dX)} {Z:St} {H:Hp} {s:aN} {a:aM} {y v:V} {u r:aJ} {o:Option V} {A:bc} {E:aJ->aN->Prop}
theorem Inv.big(I:Inv X du Z H s):fM<s.heap.objs.size:=by have h:bJ<s.heap.objs.size:=(I.mod.glob.keeps I.bk).lt;exact Nat.lt_trans (by decide) h
theorem Ia{Q:aJ->aN->Prop}(hu:A.units+1<fE)(I:Inv X du Z H s)(g:J9 H a y (aA v))(ry:RelV y u)(h:∀w' s',Inv X du Z H s'->RelV v w'->Q w' s') :
  ao (model X.prog X.w) A (k9 (.ref a) u) Q E s:=by
 rcases g with⟨oy,k,e,ey,l⟩ | ⟨oy,k,b,e,ey,eb,l⟩
 ·subst ey;obtain⟨z,hd,vs,rel,dd⟩:=K3 I.hok e;obtain⟨w',hw,Rz⟩:=RelO.some_of (v:=v) (o:=mD vs k) (by rw[l];exact rel.val k);exact wpAny_getItem_of (K2 ry) dd.mapOf hw (h w' _ (I.tok _) Rz)
 ·subst ey;cases (show u=b7 b from ry);obtain⟨z,hd,xs,rel,dd⟩:=K4 I.hok e;obtain⟨w',hw,Rz⟩:=RelO.some_of (v:=v) (o:=(nW xs k).map (·.2)) (by rw[l];exact rel.val k);obtain⟨p,hp,hp2⟩:=Option.map_eq_some_iff.mp hw;refine wpAny_getItem_heap (ja hu) (ON I.hok eb) dd hp ?_;rw[hp2];exact h w' _ (I.tok _) Rz
theorem Es{Q:aJ->aN->Prop}(hu:A.units+1<fE)(I:Inv X du Z H s)(g:J9 H a y o)(ry:RelV y u)(h:∀s',Inv X du Z H s'->Q (.bool (!o.isSome)) s') :
  ao (model X.prog X.w) A (cy .NotIn u (.ref a)) Q E s:=by
 rcases g with⟨oy,k,e,ey,l⟩ | ⟨oy,k,b,e,ey,eb,l⟩
 ·subst ey;obtain⟨z,hd,vs,rel,dd⟩:=K3 I.hok e;refine wpAny_notIn_of (K2 ry) hd dd.mapOf ?_;rw[<-(rel.val k).isSome_eq,<-l];exact h _ (I.tok _)
 ·subst ey;cases (show u=b7 b from ry);obtain⟨z,hd,xs,rel,dd⟩:=K4 I.hok e;refine wpAny_notIn_heap (ja hu) (ON I.hok eb) hd dd ?_;have q:=(rel.val k).isSome_eq;rw[mz] at q;rw[<-q,<-l];exact h _ (I.tok _)
theorem K5{h':bw}{t':Nat}{ob:HO}(I:Inv X du Z H s)(mu:Vx (H a))(hs:gD a s.heap h')(he:∃q,h'.get? a=aA q)(new:ObjOk X.prog X.w (upd H a ob) h' a ob) :
  Inv X du Z (upd H a ob) { s with heap:=h',toks:=t' }:=
 I.write (x:=a) (e:=a) mu (.inl rfl) (λb q hb z=>(hs.2 b hb).trans z) he new
theorem CT{P:bE}{w:bg}{H':Hp}{h':bw}{oy:List (YM×V)}{vs:List (YM×aJ)}(z:oy.length<=sizeLine)(hd:(a==fM)=aC)(rel:KV oy vs)(dd:h'.DictOf (YT P w) a vs) :
  ObjOk P w H' h' a (.dK oy):=⟨z,hd,vs,rel,dd⟩
theorem Ib{H':Hp}{Q:Unit->aN->Prop}(hu:A.units+1<fE)(I:Inv X du Z H s)(g:Al H a y v H')(ry:RelV y u)(rv:RelV v r)(h:∀s',Inv X du Z H' s'->Q () s') :
  ao (model X.prog X.w) A (setItem (.ref a) u r) Q E s:=by
 rcases g with⟨oy,k,e,ey,l,eH⟩ | ⟨oy,k,b,e,ey,eb,l,eH⟩
 ·subst ey eH;obtain⟨z,hd,vs,rel,dd⟩:=Aj I.hok e;have hz:vs.length<=sizeLine:=by rw[<-rel.length];exact z
  have hl:(Vy oy k v).length<=sizeLine:=by have:=RG oy k v;omega
  refine wpAny_setItem_pairs (hsz:=hz) (K2 ry) dd λh' dd' hs=>h _ ?_;have he:∃q,h'.get? a=aA q:=let⟨q,_,_,hq,_⟩:=dd';⟨q,hq⟩;exact K5 I (by rw[e];exact cE) hs he (CT hl hd (rel.put k rv) dd')
 ·subst ey eH;cases (show u=b7 b from ry);obtain⟨z,hd,xs,rel,dd⟩:=Ak I.hok e;have hz:xs.length<=sizeLine:=by rw[<-Paired.length rel];exact z
  have hl:(Vy oy k v).length<=sizeLine:=by have:=RG oy k v;omega
  refine wpAny_setItem_heap (hsz:=hz) (ja hu) (ON I.hok eb) dd λh' dd' hs=>h _ ?_;obtain⟨q,es,ep,hq,h2,h3,h4,_,h5⟩:=dd';refine K5 I (by rw[e];exact cE) hs ⟨q,hq⟩ ⟨hl,hd,_,(rel.put k eb rv).keeps λc ys ec=>?_,q,es,ep,hq,h2,h3,h4,h5⟩;rw[upd_ne (BS ec e (λz=>nomatch z))];exact ec
end
def CU(i:bK):Prop:=∀ov iv,subscripted i aC ov iv=operate [ov,iv] (k9 ov iv)
theorem Et{prog:bE}{w:bg}{A:bc}{E:aJ->aN->Prop}{s:aN}{env:lP}{value slice:bK}{pos:fN}{T id:String}{Q:aJ->aN->Prop}
  (hl:typeLookup (.type T) "__getitem__" = pure (aA (.builtin id))) (hs:CU slice)
  (h:ao (model prog w) A (eval value env) (λo s₁=>ao (model prog w) A (eval slice env) (λi s₂=>s₂.TypeIs o T/\ao (model prog w) A (k9 o i) Q E s₂) E s₁) E s) :
  ao (model prog w) A (eval (.Subscript value slice pos) env) Q E s:=by
 refine oF (cH h (λo s₁ h₁=>cH h₁ (λi s₂ h₂=>?_) λ_ _ x=>x) λ_ _ x=>x);obtain⟨hT,h₂⟩:=h₂;unfold mQ;refine aF ?_;rw[getitemInPython_of_ne hT.not_modules];refine aF (wpAny_specialOf hT hl ?_);have fin:ao (model prog w) A (subscripted slice aC o i) (λr s₃=>ao (model prog w) A (letTemporaryGo value o r >>= λ_=>pure r) Q E s₃) E s₂:=by rw[hs o i];exact wpAny_operating (cH h₂ (λr s₃ h₃=>aF (wpAny_letTemporaryGo (aP h₃))) λ_ _ x=>x)
 first
  | exact aP (aF fin)
  | exact aF (aP (aF fin))
  | exact aF fin
theorem NP{X:Cx}{du:List (aM×dX)}{Z:St}{H:Hp}{s:aN}{a:aM}{y:V}{o:Option V}(I:Inv X du Z H s)(g:J9 H a y o):s.TypeIs (.ref a) "dict":=by
 rcases g with⟨oy,k,e,_,_⟩ | ⟨oy,k,b,e,_,_,_⟩
 ·obtain⟨_,_,vs,_,dd⟩:=K3 I.hok e;exact dd.typeIs
 ·obtain⟨_,_,xs,_,dd⟩:=K4 I.hok e;exact dd.typeIs
def DW(td ty:TE):TE:=λZ H Q=>td Z H λx H1=>ty Z H1 λy H2=>∃a v,x = .ref a/\J9 H2 a y (aA v)/\Q v H2
def K6(ty td:TE):TE:=λZ H Q=>ty Z H λy H1=>td Z H1 λx H2=>∃a o,x = .ref a/\J9 H2 a y o/\Q (.bl (!o.isSome)) H2
def sDPut(td ty tv:TE):TS:=λD Z H=>tv Z H λv H1=>td Z H1 λx H2=>ty Z H2 λy H3=>∃a H4,x = .ref a/\Al H3 a y v H4/\D.nx Z H4
section
variable {X:Cx} {o i e value:bK} {pos pos' tpos:fN} {td ty tv:TE}
theorem Eu(hu:X.A.units+1<fE)(ho:PE X o td)(hi:PE X i ty)(hs:CU i):PE X (.Subscript o i pos) (DW td ty):=by intro du s Z H Q I h;refine Et PySem.F.slot_dict_getitem.lookup hs (Yo (ho du s Z H _ I h) λu s1 ⟨x,H1,I1,rx,q1⟩=>Yo (hi du s1 Z H1 _ I1 q1) λiv s2 ⟨y,H2,I2,ry,a,v,ex,g,q2⟩=>?_);subst ex;obtain rfl:u=b7 a:=rx;exact⟨NP I2 g,Ia hu I2 g ry λw' s3 I3 Rz=>⟨v,H2,I3,Rz,q2⟩⟩
theorem Ic(hu:X.A.units+1<fE)(hi:PE X i ty)(ho:PE X o td):PC X .NotIn i o (K6 ty td):=by intro du s Z H Q I h;refine Yo (hi du s Z H _ I h) λiv s1 ⟨y,H1,I1,ry,q1⟩=>Yo (ho du s1 Z H1 _ I1 q1) λu s2 ⟨x,H2,I2,rx,a,ov,ex,g,q2⟩=>?_;subst ex;obtain rfl:u=b7 a:=rx;exact Es hu I2 g ry λs3 I3=>⟨.bl (!ov.isSome),H2,I3,rfl,q2⟩
theorem RZ(hu:X.A.units+1<fE)(ho:PE X o td)(hi:PE X i ty)(hv:PE X value tv)(hs:g8 value (aA (.Subscript o i pos')) pos.line X.env=pure aC) :
  PS X (.Assign [.Subscript o i pos'] value pos) (sDPut td ty tv):=by
 intro du s Z H D I h;refine wpAny_Assign_Subscript (Yo (hv du s Z H _ I h) λr s1 ⟨v,H1,I1,rv,q1⟩=>Yo (ho du s1 Z H1 _ I1 q1) λu s2 ⟨x,H2,I2,rx,q2⟩=>Yo (hi du s2 Z H2 _ I2 q2) λiv s3 ⟨y,H3,I3,ry,a,H4,ex,g,q3⟩=>?_) hs;subst ex;obtain rfl:u=b7 a:=rx;exact Ib hu I3 g ry rv λs4 I4=>⟨Z,H4,I4,q3⟩
end
theorem Gh{P:bE}{w:bg}{H:Hp}(h:bw)(hb:fM<h.objs.size):ObjOk P w H (h.push { cls:=.type "dict",data:=.dict #[] }) h.objs.size (.dT []):=
 ⟨gA _,beq_eq_false_iff_ne.mpr (cY (bH hb)),[],.nil,_,#[],0,aj _ rfl,⟨rfl,rfl,rfl⟩,rfl,rfl,cM⟩
def CV:TE:=λ_ H Q=>∀p,H p=aB->Q (.ref p) (upd H p (.dT []))
section
variable {X:Cx} {pos:fN}
theorem Gi:PE X (.Dict [] [] pos) CV:=λdu s Z H Q I h=>
 wpAny_Dict_empty ⟨.ref s.heap.objs.size,_,I.laid (a:=s.heap.objs.size) (o:=.dT []) (t':=s.toks) (λ_ _ q=>aO _ q) (af _) (Gh s.heap I.big),rfl,h _ (I.hok.fresh (af _))⟩
end
theorem P6:∀{vs:List aJ}{ns:List Int},ig vs ns->Vals (ns.map V.int) vs
 | _,_,.nil=>.nil
 | _,_,.cons n t h=>.cons ⟨t,rfl⟩ (P6 h)
def XY(s:cO):mC:=match s with
 | .FunctionDef _ a _ _ _ _ _ _ _ _=>a
 | _=>{ posonlyargs:=[],args:=[],vararg:=aB,kwonlyargs:=[],kw_defaults:=[],kwarg:=aB,defaults:=[] }
def YV(s:cO):List cO:=match s with
 | .FunctionDef _ _ b _ _ _ _ _ _ _=>b
 | _=>[]
def Zm(s:cO):gk:=match s with
 | .FunctionDef _ _ _ _ _ _ sc _ _ _=>sc
 | _=>{ kind:=.function,names:=[],isGenerator:=aC,isCoroutine:=aC }
abbrev Lk:Ei:=λ_ _ _ _ _ _=>False
abbrev E0:XK:=λ_ _ _=>False
theorem Am{X:Cx}:Lg Lk X E0:=λ_ _ _ _ _ _ _ h=>h.elim
structure Fun(K:aI)(x qual:ah)(st:cO)(f:aM)(fd:fX):Prop where
 ex:∃(oc:aJ) (od:Option aM) (kV doc pm:aJ) (an:Option aM) (cdv ct:aJ) (osl:Array (Option aJ)),
  fd=dw x qual (XY st) (YV st) (Zm st) .none kV doc pm an cdv ct/\K.lookup f=aA ⟨oc,od,.func fd,osl⟩/\dY K cdv qual=aD
 kp:gX K (.ref f)=aD
section
variable {P:bE} {w:bg} {K:aI} {mg:ah->Option aJ} {base:bw}
theorem Fun.ok{x qual:ah}{st:cO}{f:aM}{fd:fX}{N ps:List ah}{k:Nat}{sp:Sp}(F:Fun K x qual st f fd)(S:Zz N ps (Zm st))(len:∀vs H Q E,sp vs H Q E->vs.length=ps.length)
  (hbody:∀(cdv:aJ)(A:bc)(outer:List lP)(s:aN)(H:Hp)(vs:List V)(Q:VK)(E:XK),Room k (A.deeper (jL qual (Zm st) s.heap.objs.size f cdv))->sp vs H Q E->
   ∃t,PSs (Qe Lk P w K mg base N qual (Zm st) f cdv A outer s H E).nox (YV st) t/\t { nx:=λ_ H'=>Q .non H',rt:=Q } (start N vs) H):SV P w K mg base Lk (k+1) f fd ps sp:=by
 obtain⟨oc,od,kV,doc,pm,an,cdv,ct,osl,rfl,lk,hcd⟩:=F.ex;refine DU lk hcd S len λA outer s H vs Q E hr hsp=>?_;obtain⟨t,h,q⟩:=hbody cdv A outer s H vs Q E hr hsp;exact⟨t,h.nox,q⟩
theorem Fun.binds{x qual:ah}{st:cO}{f:aM}{fd:fX}{ps:List ah}(F:Fun K x qual st f fd)
  (h:∀(kV doc pm:aJ)(an:Option aM)(cdv ct:aJ)(us:List aJ),us.length=ps.length->kN (dw x qual (XY st) (YV st) (Zm st) .none kV doc pm an cdv ct) ⟨us,[]⟩=pure (ps.zip us)):Binds K fd ps []:=by
 obtain⟨oc,od,kV,doc,pm,an,cdv,ct,osl,rfl,lk,hcd⟩:=F.ex;exact .all (h kV doc pm an cdv ct)
theorem CW{x qual:ah}{st:cO}{f:aM}{oc:aJ}{od an:Option aM}{osl:Array (Option aJ)}{kV doc pm cdv ct:aJ}(l:K.lookup f=aA ⟨oc,od,.func (dw x qual (XY st) (YV st) (Zm st) .none kV doc pm an cdv ct),osl⟩)
  (c:dY K cdv qual=aD) (k:gX K (.ref f)=aD):Fun K x qual st f (dw x qual (XY st) (YV st) (Zm st) .none kV doc pm an cdv ct):=⟨⟨oc,od,kV,doc,pm,an,cdv,ct,osl,rfl,l,c⟩,k⟩
end
theorem RH{A:bc}{k:Nat}(hr:Room k A):A.units+1<fE:=m3 (mH (by decide:1<=64) _) hr.units
section
variable {X:Cx}
theorem pv(i:Nat){x:ah}{pos:fN}(hN:X.N[i]?=aA x:=by rfl)(hv:A5 X.env.scope x:=by first | exact ay rfl | exact iG (ay rfl) | exact iG (iG rfl))(hd:(x==("__debug__" : ah))=aC:=by decide)
  (hcd:(x==("__classdict__" : ah))=aC:=by decide):PE X (.Name x pos) (Sb i):=HR hN hv hd hcd
end
theorem An{A B:Prop}(h:B):if aC=aD then A else B:=by rw[pE aw];exact h
theorem Ao{A B:Prop}(h:A):if aD=aD then A else B:=by rw[pC rfl];exact h
def Same(H H':Hp):Prop:=∀b o,H b=aA o->H' b=aA o
theorem Same.refl(H:Hp):Same H H:=λ_ _ h=>h
theorem Same.trans{H H1 H2:Hp}(a:Same H H1)(b:Same H1 H2):Same H H2:=λc o h=>b c o (a c o h)
theorem Same.free{H H':Hp}(e:Same H H'){l:aM}(h:H' l=ox):H l=ox:=by
 cases q:H l with
 | none=>rfl
 | some o=>
  rw[e l o q] at h;cases h
section
variable {κ:Type} [DecidableEq κ]
theorem Wl:∀{l:List κ}{k:κ},l.Nodup->¬k∈l->(l++[k]).Nodup
 | [],k,_,_=>by simp
 | a::r,k,h,hk=>by
  obtain⟨h1,h2⟩:=az.mp h;show(a::(r++[k])).Nodup;refine az.mpr ⟨λm=>?_,Wl h2 λm=>hk (a9.mpr (iG m))⟩;rcases aq.mp m with q | q
  ·exact h1 q
  ·exact hk (a9.mpr (ay (aQ.mp q).symm))
end
end L2
set_option maxHeartbeats 4000000
namespace L2
open PySem PySem.Spec PyProof.Rows
def Xt(cells:List (ah×aM)):List (ah×fY)->List (ah×aM)->List (ah×aM)
 | [],acc=>acc
 | (n,k)::r,acc=>Xt cells r (if(k==cK)=aD then(n,(cells.lookup n).getD 0)::acc else acc)
theorem Tt{env:lP}:∀(names:List (ah×fY))(acc:List (ah×aM)),(∀y∈names,y.2 = .free->(env.cells.lookup y.1).isSome=aD)->
  (forIn (m:=Sem) names acc λ(x:ah×fY) (cs:List (ah×aM))=>
   match x with
   | (name,kind)=>if(kind==cK)=aD then do
     let c <-cellOf env name
     pure (gL ((name,c)::cs))
    else pure (gL cs))=pure (Xt env.cells names acc)
 | [],acc,_=>rfl
 | (n,k)::r,acc,h=>by
  rw[List.forIn_cons];have ih:=λacc'=>Tt r acc' λy hy=>h y (aT _ hy)
  cases hk:(k==cK) with
  | true=>
   have hs:=h (n,k) ag (by simpa using hk);obtain⟨c,hc⟩:=cj.mp hs;have hc:env.cells.lookup n=aA c:=hc;have e1:cellOf env n=pure c:=by unfold cellOf;rw[hc]
   dsimp only
   rw[hk,pC rfl,e1];refine Eq.trans (ih ((n,c)::acc)) ?_;show _=pure (Xt env.cells r (if(k==cK)=aD then(n,(env.cells.lookup n).getD 0)::acc else acc));rw[pC hk,hc];rfl
  | false=>
   dsimp only
   rw[hk,pE aw];refine Eq.trans (ih acc) ?_;show _=pure (Xt env.cells r (if(k==cK)=aD then(n,(env.cells.lookup n).getD 0)::acc else acc));rw[pE (by rw[hk];exact aw)]
theorem Tu{scope:gk}{env:lP}(h:∀y∈scope.names,y.2 = .free->(env.cells.lookup y.1).isSome=aD):kd scope env=pure (Xt env.cells scope.names []):=by
 have e:=Tt (env:=env) scope.names [] h;unfold kd
 dsimp only
 rw[e];rfl
theorem SX{cells:List (ah×aM)}{x:ah}{c:aM}:∀(names:List (ah×fY))(acc:List (ah×aM)),(∀y∈names,y.2 = .free->(cells.lookup y.1).isSome=aD)->(acc.lookup x=aA c->cells.lookup x=aA c)->
  (Xt cells names acc).lookup x=aA c->cells.lookup x=aA c
 | [],_,_,h,e=>h e
 | (n,k)::r,acc,hf,h,e=>by
  refine SX r _ (λy hy=>hf y (aT _ hy)) ?_ e;intro q;by_cases hk:(k==cK)=aD
  ·rw[pC hk,b8] at q
   cases hx:x==n with
   | true=>
    rw[hx] at q;have exn:x=n:=by simpa using hx
    obtain⟨d,hd⟩:=cj.mp (hf (n,k) ag (by simpa using hk));have hd:cells.lookup n=aA d:=hd;rw[hd] at q;rw[exn,hd];exact q
   | false=>rw[hx] at q;exact h q
  ·rw[pE hk] at q;exact h q
theorem Qi{cells:List (ah×aM)}{x:ah}:∀(names:List (ah×fY))(acc:List (ah×aM)),(acc.lookup x).isSome=aD->((Xt cells names acc).lookup x).isSome=aD
 | [],_,h=>h
 | (n,k)::r,acc,h=>by
  refine Qi r _ ?_;split
  ·rw[b8];split<;>simp_all
  ·exact h
theorem SY{cells:List (ah×aM)}{x:ah}:∀(names:List (ah×fY))(acc:List (ah×aM)),(x,cK)∈names->((Xt cells names acc).lookup x).isSome=aD
 | (n,k)::r,acc,h=>by
  rcases a9.mp h with e | h
  ·cases e;refine Qi r _ ?_;rw[pC (by decide),b8];simp
  ·exact SY r _ h
structure CompScope(N:List ah)(around scope:gk)(own fr:List ah)(ix:List Nat):Prop where
 kind:scope.kind = .function
 nocell:∀y∈scope.names,y.2≠.cell
 names:∀y∈scope.names,y.2 = .local->scope.names.lookup y.1=aA .local
 frees:∀y∈scope.names,y.2 = .free->(around.names.lookup y.1=aA .cell\/around.names.lookup y.1=aA .free)
 slots:fr.map aA=ix.map (λi=>N[i]?)
 outs:∀x∈fr,(x,cK)∈scope.names
 apart:∀x∈fr,scope.names.lookup x≠aA .local
def ZR(X:Cx)(N':List ah)(scope:gk)(cl:List (ah×aM))(C:aM)(s:aN)(H:Hp)(ex:List aM):Cx:=
 { X with N:=N',s₀:=s,H₀:=H,env:=oH scope cl C X.env,outer:=X.stack,ex:=ex,fn:=λ_=>aC,pn:=[],xe:=λ_ _=>False }
def Yt(n:Nat)(ix:List Nat)(Z:St):St:=aK n aB++ix.map (λi=>(Z[i]?).join)
theorem WH{env:lP}{x:ah}:∀{names:List (ah×fY)}{k:fY},names.lookup x=aA k->
  (names.map λ(n,k)=>if(k==cK&&env.scope.kind==.function&&env.kindOf n==aA .cell) then(n,gM) else(n,k)).lookup x =
   aA (if(k==cK&&env.scope.kind==.function&&env.kindOf x==aA .cell)=aD then gM else k)
 | [],_,h=>by simp at h
 | (n,k')::r,k,h=>by
  show List.lookup x ((if(k'==cK&&env.scope.kind==.function&&env.kindOf n==aA .cell)=aD then(n,gM) else(n,k'))::_)=_
  cases hx:x==n with
  | true=>
   simp only[b8,hx] at h;cases h;have e:x=n:=by simpa using hx
   subst e;split
   ·simp[b8]
   ·simp[b8]
  | false=>
   simp only[b8,hx] at h;split
   ·simp only[b8,hx];exact WH h
   ·simp only[b8,hx];exact WH h
theorem VV{env:lP}{x:ah}:∀{names:List (ah×fY)}{k':fY},
  (names.map λ(n,k)=>if(k==cK&&env.scope.kind==.function&&env.kindOf n==aA .cell) then(n,gM) else(n,k)).lookup x=aA k'->∃k,names.lookup x=aA k
 | [],_,h=>by simp at h
 | (n,k0)::r,k',h=>by
  have h:List.lookup x ((if(k0==cK&&env.scope.kind==.function&&env.kindOf n==aA .cell)=aD then(n,gM) else(n,k0))::_)=aA k':=h
  cases hx:x==n with
  | true=>exact⟨k0,by simp[b8,hx]⟩
  | false=>
   have:∃k,r.lookup x=aA k:=by
    apply VV (env:=env) (k':=k');split at h<;>simpa [b8,hx] using h
   obtain⟨k,e⟩:=this;exact⟨k,by simp[b8,hx,e]⟩
section
variable {X:Cx} {du:List (aM×dX)} {Z:St} {H:Hp} {s:aN} {own fr:List ah} {ix:List Nat} {scope:gk}
theorem CompScope.clos(S:CompScope X.N X.env.scope scope own fr ix)(I:Inv X du Z H s):∀y∈scope.names,y.2 = .free->(X.env.cells.lookup y.1).isSome=aD:=λy hy hf=>by obtain⟨c,e⟩:=I.ok.has y.1 (S.frees y hy hf);rw[e];rfl
end
theorem OO{prog:bE}{w:bg}{A:bc}{R:om->aN->Prop}{s:aN}{elt target iter:bK}{ifs:List bK}{scope:gk}{pos:fN}{it acc:aJ}{env:lP}(I:Nat->aN->Prop)
  (turn:∀n s,I n s->ao (model prog w) A (iB it) (λr s₁=>match r with
   | none=>R (.ok .next) s₁
   | some v=>ao (model prog w) A (jK target it v) (λ_ s₁'=>ao (model prog w) A (assign target env v) (λ_ s₂=>
     ao (model prog w) A (forIn ifs aD λc r=>if r=aD then do let ok <-mX c env (eval c env);pure (gL ok) else pure (gL r)) (λok s₃=>
      if ok=aD then ao (model prog w) A (eval elt env) (λx s₄=>
       ao (model prog w) A (call (.builtin "list.append") [acc,x]) (λ_ s₅=>∃m,m<n/\I m s₅) (mE (model prog w) A env λe s'=>R (.error e) s') s₄) (mE (model prog w) A env λe s'=>R (.error e) s') s₃
      else ∃m,m<n/\I m s₃) (mE (model prog w) A env λe s'=>R (.error e) s') s₂) (mE (model prog w) A env λe s'=>R (.error e) s') s₁') (mE (model prog w) A env λe s'=>R (.error e) s') s₁) (mE (model prog w) A env λe s'=>R (.error e) s') s)
  (n:Nat) (h:I n s) :
  gz (model prog w) A (.compLoop (.ListComp elt [⟨target,iter,ifs,0⟩] scope pos) 0 it acc env) R s:=by
 refine codeAny_loop rfl I (λn s hI=>?_) n h;show ao _ A ((compTurn (.ListComp elt [⟨target,iter,ifs,0⟩] scope pos) 0 it acc env).onRaise (λx=>do kQ x env;theTreesLotGoes x)) _ _ s;refine wpAny_noted ?_;rw[compTurn_list];refine aF (mO (aF (cH (turn n s hI) (λr s₁ h₁=>?_) λ_ _ h'=>h')))
 cases r with
 | none=>exact aP h₁
 | some v=>
  refine aF (cH h₁ (λ_ s₁' h₁'=>?_) λ_ _ h'=>h');refine aF (cH h₁' (λ_ s₂ h₂=>aF (cH h₂ (λok s₃ h₃=>?_) λ_ _ h'=>h')) λ_ _ h'=>h')
  cases ok with
  | false=>exact aP ⟨rfl,h₃⟩
  | true=>
   exact aF (aF (cH h₃ (λx s₄ h₄=>aF (cH h₄ (λ_ s₅ h₅=>aP (aP ⟨rfl,h₅⟩)) λ_ _ h'=>h')) λ_ _ h'=>h'))
def Gj(X:Cx)(ifs:List bK)(t:TT):Prop:=
 ∀(du:List (aM×dX))(s:aN)(Z:St)(H:Hp)(Q:Bool->Hp->Prop),Inv X du Z H s->t Z H Q->
  ao (model X.prog X.w) X.A (forIn ifs aD λc r=>if r=aD then do let ok <-mX c X.env (eval c X.env);pure (gL ok) else pure (gL r)) (TP X du Z Q) X.xe s
def Ap:TT:=λ_ H Q=>Q aD H
theorem Ew{X:Cx}:Gj X [] Ap:=λ_ _ _ H _ I h=>wpAny_tests_nil ⟨H,I,h⟩
theorem Ex{X:Cx}{c:bK}{t:TT}(h:PT X c t):Gj X [c] t:=λdu s Z H Q I hq=>wpAny_tests_one (h du s Z H Q I hq)
def Aq(n:Nat)(ix:List Nat)(g:TG)(tt:TT)(te:TE)(Z:St)(Q:VK)(J:It)(H1:Hp):Prop:=
 ∃W:Nat->Nat->List V->Hp->Prop,(∃m,W 0 m [] H1)/\∀i m ys H,W i m ys H->ys.length<=sizeLine/\
  ((J.stop i H/\∀p,H p=aB->Q (.ref p) (upd H p (.lst ys)))\/
   (J.go i H/\∃N:List V->Hp->Prop,(∀ys' H',N ys' H'->∃m',m'<m/\W (i+1) m' ys' H')/\
    ∀x H',J.yld i H x H'->g x (Yt n ix Z) H' λZ2 H2=>Z2.drop n=(Yt n ix Z).drop n/\tt Z2 H2 λb H3=>if b=aD then te Z2 H3 λy H4=>N (ys++[y]) H4 else N ys H3))
def P7(n:Nat)(ix:List Nat)(wi:TI)(g:TG)(tt:TT)(te:TE):TE:=λZ H Q=>wi Z H λJ H1=>Aq n ix g tt te Z Q J H1
theorem Ie{n:Nat}{ix:List Nat}{Z Z2:St}(hd:Z2.drop n=(Yt n ix Z).drop n):∀(i:Nat) v,(Yt n ix Z)[i]?=aA (aA v)->Z2[i]?=aA (aA v):=λi v e=>by
 by_cases hi:i<n
 ·unfold Yt at e;rw[bP (by simpa using hi),cI] at e;rw[pC hi] at e;cases e
 ·have q:=congrArg (λl=>l[i-n]?) hd;simp only[m4] at q;rw[show n+(i-n)=i by omega] at q;rw[q];exact e
section
variable {X:Cx} {tg elt iter:bK} {ifs:List bK} {scope:gk} {pos:fN} {own fr:List ah} {ix:List Nat} {wi:TI} {g:TG} {tt:TT} {te:TE}
theorem Gk{du:List (aM×dX)}{Z:St}{H2:Hp}{s2:aN}{fp:List aM}{h₁:bw}{tk:Nat}{C:aM}(S:CompScope X.N X.env.scope scope own fr ix)(I2:Inv X du Z H2 s2)(f2:∀b∈fp,RS X du H2 b)(hfp:∀b∈fp,b<s2.heap.objs.size)
  (hC:s2.heap.objs.size<=C) (hns:h₁.Ns C λ_=>aB) (old:∀b o,s2.heap.get? b=aA o->h₁.get? b=aA o) :
  Inv (ZR X (own++fr) scope (Xt X.env.cells scope.names []) C s2 H2 fp) [] (Yt own.length ix Z) H2 { s2 with heap:=h₁,toks:=tk }:=by
 have cs:=S.clos I2;have sub:∀x c,(Xt X.env.cells scope.names []).lookup x=aA c->X.env.cells.lookup x=aA c:=λx c e=>SX scope.names [] cs (λh=>by simp at h) e;have stk:=I2.stkSub
 have okk:(ZR X (own++fr) scope (Xt X.env.cells scope.names []) C s2 H2 fp).Ok:=by
  refine⟨I2.ok.mod,S.kind,I2.ok.glob,I2.ok.blt,hC,λx y c h1 h2=>I2.ok.inj x y c (sub x c h1) (sub y c h2),λx hx=>?_,λx c h _=>?_,I2.ok.hd,I2.ok.frames,.inl rfl,λb hb=>⟨?_,λx c e=>?_⟩,I2.bs,?_,λb o e hb=>?_,λb hb z=>?_,I2.stack,I2.stkFree,I2.ok.tab.un I2.base,λ_ z=>absurd rfl z⟩
  ·-- the cells of the block's free names
   have hx:(relabel scope X.env).names.lookup x=aA .cell\/(relabel scope X.env).names.lookup x=aA .free:=hx
   have key:(x,cK)∈scope.names:=by
    have:∃k',(relabel scope X.env).names.lookup x=aA k'/\(k' = .cell\/k' = .free):=by
     rcases hx with h | h
     ·exact⟨_,h,.inl rfl⟩
     ·exact⟨_,h,.inr rfl⟩
    obtain⟨k',e,hk'⟩:=this;obtain⟨k,e0⟩:=VV e;have e1:=WH (env:=X.env) e0;have e:(scope.names.map λ(n,k)=>if(k==cK&&X.env.scope.kind==.function&&X.env.kindOf n==aA .cell) then(n,gM) else(n,k)).lookup x=aA k':=e;rw[e1] at e;have m:=dJ e0
    cases k with
    | free=>exact m
    | cell=>exact absurd rfl (S.nocell _ m)
    | _=>simp at e;subst e;rcases hk' with z | z<;>cases z
   exact cj.mp (SY _ _ key)
  ·cases h
  ·-- fp differs from the frame
   exact bH (ar (hfp b hb) hC)
  ·exact(f2 b hb).2.2.2.2.1 x c (sub x c e)
  ·exact cu I2.ok.bsz I2.sz
  ·rcases(f2 b hb).2.2.2.1 with z | z
   ·exact I2.ok.noex b o e z
   ·exact absurd (ar (aW (I2.ok.bs b o e).1) z) (cU _)
  ·rcases a9.mp (stk b z) with e | e
   ·exact(f2 b hb).2.1 e
   ·exact(f2 b hb).2.2.1 e
 have sl:fr.length=ix.length:=by simpa using congrArg dj S.slots
 refine⟨okk,rfl,I2.bare,Un.kept old,⟨_,hns,λi x v h1 h2 h3=>?_⟩,λx c e=>?_,I2.hok.fresh hC,λx c e=>I2.freeC x c (sub x c e),λp hp=>absurd (show p∈([]:List (aM×dX)) from hp) (by simp),I2.hok.kept old,?_⟩
 ·-- a name of the def around
  have h1:(own++fr)[i]?=aA x:=h1;have hi:¬i<own.length:=λhi=>by unfold Yt at h2;rw[bP (by simpa using hi),cI,pC hi] at h2;cases h2
  rw[bX (by omega)] at h1;unfold Yt at h2;rw[bX (by simpa using hi),cN,aU] at h2
  cases ej:ix[i-own.length]? with
  | none=>rw[ej] at h2;cases h2
  | some j=>
   rw[ej] at h2;have h2:(Z[j]?).join=aA v:=by simpa using h2
   have h2:Z[j]?=aA (aA v):=by
    cases q:Z[j]? with
    | none=>rw[q] at h2;cases h2
    | some z=>rw[q] at h2;exact congrArg aA h2
   have hN:X.N[j]?=aA x:=by have q:=congrArg (λl=>l[i-own.length]?) S.slots;simp only[aU,h1,ej,bF] at q;exact(bB q).symm
   have hm:=S.outs x (bN h1);have hk:=S.frees _ hm rfl;have hk:X.env.scope.names.lookup x=aA .cell\/X.env.scope.names.lookup x=aA .free:=hk;obtain⟨m,hn,hl⟩:=I2.loc;obtain⟨u,r,l⟩:=hl j x v hN h2 (by rcases hk with k | k;exact .inr (.inl k);exact .inr (.inr k));refine⟨u,r,?_⟩;rcases l with⟨k,_⟩ | ⟨_,c,hc,hcell⟩
   ·have k:X.env.scope.names.lookup x=aA .local:=k;rcases hk with q | q<;>rw[k] at q<;>cases q
   ·obtain⟨c',hc'⟩:=cj.mp (SY (cells:=X.env.cells) _ [] hm);have ec:=sub x c' hc';rw[hc] at ec;cases ec;refine .inr ⟨?_,c,hc',?_⟩
    ·have h3:(relabel scope X.env).names.lookup x=aA .local\/(relabel scope X.env).names.lookup x=aA .cell\/(relabel scope X.env).names.lookup x=aA .free:=h3;rcases h3 with h3 | h3
     ·obtain⟨k0,e0⟩:=VV h3;have e1:=WH (env:=X.env) e0;have h3:(scope.names.map λ(n,k)=>if(k==cK&&X.env.scope.kind==.function&&X.env.kindOf n==aA .cell) then(n,gM) else(n,k)).lookup x=aA .local:=h3;rw[e1] at h3
      have k0l:k0 = .local:=by
       cases k0<;>simp at h3 ⊢
       split at h3<;>cases h3
      subst k0l;exact absurd e0 (S.apart x (bN h1))
     ·exact h3
    ·obtain⟨o,ho,hd⟩:=hcell;exact⟨o,old _ _ ho,hd⟩
 ·obtain⟨v,o,ho,hd⟩:=I2.cell x c (sub x c e);exact⟨v,o,old _ _ ho,hd⟩
 ·show(Yt own.length ix Z).length=(own++fr).length;unfold Yt;rw[aY,cN,aH,aY,sl]
theorem Qj{du:List (aM×dX)}{Z:St}{H2:Hp}{s2:aN}{fp:List aM}{it:aM}{tn:Nat->bw->Prop}{J:It}{Fin:List V->Hp->Prop}{RR:aJ->aM->om->aN->Prop}{E:aJ->aN->Prop}
  (hcalm:X.calm=aD) (S:CompScope X.N X.env.scope scope own fr ix)
  (hg:∀cl C s H ex,PG (ZR X (own++fr) scope cl C s H ex) tg g) (ht:∀cl C s H ex,Gj (ZR X (own++fr) scope cl C s H ex) ifs tt) (he:∀cl C s H ex,PE (ZR X (own++fr) scope cl C s H ex) elt te)
  (I2:Inv X du Z H2 s2) (T:M9 X.prog X.w X.K tg J fp it tn) (st2:tn 0 s2.heap) (f2:∀b∈fp,RS X du H2 b)
  {W:Nat->Nat->List V->Hp->Prop} {m0:Nat} (w0:W 0 m0 [] H2)
  (turn:∀i m ys H,W i m ys H->ys.length<=sizeLine/\
   ((J.stop i H/\Fin ys H)\/
    (J.go i H/\∃N:List V->Hp->Prop,(∀ys' H',N ys' H'->∃m',m'<m/\W (i+1) m' ys' H')/\
     ∀x H',J.yld i H x H'->g x (Yt own.length ix Z) H' λZ2 H2=>Z2.drop own.length=(Yt own.length ix Z).drop own.length/\tt Z2 H2 λb H3=>if b=aD then te Z2 H3 λy H4=>N (ys++[y]) H4 else N ys H3)))
  (hRR:∀(D C:aM)(oC:dX)(m:ah->Option aJ)(s':aN)(H':Hp)(ys:List V),Inv X (du++[(C,oC)]) Z (upd H' D (.lst ys)) s'->s'.heap.get? C=aA oC->s'.heap.Ns C m->RS X du (upd H' D (.lst ys)) C->H' D=aB->Fin ys H'->RR (.ref D) C (.ok .next) s') :
  ao (model X.prog X.w) X.A (newList []) (λacc s₃=>ao (model X.prog X.w) X.A (newFunctionEnv scope X.env.globals (Xt X.env.cells scope.names []) [] X.env.qual aB .none (aA X.env)) (λcenv s₄=>
   gz (model X.prog X.w) X.A (.compStart (.ListComp elt [⟨tg,iter,ifs,0⟩] scope pos) 0 (.ref it) acc { cenv with scope:=relabel scope X.env }) (RR acc cenv.locals) s₄) E s₃) E s2:=by
 have hfp:∀b∈fp,b<s2.heap.objs.size:=λb hb=>by obtain⟨o,e,_⟩:=T.obj 0 s2.heap st2 b hb;exact aW e
 refine bh (lY S.nocell (by intro y hy;simp at hy) (λh₁ hns₁ hsb₁=>?_) S.kind)
 dsimp only at hns₁ hsb₁ ⊢
 generalize hH2:s2.heap.push { cls:=.type "list",dict:=aB,data:=.seq ([]:List aJ).toArray }=G2 at hns₁ hsb₁ ⊢;have hC:G2.objs.size=s2.heap.objs.size+1:=by rw[<-hH2,eV]
 generalize hCC:G2.objs.size=C at hns₁ hsb₁ hC ⊢;generalize hDD:s2.heap.objs.size=D at hC ⊢;have hDC:D≠C:=by omega
 have below:∀b,b<s2.heap.objs.size->b≠C/\b≠D:=λb hb=>by rw[hDD] at hb;exact⟨bH (by omega),bH hb⟩
 have old:∀b o,s2.heap.get? b=aA o->h₁.get? b=aA o:=λb o e=>hsb₁.extBut b o (below b (aW e)).1 (aO _ (hH2▸aO _ e))
 have hacc:h₁.get? D=aA { cls:=.type "list",data:=.seq ([]:List aJ).toArray 0 }:=by
  have e0:G2.get? D=aA { cls:=.type "list",data:=.seq ([]:List aJ).toArray 0 }:=by rw[<-hH2,<-hDD];exact aj _ rfl
  exact hsb₁.extBut _ _ hDC (aO _ e0)
 have hns₁':h₁.Ns C λ_=>aB:=by simpa using hns₁
 have I0:=λtk=>Gk (tk:=tk) S I2 f2 hfp (C:=C) (by omega) hns₁' old
 -- what stays aD of the iterator's objects in the block
 have loop:∀s₃:aN,s₃={ s2 with heap:=h₁,toks:=s2.toks+([]:List (ah×aJ)).length }->
   gz (model X.prog X.w) X.A (.compLoop (.ListComp elt [⟨tg,iter,ifs,0⟩] scope pos) 0 (.ref it) (.ref D) (oH scope (Xt X.env.cells scope.names []) C X.env)) (RR (.ref D) C) s₃:=by
  rintro s₃ rfl;generalize hY:ZR X (own++fr) scope (Xt X.env.cells scope.names []) C s2 H2 fp=Y at I0
  have stat:∀{H':Hp}{pn:List (aM×dX)},(∀b∈fp,H' b=aB)->(∀p∈pn,∀b∈fp,p.1≠b)->∀b∈fp,RS Y pn H' b:=λ{H' pn} hn hp b hb=>by
   subst hY;refine⟨hn b hb,(below b (hfp b hb)).1,λz=>?_,.inl hb,λx c e=>?_,λp hp'=>hp p hp' b hb⟩
   ·exact(I0 0).ok.exfs b hb z
   ·exact((I0 0).ok.exf b hb).2 x c e
  have dfp:∀b∈fp,D≠b:=λb hb=>cY (below b (hfp b hb)).2;have hcellD:∀x c,Y.env.cells.lookup x=aA c->c≠D:=λx c e z=>by subst hY;have e:(Xt X.env.cells scope.names []).lookup x=aA c:=e;have e':=SX scope.names [] (S.clos I2) (λh=>by simp at h) e;obtain⟨v,q⟩:=I2.cell x c e';exact(below c q.lt).2 z
  have hfsD:D∉Y.fs:=λz=>by subst hY;obtain⟨_,o,ho,_⟩:=(I0 0).ok.funs.mem z;have:=aW ho;have:D<s2.heap.objs.size:=this;omega
  have eL:Y.env.locals=C:=by subst hY;rfl
  have eS:Y.s₀=s2:=by subst hY;rfl
  have eP:Y.pn=[]:=by subst hY;rfl
  refine OO (λn s'=>∃i ys pA nn H',Inv Y [] (Yt own.length ix Z) H' s'/\tn i s'.heap/\(∀b∈fp,H' b=aB)/\s'.heap.get? D=aA { cls:=.type "list",data:=.seq pA nn }/\Vals ys pA.toList/\H' D=aB/\W i n ys H') ?_ m0
   ⟨0,[],#[],0,H2,I0 _,T.keep _ _ _ st2 λb _ o e=>old b o e,λb hb=>(f2 b hb).1,hacc,.nil,I2.hok.fresh (by omega),w0⟩
  rintro n s3 ⟨i,ys,pA,nn,H3,I3,st3,fr3,oD,vD,nD,w3⟩;obtain⟨hlen,cases3⟩:=turn i n ys H3 w3;have hsize:pA.size<=sizeLine:=by have:=vD.length;simp only[cJ] at this;omega
  have pD:Inv Y [(D,{ cls:=.type "list",data:=.seq pA nn })] (Yt own.length ix Z) H3 s3:=I3.pins_of λp hp=>by rw[aQ.mp hp];exact⟨oD,nD,by rw[eL];exact hDC,hfsD,λv z=>by cases z⟩
  have YP:Y.prog=X.prog:=by subst hY;rfl
  have Yw:Y.w=X.w:=by subst hY;rfl
  have YK:Y.K=X.K:=by subst hY;rfl
  have YA:Y.A=X.A:=by subst hY;rfl
  have Yx:Y.xe=λ_ _=>False:=by subst hY;rfl
  have Ye:Y.env=oH scope (Xt X.env.cells scope.names []) C X.env:=by subst hY;rfl
  have ne1:∀p∈[((D,{ cls:=.type "list",data:=.seq pA nn }):aM×dX)],∀b∈fp,p.1≠b:=λp hp b hb=>by rw[aQ.mp hp];exact dfp b hb
  rcases cases3 with⟨stop,qn⟩ | ⟨go,N,hN,step⟩
  ·have d:=T.done Y YP Yw YK (by subst hY;exact hcalm) i _ s3 _ H3 (mE (model X.prog X.w) X.A (oH scope (Xt X.env.cells scope.names []) C X.env) λe s'=>RR (.ref D) C (.error e) s') pD (stat fr3 ne1) st3 stop;rw[YA] at d;refine Yo d λr s4 ⟨hr,I4⟩=>?_;subst hr;show RR (.ref D) C (.ok .next) s4;obtain⟨oD4,nD4,_⟩:=I4.pin (D,_) (by rw[eP];exact ag);obtain⟨m,hn,_⟩:=I4.loc;rw[eL] at hn;obtain⟨oC,es,ep,hoC,hdC,hrest⟩:=id hn;have hfreeC:H3 C=aB:=by have:=I4.free;rw[eL] at this;exact this
   have un:Un (OH X.stack) fp H2 H3 s2.heap s4.heap:=by have:=I4.base;subst hY;exact this
   have lt2:∀b o,s2.heap.get? b=aA o->b≠D:=λb o e=>(below b (aW e)).2
   have un':Un (OH X.stack) fp H2 (upd H3 D (.lst ys)) s2.heap s4.heap:=by
    refine⟨un.keep,un.slot,λb o e n hx=>?_,un.there,λb xs e=>?_,λb o u e=>?_,λb ps e=>?_⟩
    ·rw[upd_ne (lt2 b o e)];exact un.free b o e n hx
    ·have q:=un.tups b xs e;rw[upd_ne (Zp q nD4)];exact q
    ·have q:=un.frzs b o u e;rw[upd_ne (Zp q nD4)];exact q
    ·obtain⟨more,q⟩:=un.tbls b ps e;exact⟨more,by rw[upd_ne (Zp q nD4)];exact q⟩
   have hok4:HOk X.prog X.w H3 s4.heap:=by have:=I4.hok;rw[YP,Yw] at this;exact this
   have hok':HOk X.prog X.w (upd H3 D (.lst ys)) s4.heap:=λb u q=>by
    by_cases hb:b=D
    ·subst hb;rw[upd_same] at q;cases q;exact⟨hlen,pA.toList,nn,vD,by simpa using oD4⟩
    ·rw[upd_ne hb] at q;exact(hok4 b u q).stay (λc v _ z=>z) (λc z=>by rw[upd_ne (Zp z nD4)];exact z) (λc xs z=>by rw[upd_ne (Zp z nD4)];exact z) λc u z=>by rw[upd_ne (Zp z nD4)];exact z
   have os4:s4.os=s2.os:=by rw[I4.os,eS]
   have I5:Inv X du Z (upd H3 D (.lst ys)) s4:=I2.call' os4 un' hok' I4.bare λb hb=>⟨(f2 b hb).2.2.2.1,(f2 b hb).2.1,(f2 b hb).2.2.2.2.1,(f2 b hb).2.2.2.2.2⟩;have CL:C≠X.env.locals:=λz=>by exact(below _ I2.lt).1 z.symm
   have fpC:RS X du (upd H3 D (.lst ys)) C:=I2.fpOk (by omega) (by rw[upd_ne (cY hDC)];exact hfreeC);refine hRR D C oC m s4 H3 ys (I5.pins_of λp hp=>?_) hoC hn fpC nD4 qn;rcases aq.mp hp with z | z
   ·exact I5.pin p (au _ z)
   ·rw[aQ.mp z];exact⟨hoC,fpC.1,fpC.2.1,fpC.2.2.1,λv z=>by rw[hdC] at z;cases z⟩
  ·have d:=T.item Y YP Yw YK (by subst hY;exact hcalm) i _ s3 _ H3 (λ_ _=>False) pD (stat fr3 ne1) st3 go;rw[YA] at d;refine cH d (λr s4 ⟨u,hr,h4⟩=>?_) λ_ _ z=>z.elim;subst hr;refine cH h4 (λ_ s5 ⟨x,H5,I5,r5,y5,st5,fr5⟩=>?_) λ_ _ z=>z.elim;have I5':=I5.pinned (stat fr5 ne1) (T.obj _ _ st5);have hg':=hg (Xt X.env.cells scope.names []) C s2 H2 fp;have ht':=ht (Xt X.env.cells scope.names []) C s2 H2 fp;have he':=he (Xt X.env.cells scope.names []) C s2 H2 fp;rw[hY] at hg' ht' he';have a6:=hg' _ s5 _ H5 x u _ I5' r5 (step x H5 y5);rw[YP,Yw,YA,Ye,Yx] at a6;refine cH a6 (λ_ s6 ⟨Z6,H6,I6,dr,q6⟩=>?_) λ_ _ z=>z.elim;have a7:=ht' _ s6 Z6 H6 _ I6 q6;rw[YP,Yw,YA,Ye,Yx] at a7;refine cH a7 (λok s7 ⟨H7,I7,q7⟩=>?_) λ_ _ z=>z.elim
   have back:∀{H8:Hp}{s8:aN},Inv Y ([((D,{ cls:=.type "list",data:=.seq pA nn }):aM×dX)]++SQ fp s5.heap) Z6 H8 s8->
     s8.heap.get? D=aA { cls:=.type "list",data:=.seq pA nn }/\H8 D=aB/\tn (i+1) s8.heap/\(∀b∈fp,H8 b=aB):=λ{H8 s8} I8=>by
    obtain⟨e1,e2,_⟩:=I8.pin (D,{ cls:=.type "list",data:=.seq pA nn }) (by rw[eP];exact ag);refine⟨e1,e2,T.keep _ _ _ st5 λb hb o e=>(I8.pin (b,o) (by rw[eP];exact aT _ (VU hb e))).1,λb hb=>?_⟩;obtain⟨o,e,_⟩:=T.obj _ _ st5 b hb;exact(I8.pin (b,o) (by rw[eP];exact aT _ (VU hb e))).2.1
   have unp:∀{H8:Hp}{s8:aN},Inv Y ([((D,{ cls:=.type "list",data:=.seq pA nn }):aM×dX)]++SQ fp s5.heap) Z6 H8 s8->Inv Y [] (Yt own.length ix Z) H8 s8:=λ{H8 s8} I8=>
    (I8.pins_of (pins':=[]) λp hp=>absurd hp (by simp)).weak (by
     have e1:=(I0 0).len;have e2:=I8.len;rw[e1,e2]) (Ie dr)
   cases ok with
   | false=>
    rw[pE aw] at q7;show ∃m,m<n/\_;obtain⟨e1,e2,e3,e4⟩:=back I7;obtain⟨m',hm,w7⟩:=hN _ _ q7;exact⟨m',hm,i+1,ys,pA,nn,H7,unp I7,e3,e4,e1,vD,e2,w7⟩
   | true=>
    rw[pC rfl] at q7;show ao _ _ _ _ _ _;have a8:=he' _ s7 Z6 H7 _ I7 q7;rw[YP,Yw,YA,Ye,Yx] at a8;refine cH a8 (λyv s8 ⟨y,H8,I8,ry,q8⟩=>?_) λ_ _ z=>z.elim;obtain⟨e1,e2,e3,e4⟩:=back I8;obtain⟨m',hm,w8⟩:=hN _ _ q8;refine append_at e1 (λh9 hs9 hD9=>?_) hsize;have I9:Inv Y [] (Yt own.length ix Z) H8 { s8 with heap:=h9 }:=(unp I8).turned (t':=s8.toks) (it:=D) (λb o hb e=>hs9.extBut b o hb e) e2 (by rw[eL];exact hDC) (.inr (by rw[eS];omega)) hcellD (λp hp=>absurd (show p∈([]:List (aM×dX)) by rw[eP] at hp;exact hp) (by simp));refine⟨m',hm,i+1,ys++[y],pA.push yv,nn+1,H8,I9,T.keep _ _ _ e3 λb hb o e=>hs9.extBut b o (cY (dfp b hb)) e,e4,hD9,?_,e2,w8⟩;rw[iN];exact vD.append (.cons ry .nil)
 exact codeAny_compStart_list (loop _ rfl) (T.self X.A 0 _ _ _ (T.keep _ _ _ st2 λb _ o e=>old b o e) (loop _ rfl))
theorem Ey(hcalm:X.calm=aD)(hi:PI X tg iter wi)(S:CompScope X.N X.env.scope scope own fr ix)
  (hg:∀cl C s H ex,PG (ZR X (own++fr) scope cl C s H ex) tg g) (ht:∀cl C s H ex,Gj (ZR X (own++fr) scope cl C s H ex) ifs tt) (he:∀cl C s H ex,PE (ZR X (own++fr) scope cl C s H ex) elt te)
  (hs:∀x,dM iter X.env x=pure x:=by intro _;rfl):PE X (.ListComp elt [⟨tg,iter,ifs,0⟩] scope pos) (P7 own.length ix wi g tt te):=by
 intro du s Z H Q I h;rw[eval_ListComp];refine jw (use:=aB) (cl:=Xt X.env.cells scope.names []) rfl hs (Tu (S.clos I)) S.kind S.names (Yo (hi du s Z H _ I h) λv s1 h1=>Yo h1 λitv s2 h2=>?_);obtain⟨it,fp,tn,J,H2,e,I2,T,st2,f2,W,⟨m0,w0⟩,turn⟩:=h2;subst e;refine Qj (Fin:=λys H=>∀p,H p=aB->Q (.ref p) (upd H p (.lst ys))) (RR:=λacc C=>compPost (model X.prog X.w) X.A X.xe aB (EP X du Z Q) acc C) hcalm S hg ht he I2 T st2 f2 w0 turn ?_;intro D C oC m s' H' ys I5 hoC hn fpC nD fin;refine⟨m,hn,λh' hs'=>⟨.ref D,upd H' D (.lst ys),?_,rfl,fin D nD⟩⟩;exact(I5.unpinned (pl:=[(C,oC)])).turned (t':=s'.toks) (it:=C) (λb o hb e=>hs'.extBut b o hb e) fpC.1 fpC.2.1 fpC.2.2.2.1 fpC.2.2.2.2.1 fpC.2.2.2.2.2
theorem Ez{i:Nat}{y:ah}{py spos:fN}(hN:X.N.Nodup)(hy:X.N[i]?=aA y)(hloc:X.env.scope.names.lookup y=aA .local)(hcalm:X.calm=aD)(hi:PI X tg iter wi)(S:CompScope X.N X.env.scope scope own fr ix)
  (hg:∀cl C s H ex,PG (ZR X (own++fr) scope cl C s H ex) tg g) (ht:∀cl C s H ex,Gj (ZR X (own++fr) scope cl C s H ex) ifs tt) (he:∀cl C s H ex,PE (ZR X (own++fr) scope cl C s H ex) elt te)
  (hsw:g8 (.ListComp elt [⟨tg,iter,ifs,0⟩] scope pos) (aA (.Name y py)) spos.line X.env=pure aD:=by rfl)
  (hs:∀x,dM iter X.env x=pure x:=by intro _;rfl):PS X (.Assign [.Name y py] (.ListComp elt [⟨tg,iter,ifs,0⟩] scope pos) spos) (M8 (P7 own.length ix wi g tt te) (RD i)):=by
 intro du s Z H D0 I h;rw[exec_Assign_Name_used _ _ _ _ hsw];refine aF (mO (aF ?_));show ao _ X.A (do let _ <-comprehension (.ListComp elt [⟨tg,iter,ifs,0⟩] scope pos) scope X.env _ (newList []) aC (eval iter X.env) (aA (assign (.Name y py) X.env))) _ _ s
 refine aF (cH (jw (cl:=Xt X.env.cells scope.names []) (use:=aA (assign (.Name y py) X.env)) (Q:=λ_ s'=>SP X du D0 .next s') (E:=X.xe) rfl hs (Tu (S.clos I)) S.kind S.names
  (Yo (hi du s Z H _ I h) λv s1 h1=>Yo h1 λitv s2 h2=>?_)) (λ_ s' hq=>aP (aP hq)) λ_ _ e=>e)
 obtain⟨it,fp,tn,J,H2,e,I2,T,st2,f2,W,⟨m0,w0⟩,turn⟩:=h2;subst e;refine Qj (Fin:=λys H=>∀p,H p=aB->RD i (.ref p) Z (upd H p (.lst ys)) D0.nx) (RR:=λacc C=>compPost (model X.prog X.w) X.A X.xe (aA (assign (.Name y py) X.env)) (λ_ s'=>SP X du D0 .next s') acc C) hcalm S hg ht he I2 T st2 f2 w0 turn ?_;intro D C oC m s' H' ys I5 hoC hn fpC nD fin;show ao _ X.A (assign (.Name y py) X.env (.ref D)) _ _ _;refine wpAny_assign_Name (Ut I5 hN hy (.inl hloc) (v:=.ref D) rfl (λs6 I6=>?_) (.inr hloc));obtain⟨e6,_⟩:=I6.pin (C,oC) (au _ (au _ ag));obtain⟨o',es,ep,ho',r'⟩:=hn;rw[hoC] at ho';cases ho';refine⟨m,⟨oC,es,ep,e6,r'⟩,λh' hs'=>⟨_,upd H' D (.lst ys),?_,fin D nD⟩⟩;exact(I6.unpinned (pl:=[(C,oC)])).turned (t':=s6.toks) (it:=C) (λb o hb e=>hs'.extBut b o hb e) fpC.1 fpC.2.1 fpC.2.2.2.1 fpC.2.2.2.2.1 fpC.2.2.2.2.2
end
open AutoSeq1 (wpAny_loadPart')
section
variable {prog:bE} {w:bg} {A:bc} {E:aJ->aN->Prop} {s:aN}
theorem Sf{it l:aM}{i:Nat}{items}{x:aJ}{Q:aJ->aN->Prop}(hit:s.heap.IsTupleIter it l i)
  (hl:s.heap.IsTuple l items) (hx:items[i]?=aA x)
  (hQ:∀h',h'.IsTupleIter it l (i+1)->gD it s.heap h'->Q x { s with heap:=h' }) :
  ao (model prog w) A (ee (.ref it)) Q E s:=by
 obtain⟨o,ho,hc,hd⟩:=id hit;obtain⟨ol,hol,_,nl,hdl⟩:=hl;unfold ee
 refine aF (cz (name:=cP "__next__") hit.typeIs F.slot_tuple_iterator_next
  (cS F.slot_tuple_iterator_next hit.typeIs F.entry_tuple_iterator_next ?_ (F.args_tuple_iterator_next_1 _)))
 show ao _ _ (field (.ref it) 0 >>= _) _ _ s;refine aF (eQ ho hd (x:=.ref l) rfl ?_);show ao _ _ (if(b7 l==bj)=aD then _ else _) _ _ s;rw[pE (show ¬((b7 l==bj)=aD) from aw)];show ao _ _ (field (.ref it) 1 >>= _) _ _ s;refine aF (eQ ho hd (x:=.int i 0) rfl ?_);show ao _ _ (mF (.ref l) >>= _) _ _ s;refine aF (iO hol hdl ?_);simp only[cL,hx];refine aF (df ho hd (by simp) (aP ⟨x,rfl,aP (hQ _ ?_ (cR ..))⟩));exact⟨_,cC _ ho (dQ (br hd _)),(fG ..).trans hc,by rw[br hd];simp[dm]⟩
theorem S0{it l:aM}{i:Nat}{items}{Q:aJ->aN->Prop}(hh:A.handled=aB)
  (hit:s.heap.IsTupleIter it l i) (hl:s.heap.IsTuple l items) (hx:items[i]?=aB)
  (hE:∀h' e,nX it s.heap h'->(∃o,h'.get? e=aA o/\o.cls = .type "StopIteration")->E (.ref e) { s with heap:=h' }) :
  ao (model prog w) A (ee (.ref it)) Q E s:=by
 obtain⟨o,ho,hc,hd⟩:=id hit;obtain⟨ol,hol,_,nl,hdl⟩:=hl;unfold ee
 refine aF (cz (name:=cP "__next__") hit.typeIs F.slot_tuple_iterator_next
  (cS F.slot_tuple_iterator_next hit.typeIs F.entry_tuple_iterator_next ?_ (F.args_tuple_iterator_next_1 _)))
 show ao _ _ (field (.ref it) 0 >>= _) _ _ s;refine aF (eQ ho hd (x:=.ref l) rfl ?_);show ao _ _ (if(b7 l==bj)=aD then _ else _) _ _ s;rw[pE (show ¬((b7 l==bj)=aD) from aw)];show ao _ _ (field (.ref it) 1 >>= _) _ _ s;refine aF (eQ ho hd (x:=.int i 0) rfl ?_);show ao _ _ (mF (.ref l) >>= _) _ _ s;refine aF (iO hol hdl ?_);simp only[cL,hx];refine aF (oI (aF (df ho hd (by simp) ?_)));show ao _ _ (oJ (.type "StopIteration") [] >>= _) _ _ _;refine aF ?_;simp only[oJ,newTuple];refine aF (bh ?_ (by size_fits));refine aF (m:=gY _ _) (jm (a:=bj) (by first | rfl | (simp only[gY];rfl)) ?_);refine bh ?_ (by size_fits);simp only[raiseNew];refine aF (mT ?_)
 first | rw[show A.in1.handled=aB from hh] | rw[hh]
 refine aF (aP (nY ?_));exact hE _ _ (((cR ..).extBut.push _).push _) ⟨_,aj _ rfl,rfl⟩
end
def SeqB(b:Bool)(h:bw)(a:aM)(pA:Array aJ):Prop:=if b=aD then h.IsList a pA else h.IsTuple a pA
def IterB(b:Bool)(h:bw)(it a:aM)(i:Nat):Prop:=if b=aD then h.IsListIter it a i else h.IsTupleIter it a i
def Ig(b:Bool)(K:aI)(H:Hp)(a:aM)(xs:List V):Prop:=if b=aD then SqL K H a xs else SqT K H a xs
def Qk(b:Bool)(a:aM):dX:={ cls:=.type (if b=aD then "list_iterator" else "tuple_iterator"),data:=.fields #[.ref a,.int 0 0] }
theorem SeqB.at{b:Bool}{h h':bw}{a:aM}{pA:Array aJ}(x:SeqB b h a pA)(k:∀o,h.get? a=aA o->h'.get? a=aA o):SeqB b h' a pA:=by
 cases b with
 | true=>obtain⟨o,e,r⟩:=(show h.IsList a pA from x);exact⟨o,k o e,r⟩
 | false=>obtain⟨o,e,r⟩:=(show h.IsTuple a pA from x);exact⟨o,k o e,r⟩
theorem SeqB.has{b:Bool}{h:bw}{a:aM}{pA:Array aJ}(x:SeqB b h a pA):∃o,h.get? a=aA o:=by
 cases b with
 | true=>obtain⟨o,e,r⟩:=(show h.IsList a pA from x);exact⟨o,e⟩
 | false=>obtain⟨o,e,r⟩:=(show h.IsTuple a pA from x);exact⟨o,e⟩
theorem IterB.at{b:Bool}{h h':bw}{it a:aM}{i:Nat}(x:IterB b h it a i)(k:∀o,h.get? it=aA o->h'.get? it=aA o):IterB b h' it a i:=by
 cases b with
 | true=>obtain⟨o,e,r⟩:=(show h.IsListIter it a i from x);exact⟨o,k o e,r⟩
 | false=>obtain⟨o,e,r⟩:=(show h.IsTupleIter it a i from x);exact⟨o,k o e,r⟩
theorem IterB.has{b:Bool}{h:bw}{it a:aM}{i:Nat}(x:IterB b h it a i):∃o,h.get? it=aA o/\∀v,o.data≠.cell v:=by
 cases b with
 | true=>obtain⟨o,e,_,d⟩:=(show h.IsListIter it a i from x);exact⟨o,e,λv z=>by rw[d] at z;cases z⟩
 | false=>obtain⟨o,e,_,d⟩:=(show h.IsTupleIter it a i from x);exact⟨o,e,λv z=>by rw[d] at z;cases z⟩
theorem IterB.new{b:Bool}{h:bw}{it a:aM}(e:h.get? it=aA (Qk b a)):IterB b h it a 0:=by
 cases b with
 | true=>exact⟨_,e,rfl,rfl⟩
 | false=>exact⟨_,e,rfl,rfl⟩
section
variable {X:Cx} {du:List (aM×dX)} {Z:St} {H:Hp} {s:aN} {a:aM} {xs ys:List V} {b:Bool}
theorem Inv.seqB(I:Inv X du Z H s)(h:Ig b X.K H a xs):∃pA:List aJ,Vals xs pA/\SeqB b s.heap a pA.toArray/\xs.length<=sizeLine:=by
 cases b with
 | true=>
  obtain⟨pA,r,p,z⟩:=I.list (show SqL X.K H a xs from h);exact⟨pA,r,p.isList,z⟩
 | false=>
  obtain⟨pA,r,p,z⟩:=I.tuple (show SqT X.K H a xs from h);exact⟨pA,r,p,z⟩
theorem Inv.seqB_inj(I:Inv X du Z H s)(h:Ig b X.K H a xs)(h':Ig b X.K H a ys):xs=ys:=by
 cases b with
 | true=>exact I.list_inj (show SqL X.K H a xs from h) (show SqL X.K H a ys from h')
 | false=>exact I.tuple_inj (show SqT X.K H a xs from h) (show SqT X.K H a ys from h')
end
theorem Draws.seq{prog:bE}{w:bg}{A:bc}(b:Bool)(hh:A.handled=aB)(it l:aM)(hne:l≠it)(items:Array aJ) :
  Draws prog w A it [it,l] items.size (λi v=>items[i]?=aA v) (λi h=>IterB b h it l i/\SeqB b h l items) where
 live:=λ_ _ st=>let⟨o,ho,_⟩:=st.1.has;⟨o,ho⟩
 frame:=λ_ _ _ st hk=>⟨st.1.at λo e=>hk it (by simp) o e,st.2.at λo e=>hk l (by simp) o e⟩
 item:=λi s Q E hi st hQ=>by
  cases b with
  | true=>
   refine wpAny_nextOf_list_item (show s.heap.IsListIter it l i from st.1) (show s.heap.IsList l items from st.2) (x:=items[i]) (by simp[hi]) λh' hit' hs'=>?_;exact hQ _ h' s.toks (by simp[hi]) ⟨hit',st.2.at λo e=>hs'.extBut l o hne e⟩ hs'
  | false=>
   refine Sf (show s.heap.IsTupleIter it l i from st.1) (show s.heap.IsTuple l items from st.2) (x:=items[i]) (by simp[hi]) λh' hit' hs'=>?_;exact hQ _ h' s.toks (by simp[hi]) ⟨hit',st.2.at λo e=>hs'.extBut l o hne e⟩ hs'
 done:=λs Q E st hE=>by
  cases b with
  | true=>exact wpAny_nextOf_list_end hh (show s.heap.IsListIter it l _ from st.1) (show s.heap.IsList l items from st.2) (by simp) hE
  | false=>exact S0 hh (show s.heap.IsTupleIter it l _ from st.1) (show s.heap.IsTuple l items from st.2) (by simp) hE
theorem XG{prog:bE}{w:bg}{A:bc}{E:aJ->aN->Prop}{s:aN}{b:Bool}{a:aM}{pA:Array aJ}{Q:aJ->aN->Prop}(h:SeqB b s.heap a pA)
  (hQ:Q (.ref s.heap.objs.size) { s with heap:=s.heap.push (Qk b a) }):ao (model prog w) A (kZ (.ref a)) Q E s:=by
 cases b with
 | true=>exact wpAny_pyIter_list (show s.heap.IsList a pA from h) hQ
 | false=>exact j7 (show s.heap.IsTuple a pA from h) hQ
set_option maxHeartbeats 4000000 in
theorem Ql(b:Bool)(l:aM)(items:Array aJ) :
  Meets (ij.«enumerate.__new__» ⟨[.type "enumerate",.ref l],[]⟩) (λ_ R s=>SeqB b s.heap l items/\
   R (.ok (.ret (.ref (s.heap.push (Qk b l)).objs.size)))
    { s with heap:=(s.heap.push (Qk b l)).push { cls:=.type "enumerate",data:=.fields #[.none,.bool aC,.ref s.heap.objs.size,dm 0,.none,.none] } }):=
 .of_wp λprog w A R s h=>by
  obtain⟨hp,g,d,tk,os⟩:=s;obtain⟨hl,h⟩:=h;have hsub:=sub_enumerate;obtain⟨o,ho⟩:=hl.has;have hL:SeqB b (aN.heap ⟨hp,g,d,tk,os⟩) l items:=hl
  wp_walk using jN ho
  refine wpAny_stack_any λst=>aP ?_;split
  ·rename_i c _ _ _ _ _;cases (c==jZ "enumerate")
   ·wp_walk using jN ho,XG hL
    exact⟨_,rfl,h⟩
   ·wp_walk using jN ho,XG hL
    exact⟨_,rfl,h⟩
  ·wp_walk using jN ho,XG hL
   exact⟨_,rfl,h⟩
section
variable {prog:bE} {w:bg} {A:bc} {E:aJ->aN->Prop} {s:aN}
theorem Pq{b:Bool}{l:aM}{items:Array aJ}{Q:aJ->aN->Prop}(hL:SeqB b s.heap l items)
  (h:∀h',IsEnum h' (s.heap.objs.size+1) s.heap.objs.size 0 .none->IterB b h' s.heap.objs.size l 0->h'.objs.size=s.heap.objs.size+2->
   (∀b o,s.heap.get? b=aA o->h'.get? b=aA o)->Q (.ref (s.heap.objs.size+1)) { s with heap:=h' }) :
  ao (model prog w) A (call (.type "enumerate") [.ref l]) Q E s:=by
 refine callType_new F.called_enumerate (by decide) (F.typeCall_enumerate_1 _) (F.newCall_enumerate_1 _) (λobj=>F.args_object_init_2 obj _) F.entry_enumerate_new
  (Ql b l items) ⟨hL,?_⟩
 have hz:(s.heap.push (Qk b l)).objs.size=s.heap.objs.size+1:=eV ..;show _/\_;rw[hz]
 have he:IsEnum ((s.heap.push (Qk b l)).push
   { cls:=.type "enumerate",data:=.fields #[.none,.bool aC,.ref s.heap.objs.size,dm 0,.none,.none] }) (s.heap.objs.size+1) s.heap.objs.size 0 .none:=by
  have:=aj (s.heap.push (Qk b l))
   (o:={ cls:=.type "enumerate",data:=.fields #[.none,.bool aC,.ref s.heap.objs.size,dm 0,.none,.none] }) rfl
  rw[hz] at this;exact this
 refine⟨⟨_,he,rfl⟩,h _ he (IterB.new (aO _ (aj _ rfl))) (by rw[eV,hz]) λb o x=>aO _ (aO _ x)⟩
end
def Ite(b:Bool)(K:aI)(a:aM):It:=
  ⟨λi H=>∃xs x,Ig b K H a xs/\xs[i]?=aA x,
   λi H v H'=>∃p x,H p=aB/\v = .ref p/\H'=upd H p (.tup [.int i,x])/\∀xs,Ig b K H a xs->xs[i]?=aA x,
   λi H=>∃xs,Ig b K H a xs/\xs.length=i⟩
theorem Ih{P:bE}{w:bg}{K:aI}{elts:List bK}{k:Nat}{pos:fN}(b:Bool)(a e it:aM)(hei:e≠it) :
  M9 P w K (.Tuple elts k pos) (Ite b K a) [e,it] e (λi h=>(∃old,IsEnum h e it i old)/\IterB b h it a i) where
 mem:=by simp
 obj:=λi h st c hc=>by
  rcases a9.mp hc with rfl | hc
  ·obtain⟨⟨old,q⟩,_⟩:=st;exact⟨_,q,λv z=>by cases z⟩
  ·rw[aQ.mp hc];exact st.2.has
 keep:=λi h h' st kk=>⟨let⟨old,q⟩:=st.1;⟨old,kk e (by simp) _ q⟩,st.2.at λo q=>kk it (by simp) o q⟩
 item:=by
  intro X hP hw hK hc i du s Z H E I hf st hg;subst hP hw hK;obtain⟨xs,x,hq,hx⟩:=hg;obtain⟨pA,rv,p,hz⟩:=I.seqB hq;obtain⟨u,hu,ru⟩:=rv.get hx;obtain⟨⟨old,he⟩,hit⟩:=st;have fe:=hf e (by simp);have fi:=hf it (by simp);obtain⟨oa,hoa⟩:=p.has;have tra:H a=aB->a<X.s₀.heap.objs.size\/True:=λ_=>.inr trivial
  -- the sequence is neither record
  have ne_of_fp:∀c,RS X du H c->(∃oc,s.heap.get? c=aA oc/\∃n vs,oc.cls = .type n/\oc.data = .fields vs)->a≠c:=λc _ ⟨oc,hoc,n,vs,hn,hv⟩ z=>by
   subst z;rw[hoa] at hoc;cases hoc
   cases b with
   | true=>obtain⟨o,e1,_,m,d⟩:=(show s.heap.IsList a pA.toArray from p);rw[hoa] at e1;cases e1;rw[hv] at d;cases d
   | false=>obtain⟨o,e1,_,m,d⟩:=(show s.heap.IsTuple a pA.toArray from p);rw[hoa] at e1;cases e1;rw[hv] at d;cases d
  have ae:a≠e:=ne_of_fp e fe ⟨_,he,_,_,rfl,rfl⟩
  have ai:a≠it:=ne_of_fp it fi (by
   cases b with
   | true=>obtain⟨o,e1,c1,d1⟩:=(show s.heap.IsListIter it a i from hit);exact⟨o,e1,_,_,c1,d1⟩
   | false=>obtain⟨o,e1,c1,d1⟩:=(show s.heap.IsTupleIter it a i from hit);exact⟨o,e1,_,_,c1,d1⟩)
  have D:=Draws.seq (prog:=X.prog) (w:=X.w) (A:=X.A.in1) b (I.ok.hd hc) it a ai pA.toArray;have hlt:i<pA.toArray.size:=by have:=(aX.mp hu).1;simpa using this
  refine wpAny_pyNext_enum_itemD D he ⟨hit,p⟩ hlt hei (by simp[hei,cY ae]) λy h' tk hPy ho hs' hT hsz hk=>?_
  have ey:y=u:=by
   have q1:pA.toArray[i]?=aA y:=hPy;have q2:pA.toArray[i]?=aA u:=by simpa using hu
   rw[q1] at q2;exact bB q2
  subst ey;refine⟨_,rfl,wpAny_letOwnedTupleGo_enum ho λh2 he2 hs2=>?_⟩;have hs2:gD e h' h2:=hs2;have Tne:s.heap.objs.size≠e:=g9 (aW he);have hTn:H s.heap.objs.size=aB:=I.hok.fresh (af _);have kk:∀c o,c∉[e,it]->s.heap.get? c=aA o->h2.get? c=aA o:=λc o hc' q=>hs2.extBut c o (λz=>hc' (by simp[z])) (hk c o (λz=>hc' (by simp[z])) (λz=>hc' (by simp[z])) q);have hT2:h2.get? s.heap.objs.size=aA { cls:=.type "tuple",data:=.seq #[.int i tk,y] }:=hs2.extBut _ _ Tne hT;have hcs:∀c∈[e,it],(c∈X.ex\/X.s₀.heap.objs.size<=c)/\c≠X.env.locals/\(∀x d,X.env.cells.lookup x=aA d->d≠c)/\∀p∈X.pn++du,p.1≠c:=λc hc'=>by have f:=hf c hc';exact⟨f.2.2.2.1,f.2.1,f.2.2.2.2.1,f.2.2.2.2.2⟩
  have nfp:∀c u',H c=aA u'->c∉[e,it]:=λc u' q hc'=>by rw[(hf c hc').1] at q;cases q
  have hok0:HOk X.prog X.w H h2:=λc u' q=>(I.hok c u' q).stay (λd v hd q'=>kk d v (by
    rcases hd with z | z
    ·rw[z];exact nfp c u' q
    ·exact nfp d _ z) q') (λ_ z=>z) (λ_ _ z=>z) λ_ _ z=>z
  have new:ObjOk X.prog X.w (upd H s.heap.objs.size (.tup [.int i,x])) h2 s.heap.objs.size (.tup [.int i,x]):=
   ⟨⟨by show 2<=sizeLine;decide,λo e=>by rw[hT2] at e;cases e;rfl⟩,[.int i tk,y],.cons ⟨tk,rfl⟩ (.cons ru .nil),⟨_,hT2,rfl,_,rfl⟩⟩
  have hok1:HOk X.prog X.w (upd H s.heap.objs.size (.tup [.int i,x])) h2:=λc u' q=>by
   by_cases hb:c=s.heap.objs.size
   ·subst hb;rw[upd_same] at q;cases q;exact new
   ·rw[upd_ne hb] at q;exact(hok0 c u' q).stay (λd v _ q'=>q') (λd z=>by rw[upd_ne (Zp z hTn)];exact z) (λd zs z=>by rw[upd_ne (Zp z hTn)];exact z) λd u z=>by rw[upd_ne (Zp z hTn)];exact z
  have un:Un (OH X.stack) [e,it] H (upd H s.heap.objs.size (.tup [.int i,x])) s.heap h2:=by
   refine⟨λc o q _ _ hx'=>kk c o hx' q,λc o q _ _ hx'=>⟨o.slots,kk c o hx' q⟩,λc o q n _=>?_,λc o q hx'=>⟨o,kk c o hx' q⟩,λc zs q=>?_,λc o zs q=>?_,λc ps q=>⟨#[],?_⟩⟩
   ·rw[upd_ne (bH (aW q))];exact n
   ·rw[upd_ne (Zp q hTn)];exact q
   ·rw[upd_ne (Zp q hTn)];exact q
   ·rw[upd_ne (Zp q hTn),q];simp
  have I2:Inv X du Z (upd H s.heap.objs.size (.tup [.int i,x])) { s with heap:=h2,toks:=tk+1 }:=I.call (g':=s.gens) (d':=s.drawn) un hok1 I.bare hcs;refine⟨.ref s.heap.objs.size,upd H s.heap.objs.size (.tup [.int i,x]),I2,rfl,⟨_,x,hTn,rfl,rfl,λzs hzs=>by rw[I.seqB_inj hzs hq];exact hx⟩,⟨⟨y,by simpa using he2⟩,?_⟩,λc hc'=>?_⟩
  ·exact hs'.1.at λo q=>hs2.extBut it o (cY hei) q
  ·rw[upd_ne (bH (by
    rcases a9.mp hc' with rfl | hc'
    ·exact aW he
    ·rw[aQ.mp hc'];obtain⟨o,q,_⟩:=hit.has;exact aW q))]
   exact(hf c hc').1
 done:=by
  intro X hP hw hK hc i du s Z H E I hf st hg;subst hP hw hK;obtain⟨xs,hq,hx⟩:=hg;obtain⟨pA,rv,p,hz⟩:=I.seqB hq;obtain⟨⟨old,he⟩,hit⟩:=st;have fi:=hf it (by simp);obtain⟨oa,hoa⟩:=p.has
  have ai:a≠it:=λz=>by
   subst z
   cases b with
   | true=>
    obtain⟨o,e1,_,m,d⟩:=(show s.heap.IsList a pA.toArray from p);obtain⟨o',e2,_,d2⟩:=(show s.heap.IsListIter a a i from hit);rw[e1] at e2;cases e2;rw[d] at d2;cases d2
   | false=>
    obtain⟨o,e1,_,m,d⟩:=(show s.heap.IsTuple a pA.toArray from p);obtain⟨o',e2,_,d2⟩:=(show s.heap.IsTupleIter a a i from hit);rw[e1] at e2;cases e2;rw[d] at d2;cases d2
  have D:=Draws.seq (prog:=X.prog) (w:=X.w) (A:=X.A.in1) b (I.ok.hd hc) it a ai pA.toArray;have hl:=rv.length;have hi:i=pA.toArray.size:=by simp;omega
  refine wpAny_pyNext_enum_endD D he (by rw[<-hi];exact⟨hit,p⟩) λh' hx'=>⟨rfl,?_⟩;obtain⟨f0,f1,f2,f3,f4,f5⟩:=fi;exact I.turned (t':=s.toks) (λc o hb q=>hx' c o hb q) f0 f1 f3 f4 f5
 self:=λA i s Q E st hQ=>by obtain⟨⟨old,he⟩,_⟩:=st;exact wpAny_pyIter_enum he hQ
end L2
namespace L2
open PySem PySem.Spec PyProof.Rows
section
variable {X:Cx}
def Ar(b:Bool)(K:aI)(ta:TA):TI:=λZ H R=>ta Z H λvs H1=>∃a,vs=[.ref a]/\(∃xs,Ig b K H1 a xs)/\R (Ite b K a) H1
theorem EA{elts:List bK}{k:Nat}{tpos:fN}(b:Bool){a:bK}{ta:TA}{p pos:fN}(hg:Gl X "enumerate")(hm:X.mg "enumerate" = aB)(ha:PA X [a] ta)(hs:aR [a] X.env=[(aC,eval a X.env)]:=by rfl) :
  PI X (.Tuple elts k tpos) (.Call (.Name "enumerate" p) [a] [] pos) (Ar b X.K ta):=by
 intro du s Z H R I h;refine Call_ (XX I hg hm (by decide +kernel:dG "enumerate" = aA (.type "enumerate")) (cF (Yo (ha pos du s Z H _ I h) λus s1 ⟨vs,H1,I1,r1,q1⟩=>?_) hs rfl));obtain⟨a,e,⟨xs,hq⟩,q⟩:=q1;subst e
 cases r1 with
 | cons r rr=>
  cases rr;cases r;obtain⟨pA,rv,hseq,hz⟩:=I1.seqB hq;refine Pq hseq λh' he hit hsz hk=>?_;refine wpAny_pyIter_enum he ?_;have I2:Inv X du Z H1 { s1 with heap:=h' }:=I1.kept (t':=s1.toks) hk;have ne:s1.heap.objs.size+1≠s1.heap.objs.size:=g9 (gg _);refine⟨s1.heap.objs.size+1,[s1.heap.objs.size+1,s1.heap.objs.size],_,_,H1,rfl,I2,Ih b a (s1.heap.objs.size+1) s1.heap.objs.size ne,⟨⟨.none,he⟩,hit⟩,λc hc=>?_,q⟩;rcases a9.mp hc with rfl | hc
  ·exact I1.fpOk (jB _) (I1.hok.fresh (jB _))
  ·rw[aQ.mp hc];exact I1.fpOk (af _) (I1.hok.fresh (af _))
end
section
variable {prog:bE} {w:bg} {A:bc} {E:aJ->aN->Prop} {s:aN}
theorem OP{d:aM}{o:dX}{es:Array mG}{ep:Nat}{Q:aJ->aN->Prop}(hd:(d==fM)=aC)(ho:s.heap.get? d=aA o)(hc:o.ExactDict)(hdat:o.data = .dict es ep)
  (hQ:Q (.ref s.heap.objs.size) { s with heap:=s.heap.push { cls:=.type "dict_keyiterator",data:=.fields #[.ref d,.int 0 0,.int es.size 0,.int ep 0] } }) :
  ao (model prog w) A (kZ (.ref d)) Q E s:=by
 have hT:s.TypeIs (.ref d) "dict":=⟨o,ho,hc.1⟩;refine iP hT F.slot_dict_iter (cS F.slot_dict_iter hT F.entry_dict_iter ?_ (F.args_dict_iter_1 _));unfold ij.«dict.__iter__»;refine aF ?_;unfold ij.Dict.dictSlotNone;refine aF (wpAny_notOrdered_dict hT ?_);show ao _ _ (pure (b7 d)) _ _ s;refine aP ?_;show ao _ _ (lH d >>= _) _ _ s;unfold lH;rw[pE (by rw[hd];exact aw)];refine aF (aP ?_);refine aF (jn ho hdat ?_);refine aF (ku ho hdat ?_);refine aF (bh (aP ⟨_,rfl,"dict_keyiterator",_,⟨_,aj _ rfl,rfl⟩,F.slot_dict_keyiterator_next.lookup,?_⟩));simpa [dm] using hQ
theorem Sg{it d:aM}{i ep:Nat}{od:dX}{es:Array mG}{e:mG}{Q:Option aJ->aN->Prop}(hit:s.heap.IsKeyIter it d i es.size ep)
  (hod:s.heap.get? d=aA od) (hdd:od.data = .dict es ep) (hx:es[i]?=aA e)
  (hQ:∀h',h'.IsKeyIter it d (i+1) es.size ep->gD it s.heap h'->Q (aA e.key) { s with heap:=h' }) :
  ao (model prog w) A (iB (.ref it)) Q E s:=by
 obtain⟨o,ho,hc,hd⟩:=id hit;unfold iB
 refine aF (ik (cz (name:=cP "__next__") hit.typeIs F.slot_dict_keyiterator_next
  (cS F.slot_dict_keyiterator_next hit.typeIs F.entry_dict_keyiterator_next ?_ (F.args_dict_keyiterator_next_1 _))))
 refine aF (aP ?_);refine aF ?_;refine aF ?_
 first | refine aF (dz hit.typeIs (aP ?_)) | refine aF (fQ hit.typeIs (aP ?_))
 refine aF (jc ho hd ?_);have hown:jO "dict_keyiterator" = aC:=by decide
 simp only[hown,b9,if_false];show ao _ _ (if(b7 d==bj)=aD then _ else _) _ _ s;rw[pE (show ¬((b7 d==bj)=aD) from aw)];refine aF (aP ?_);refine aF (jn hod hdd ?_);rw[pE (by simp)];refine aF (aP ?_);refine aF (ku hod hdd ?_);rw[pE (by simp)];refine aP ?_;obtain⟨hlt',he⟩:=cT.mp hx;subst he;simp only[show ¬((i:Int)<0) from by omega,if_false,cL,dq hlt'];refine aF ?_
 first | refine aF (dz hit.typeIs (aP ?_)) | refine aF (fQ hit.typeIs (aP ?_))
 refine aF (lI hit.typeIs ?_);show ao _ _ (setField (.ref it) 1 (dm ((i:Int)+1)) >>= _) _ _ s;refine aF (df ho hd (by simp) ?_)
 have hit':(s.heap.update it (dC (·.setIfInBounds 1 (dm ((i:Int)+1))))).IsKeyIter it d (i+1) es.size ep:=
  ⟨_,cC _ ho (dQ (br hd _)),(fG ..).trans hc,by rw[br hd];simp[dm]⟩
 refine aF (dR ?_);refine aF (lI (s:={ s with heap:=s.heap.update it (dC (·.setIfInBounds 1 (dm ((i:Int)+1)))) }) hit'.typeIs ?_);show ao _ _ (pure es[i].key) _ _ _;exact aP (aP ⟨_,rfl,aP (hQ _ hit' (cR ..))⟩)
theorem S1{it d:aM}{ep:Nat}{od:dX}{es:Array mG}{Q:Option aJ->aN->Prop}(hh:A.handled=aB)(hit:s.heap.IsKeyIter it d es.size es.size ep)
  (hod:s.heap.get? d=aA od) (hdd:od.data = .dict es ep)
  (hQ:∀h',nX it s.heap h'->Q aB { s with heap:=h' }):ao (model prog w) A (iB (.ref it)) Q E s:=by
 obtain⟨o,ho,hc,hd⟩:=id hit;unfold iB
 refine aF (ik (cz (name:=cP "__next__") hit.typeIs F.slot_dict_keyiterator_next
  (cS F.slot_dict_keyiterator_next hit.typeIs F.entry_dict_keyiterator_next ?_ (F.args_dict_keyiterator_next_1 _))))
 refine aF (aP ?_);refine aF ?_;refine aF ?_
 first | refine aF (dz hit.typeIs (aP ?_)) | refine aF (fQ hit.typeIs (aP ?_))
 refine aF (jc ho hd ?_);have hown:jO "dict_keyiterator" = aC:=by decide
 simp only[hown,b9,if_false];show ao _ _ (if(b7 d==bj)=aD then _ else _) _ _ s;rw[pE (show ¬((b7 d==bj)=aD) from aw)];refine aF (aP ?_);refine aF (jn hod hdd ?_);rw[pE (by simp)];refine aF (aP ?_);refine aF (ku hod hdd ?_);rw[pE (by simp)];refine aP ?_;simp only[show ¬((es.size:Int)<0) from by omega,if_false,cL,gC (af es.size)];refine aF ?_
 first | refine aF (dz hit.typeIs (aP ?_)) | refine aF (fQ hit.typeIs (aP ?_))
 show ao _ _ (setField (.ref it) 0 .none >>= _) _ _ s;refine aF (df ho hd (by simp) ?_);show ao _ _ (oJ (.type "StopIteration") [] >>= _) _ _ _;refine aF ?_;simp only[oJ,newTuple];refine aF (bh ?_ (by size_fits));refine aF (m:=gY _ _) (jm (a:=bj) (by first | rfl | (simp only[gY];rfl)) ?_);refine bh ?_ (by size_fits);simp only[raiseNew];refine aF (mT ?_);rw[show A.in1.handled=aB from hh];refine aF (aP (nY ?_));refine aF (kR (T:="StopIteration") (b:=aD) ⟨_,aj _ rfl,rfl⟩ isSubtype_stop ?_);exact aP (hQ _ (((cR ..).extBut.push _).push _))
end
def CY(d:aM)(o:dX)(oy:List (List YM×V)):It:=
  ⟨λi H=>H d=aA (.frz o (.dT oy))/\i<oy.length,
   λi H v H'=>H'=H/\∃b k y,oy[i]?=aA (k,y)/\v = .ref b/\H b=aA (.tup (k.map kV)),
   λi H=>H d=aA (.frz o (.dT oy))/\i=oy.length⟩
theorem KT.get{H:Hp}:∀{oy:List (List YM×V)}{xs:List (List YM×aM×aJ)}{i:Nat}{p:List YM×V},KT H oy xs->oy[i]?=aA p->∃q,xs[i]?=aA q/\p.1=q.1/\H q.2.1=aA (.tup (p.1.map kV))/\RelV p.2 q.2.2
 | _,_,_,_,.nil,e=>by simp at e
 | _,_,0,_,.cons r _,e=>by simp at e;subst e;exact⟨_,rfl,r⟩
 | _,_,i+1,p,.cons _ t,e=>by obtain⟨q,h1,h2⟩:=KT.get (i:=i) (p:=p) t (by simpa using e);exact⟨q,by simpa using h1,h2⟩
theorem Ii{P:bE}{w:bg}{K:aI}{tg:bK}(d it:aM)(o:dX)(es:Array mG)(ep:Nat)(oy:List (List YM×V))(ho:o.data = .dict es ep)(hlen:es.size=oy.length) :
  M9 P w K tg (CY d o oy) [it] it (λi h=>h.IsKeyIter it d i es.size ep) where
 mem:=by simp
 obj:=λi h st b hb=>by rw[aQ.mp hb];obtain⟨o,e,c,q⟩:=st;exact⟨o,e,λv z=>by rw[q] at z;cases z⟩
 keep:=λi h h' st k=>by obtain⟨o,e,r⟩:=st;exact⟨o,k it (by simp) o e,r⟩
 item:=by
  intro X hP hw hK hc i du s Z H E I hf st hg;subst hP hw hK;obtain⟨hd,hi⟩:=hg;obtain⟨e1,z,y,xs,r,o',es',ep',h1,h2,h3,h4,h5⟩:=(show ObjOk X.prog X.w H s.heap d (.frz o (.dT oy)) from I.hok d _ hd);rw[e1] at h1;cases h1;rw[ho] at h3;cases h3;have hk:oy[i]?=aA oy[i]:=aG hi;obtain⟨q,hq,eq,hb,rv⟩:=KT.get r hk;have he:es[i]?=aA (entryOfKey (kJ (YT X.prog X.w)) q):=by have:=congrArg (λl=>l[i]?) h4;simp only[aU,hq,bF] at this;simpa using this
  obtain⟨f0,f1,f2,f3,f4,f5⟩:=hf it (by simp);refine Sg st e1 ho he λh' st' sb=>?_;have I1:Inv X du Z H { s with heap:=h' }:=I.turned (t':=s.toks) (λb o hb e=>(sb.2 b hb).trans e) f0 f1 f3 f4 f5;obtain⟨o2,e2,c2,d2⟩:=id st';exact⟨_,rfl,KQ (s:={ s with heap:=h' }) e2 c2 d2 (by decide) ⟨.ref q.2.1,H,I1,rfl,⟨rfl,q.2.1,_,_,hk,rfl,hb⟩,st',λb hb=>(hf b hb).1⟩⟩
 done:=by intro X hP hw hK hc i du s Z H E I hf st hg;subst hP hw hK;obtain⟨hd,hi⟩:=hg;obtain⟨e1,_⟩:=(show ObjOk X.prog X.w H s.heap d (.frz o (.dT oy)) from I.hok d _ hd);obtain⟨f0,f1,f2,f3,f4,f5⟩:=hf it (by simp);rw[hi,<-hlen] at st;exact S1 (I.ok.hd hc) st e1 ho λh' eb=>⟨rfl,I.turned (t':=s.toks) (λb o hb e=>eb b o hb e) f0 f1 f3 f4 f5⟩
 self:=λA i s Q E st hQ=>by refine iP st.typeIs F.slot_dict_keyiterator_iter (cS F.slot_dict_keyiterator_iter st.typeIs F.entry_dict_keyiterator_iter ?_ (F.args_dict_keyiterator_iter_1 _));show ao _ _ (ret (.ref it)) _ _ s;exact aP ⟨_,rfl,"dict_keyiterator",_,st.typeIs,F.slot_dict_keyiterator_next.lookup,hQ⟩
section
variable {X:Cx} {tg:bK}
theorem Inv.freeze{du:List (aM×dX)}{Z:St}{H:Hp}{s:aN}{d:aM}{oy:List (List YM×V)}{o:dX}(I:Inv X du Z H s)(hd:H d=aA (.dT oy))(ho:s.heap.get? d=aA o) :
  Inv X du Z (upd H d (.frz o (.dT oy))) s:=by
 have ne:∀b u,H b=aA u->(∀k,u≠.dT k)->b≠d:=λb u q n z=>by rw[z,hd] at q;exact n _ (bB q).symm
 have nn:∀b,H b=aB->b≠d:=λb q z=>by rw[z,hd] at q;cases q
 have un:Un X.fs [] H (upd H d (.frz o (.dT oy))) s.heap s.heap:=
  ⟨λb o q _ _ _=>q,λb o q _ _ _=>⟨o.slots,q⟩,λb o q n _=>by rw[upd_ne (nn b n)];exact n,λb o q _=>⟨o,q⟩,
   λb xs q=>by rw[upd_ne (ne b _ q λ_ z=>nomatch z)];exact q,λb o u q=>by rw[upd_ne (ne b _ q λ_ z=>nomatch z)];exact q,λb ps q=>⟨#[],by rw[upd_ne (ne b _ q λ_ z=>nomatch z),q];simp⟩⟩
 have hok:HOk X.prog X.w (upd H d (.frz o (.dT oy))) s.heap:=λb u q=>by
  have hown:∀c y,H c=aA (.own y)->upd H d (.frz o (.dT oy)) c=aA (.own y):=λc y z=>by rw[upd_ne (ne c _ z λ_ z=>nomatch z)];exact z
  have htup:∀c xs,H c=aA (.tup xs)->upd H d (.frz o (.dT oy)) c=aA (.tup xs):=λc y z=>by rw[upd_ne (ne c _ z λ_ z=>nomatch z)];exact z
  by_cases hb:b=d
  ·subst hb;rw[upd_same] at q;cases q;exact⟨ho,(I.hok b _ hd).stay (λ_ _ _ z=>z) (λc z=>hown c _ z) htup λc u z=>by rw[upd_ne (ne c _ z λ_ z=>nomatch z)];exact z⟩
  ·rw[upd_ne hb] at q;exact(I.hok b u q).stay (λ_ _ _ z=>z) (λc z=>hown c _ z) htup λc u z=>by rw[upd_ne (ne c _ z λ_ z=>nomatch z)];exact z
 have:=I.un (t':=s.toks) un hok;exact this
def K7(tl:TE):TI:=λZ H R=>tl Z H λx H1=>∃d oy,x = .ref d/\((H1 d=aA (.dT oy)/\∀o,R (CY d o oy) (upd H1 d (.frz o (.dT oy))))\/∃o,H1 d=aA (.frz o (.dT oy))/\R (CY d o oy) H1)
theorem OQ{l:bK}{tl:TE}(hl:PE X l tl):PI X tg l (K7 tl):=by
 intro du s Z H R I h;refine Yo (hl du s Z H _ I h) λv s1 ⟨x,H1,I1,r1,q1⟩=>?_;obtain⟨d,oy,e,q⟩:=q1;subst e;cases r1
 have core:∀(o:dX)(H2:Hp),Inv X du Z H2 s1->H2 d=aA (.frz o (.dT oy))->R (CY d o oy) H2->ao (model X.prog X.w) X.A (kZ (.ref d)) (PIE X du Z tg R) X.xe s1:=λo H2 I2 e2 q2=>by
  obtain⟨e1,z,y,xs,r,o',es,ep,h1,h2,h3,h4,h5⟩:=(show ObjOk X.prog X.w H2 s1.heap d (.frz o (.dT oy)) from I2.hok d _ e2);rw[e1] at h1;cases h1;have hsz:es.size=oy.length:=by have a1:=congrArg dj h4;have a2:=Paired.length r;simp only[cJ,aH] at a1;omega
  refine OP y e1 h2 h3 ?_;refine⟨s1.heap.objs.size,[s1.heap.objs.size],_,_,H2,rfl,I2.kept (t':=s1.toks) λb o e=>aO _ e,Ii d _ o es ep oy h3 hsz,⟨_,aj _ rfl,rfl,rfl⟩,λb hb=>?_,q2⟩;rw[aQ.mp hb];exact I2.fpOk (af _) (I2.hok.fresh (af _))
 rcases q with⟨hd,q⟩ | ⟨o,hd,q⟩
 ·obtain⟨z,y,xs,r,o,es,ep,h1,h2,h3,h4,h5⟩:=(show ObjOk X.prog X.w H1 s1.heap d (.dT oy) from I1.hok d _ hd);exact core o _ (I1.freeze hd h1) upd_same (q o)
 ·exact core o H1 I1 hd q
end
theorem Walks.seqB{prog:bE}{w:bg}{A:bc}(b:Bool)(hh:A.handled=aB)(I ax:aM)(hne:ax≠I)(items:Array aJ) :
  Walks prog w A I [I,ax] [I] items.size (λi v=>items[i]?=aA v) (λi h=>IterB b h I ax i/\SeqB b h ax items):=by
 cases b with
 | true=>exact Walks.list hh I ax hne items
 | false=>exact Walks.tuple hh I ax hne items
section
variable {X:Cx}
theorem UZ(hc:X.calm=aD):Wo X (.builtin "sum") (λxs H Q=>∃(b:Bool) (p:aM) (ns:List Int),xs=[.ref p]/\Ig b X.K H p (ns.map V.int)/\Q (.int ns.sum) H):=by
 intro du s Z H xs us Q I r h;obtain⟨b,p,ns,rfl,hq,q⟩:=h;obtain⟨u,rfl,rx⟩:=Uv r;cases rx;obtain⟨pA,rv,hseq,hz⟩:=I.seqB hq;have hp:p<s.heap.objs.size:=let⟨_,e⟩:=hseq.has;aW e;refine call_sum_walkG (XG hseq ?_);refine⟨_,_,_,_,_,_,λi=>ns.getD i 0,rfl,Walks.seqB (A:=X.A.in1) b (I.ok.hd hc) s.heap.objs.size p (bH hp) pA.toArray,⟨IterB.new (aj _ rfl),hseq.at λo e=>aO _ e⟩,λc hcm=>?_,λi v hv=>?_,λh' tk t' hk=>?_⟩
 ·show c<(s.heap.push _).objs.size;rw[eV];rcases a9.mp hcm with rfl | hcm
  ·exact gg _
  ·rw[aQ.mp hcm];exact gQ hp
 ·have hv:pA.toArray[i]?=aA v:=hv;have hv:pA[i]?=aA v:=by simpa using hv
  have hl:=rv.length;rw[aH] at hl;have hi:i<ns.length:=by rw[hl];exact(aX.mp hv).1
  obtain⟨u,hu,ru⟩:=rv.get (i:=i) (x:=.int ns[i]) (by rw[aU,aG hi];rfl);rw[hv] at hu;cases hu;obtain⟨t,rfl⟩:=ru;refine⟨t,?_⟩;show dN ns[i] t=dN (ns.getD i 0) t;rw[aL,aG hi];rfl
 ·have e:preSum (λi=>ns.getD i 0) pA.toArray.size=ns.sum:=by
   have hl:=rv.length;rw[aH] at hl;rw[aV,<-hl]
   have gen:∀k,k<=ns.length->preSum (λi=>ns.getD i 0) k=(ns.take k).sum:=by
    intro k
    induction k with
    | zero=>intro _;simp[preSum]
    | succ k ih=>
     intro hk;rw[preSum,ih (by omega),jo,aL,aG (by omega),n6];simp
   rw[gen _ (af _),dI]
  rw[e];refine⟨.int ns.sum,H,I.kept (λc o hco=>hk c o ?_ (aO _ hco)),⟨_,rfl⟩,q⟩;intro hm;rw[aQ.mp hm] at hco;exact absurd (aW hco) (cU _)
theorem P8(hc:X.calm=aD):Wo X (.builtin "all") (λxs H Q=>∃(b:Bool) (p:aM) (bs:List Bool),xs=[.ref p]/\Ig b X.K H p (bs.map V.bl)/\Q (.bl (bs.all id)) H):=by
 intro du s Z H xs us Q I r h;obtain⟨b,p,bs,rfl,hq,q⟩:=h;obtain⟨u,rfl,rx⟩:=Uv r;cases rx;obtain⟨pA,rv,hseq,hz⟩:=I.seqB hq;have hp:p<s.heap.objs.size:=let⟨_,e⟩:=hseq.has;aW e;have hl:=rv.length;rw[aH] at hl;refine call_all_walk (XG hseq ?_);refine⟨_,_,_,_,_,_,λi=>bs.getD i aD,rfl,Walks.seqB (A:=X.A.in1) b (I.ok.hd hc) s.heap.objs.size p (bH hp) pA.toArray,⟨IterB.new (aj _ rfl),hseq.at λo e=>aO _ e⟩,λi v s' Q' E' hv hQ=>?_,λh' tk hk=>?_⟩
 ·have hv:pA.toArray[i]?=aA v:=hv;have hv:pA[i]?=aA v:=by simpa using hv
  have hi:i<bs.length:=by rw[hl];exact(aX.mp hv).1
  obtain⟨u,hu,ru⟩:=rv.get (i:=i) (x:=.bl bs[i]) (by rw[aU,aG hi];rfl);rw[hv] at hu;cases hu;cases ru;refine cV ?_;have e:bs.getD i aD=bs[i]:=by rw[aL,aG hi];rfl
  rw[<-e];exact hQ
 ·have e:(aS pA.toArray.size).all (λi=>bs.getD i aD)=bs.all id:=by
   rw[aV,<-hl,Bool.eq_iff_iff,bC,bC];constructor
   ·intro h x hx;obtain⟨i,hi,rfl⟩:=jC.mp hx;have:=h i (bR.mpr hi);rw[aL,aG hi] at this;exact this
   ·intro h i hi;have hi:=bR.mp hi;rw[aL,aG hi];exact h _ (cA hi)
  rw[e];refine⟨.bl (bs.all id),H,I.kept (λc o hco=>hk c o ?_ (aO _ hco)),rfl,q⟩;intro hm;rw[aQ.mp hm] at hco;exact absurd (aW hco) (cU _)
theorem Ux:Wo X (.builtin "isinstance") (λxs H Q=>∃x T t b,xs=[x,.ty T]/\TyOf X.K H x t/\bM X.K t (.type T)=aA b/\Q (.bl b) H):=by intro du s Z H xs us Q I r h;obtain⟨x,T,t,b,rfl,ht,hk,q⟩:=h;obtain⟨u,v,rfl,ru,rv⟩:=KS r;cases rv;exact J5 I ru ht hk λtk=>⟨.bl b,H,I.tok tk,rfl,q⟩
theorem NQ{K:aI}:bM K (.type "int") (.type "int")=aA aD:=rfl
theorem OR{K:aI}:bM K (.type "int") (.type "bool")=aA aC:=by first | rfl | decide | (unfold bM;rw[pE (by decide)];first | rfl | decide | kernel_rfl)
theorem NR{K:aI}:bM K (.type "tuple") (.type "tuple")=aA aD:=rfl
theorem Pr{K:aI}:bM K (.type "list") (.type "list")=aA aD:=rfl
theorem NS{K:aI}:bM K (.type "str") (.type "str")=aA aD:=rfl
def K8:V->List V->Hp->VK->Prop:=λx vs H Q=>∃l xs k y,x = .ref l/\vs=[.int k,y]/\H l=aA (.lst xs)/\0<=k/\k<2^63/\xs.length<sizeLine/\Q .non (upd H l (.lst (xs.take k.toNat++y::xs.drop k.toNat)))
theorem P9:MtM X "list.insert" K8:=by
 intro du s Z H x vs v us Q I rx rv h;obtain⟨l,xs,k,y,rfl,rfl,hH,h0,h1,hz,q⟩:=h;cases rx;obtain⟨u1,u2,rfl,r1,r2⟩:=rv.two;obtain⟨t,rfl⟩:=r1;obtain⟨z,pA,n,r,hl,e⟩:=I.lstM hH;have hfit:¬(!Builtin.List.listFitsIndex k)=aD:=by rw[fitsIndex_both (by omega) h1];exact aw
 refine iY F.slot_list_insert ⟨_,e,rfl⟩ F.entry_list_insert (F.args_list_insert_3 _ _ _) (AutoListH.list_insert_list_int_val_1 l pA.toArray n k t u2 hfit (by rw[aV];omega)) ⟨e,?_⟩;refine⟨.non,_,I.lset (its':=pA.take k.toNat++u2::pA.drop k.toNat) hH e ?_ ((r.take k.toNat).append (.cons r2 (r.drop k.toNat))) ?_,rfl,q⟩
 ·show(have j:=if k<0 then(k+((pA.toArray.size:Nat):Int)).toNat else min k.toNat pA.toArray.size;(pA.toArray.extract 0 j).push u2++pA.toArray.extract j)=_;rw[pE (by omega)]
  dsimp only
  by_cases hle:k.toNat<=pA.length
  ·rw[hV (by rw[aV];exact hle)];simp;rw[cG (by rw[bq];exact af _)]
  ·rw[iZ (by rw[aV];omega)];rw[cG (by omega),gG (by omega)];simp
 ·rw[aY,bA,bp,bq];omega
end
def TK(H H':Hp):Prop:=∀b xs,H b=aA (.tup xs)->H' b=aA (.tup xs)
theorem Same.tk{H H':Hp}(s:Same H H'):TK H H':=λb xs h=>s b _ h
theorem Same.new{H:Hp}{p:aM}(h:H p=aB)(o:HO):Same H (upd H p o):=λb u q=>by rw[upd_ne (Zp q h)];exact q
structure Def(K:aI)(mg:ah->Option aJ)(x:ah)(st:cO):Prop where
 ex:∃f fd,mg x=aA (.ref f)/\Fun K x x st f fd
theorem def_mk{K:aI}{h:bw}{mg:ah->Option aJ}{x:ah}{st:cO}{f:aM}{oc:aJ}{od an:Option aM}{osl:Array (Option aJ)}{kV doc pm cdv ct:aJ}(X:K.In h)(G:h.Ns bJ mg)
  (a:cB K bJ x=aA (aA (.ref f))) (l:K.lookup f=aA ⟨oc,od,.func (dw x x (XY st) (YV st) (Zm st) .none kV doc pm an cdv ct),osl⟩)
  (c:dY K cdv x=aD) (k:gX K (.ref f)=aD):Def K mg x st:=⟨f,_,ck X G a,CW (st:=st) l c k⟩
structure Xf(P:bE)(w:bg)(K:aI)(mg:ah->Option aJ)(base:bw)(x:ah)(ps:List ah)(sp:Sp)(k:Nat):Prop where
 ex:∃f fd,mg x=aA (.ref f)/\gX K (.ref f)=aD/\Binds K fd ps []/\SV P w K mg base Lk k f fd ps sp
section
variable {P:bE} {w:bg} {K:aI} {mg:ah->Option aJ} {base:bw}
theorem Def.cal{x:ah}{st:cO}{N ps:List ah}{k:Nat}{sp:Sp}(D:Def K mg x st)(S:Zz N ps (Zm st))
  (hb:∀(kV doc pm:aJ)(an:Option aM)(cdv ct:aJ)(us:List aJ),us.length=ps.length->kN (dw x x (XY st) (YV st) (Zm st) .none kV doc pm an cdv ct) ⟨us,[]⟩=pure (ps.zip us))
  (len:∀vs H Q E,sp vs H Q E->vs.length=ps.length)
  (hbody:∀(f:aM)(cdv:aJ)(A:bc)(outer:List lP)(s:aN)(H:Hp)(vs:List V)(Q:VK)(E:XK),Room k (A.deeper (jL x (Zm st) s.heap.objs.size f cdv))->sp vs H Q E->
   ∃t,PSs (Qe Lk P w K mg base N x (Zm st) f cdv A outer s H E).nox (YV st) t/\t { nx:=λ_ H'=>Q .non H',rt:=Q } (start N vs) H):Xf P w K mg base x ps sp (k+1):=by
 obtain⟨f,fd,hm,F⟩:=D.ex;exact⟨f,fd,hm,F.kp,F.binds hb,F.ok S len λcdv A outer s H vs Q E hr h=>hbody f cdv A outer s H vs Q E hr h⟩
end
section
variable {X:Cx} {x:ah} {ps:List ah} {sp:Sp} {k:Nat} {e:bK} {es:List bK} {t:TA} {p pos:fN}
theorem CZ(C:Xf X.prog X.w X.K X.mg X.base x ps sp k)(hr:Room k X.A)(hg:Gl X x)(ha:PA X (e::es) t)
  (hdb:(x==("__debug__" : ah))=aC:=by decide) (he:aR (e::es) X.env=(aC,eval e X.env)::aR es X.env:=by rfl) (hpl:(cw pos (aR es X.env)).any (·.1)=aC:=by rfl) :
  PE X (.Call (.Name x p) (e::es) [] pos) (DT sp [] E0 t):=by
 obtain⟨f,fd,a,b,c,d⟩:=C.ex;exact Ej d hr hg a b c .nil Am ha hdb he hpl
end
def TM(N:List ah)(around scope:gk)(own fr:List ah)(ix:List Nat):Bool:=
 (match scope.kind with | .function=>aD | _=>aC)&&scope.names.all (λy=>y.2 != .cell)&&scope.names.all (λy=>y.2 != .local || scope.names.lookup y.1==aA .local)&&
 scope.names.all (λy=>y.2 != .free || (around.names.lookup y.1==aA .cell || around.names.lookup y.1==aA .free))&&(fr.map aA==ix.map (λi=>N[i]?))&&
 fr.all (λx=>scope.names.contains (x,cK))&&fr.all (λx=>scope.names.lookup x != aA .local)
theorem Oa{N:List ah}{around scope:gk}{own fr:List ah}{ix:List Nat}(h:TM N around scope own fr ix=aD):CompScope N around scope own fr ix:=by
 unfold TM at h;simp only[ak] at h;obtain⟨⟨⟨⟨⟨⟨h1,h2⟩,h3⟩,h4⟩,h5⟩,h6⟩,h7⟩:=h;refine⟨?_,λy hy=>?_,λy hy e=>?_,λy hy e=>?_,by simpa using h5,λx hx=>?_,λx hx=>?_⟩
 ·split at h1
  ·assumption
  ·cases h1
 ·simpa using bC.mp h2 y hy
 ·have:=bC.mp h3 y hy;rw[e] at this;simpa using this
 ·have:=bC.mp h4 y hy;rw[e] at this;simpa using this
 ·simpa using bC.mp h6 x hx
 ·simpa using bC.mp h7 x hx
section
variable {X:Cx} {tg elt iter:bK} {ifs:List bK} {scope:gk} {pos:fN} {wi:TI} {g:TG} {tt:TT} {te:TE}
theorem NT(own fr:List ah)(ix:List Nat)(hcalm:X.calm=aD)(hi:PI X tg iter wi)(S:TM X.N X.env.scope scope own fr ix=aD)
  (hg:∀cl C s H ex,PG (ZR X (own++fr) scope cl C s H ex) tg g) (ht:∀cl C s H ex,Gj (ZR X (own++fr) scope cl C s H ex) ifs tt) (he:∀cl C s H ex,PE (ZR X (own++fr) scope cl C s H ex) elt te)
  (hs:∀x,dM iter X.env x=pure x:=by intro _;rfl):PE X (.ListComp elt [⟨tg,iter,ifs,0⟩] scope pos) (P7 own.length ix wi g tt te):=
 Ey hcalm hi (Oa S) hg ht he hs
theorem Gm(own fr:List ah)(ix:List Nat){i:Nat}{y:ah}{py spos:fN}(hN:X.N.Nodup)(hy:X.N[i]?=aA y)(hloc:X.env.scope.names.lookup y=aA .local)(hcalm:X.calm=aD)(hi:PI X tg iter wi)(S:TM X.N X.env.scope scope own fr ix=aD)
  (hg:∀cl C s H ex,PG (ZR X (own++fr) scope cl C s H ex) tg g) (ht:∀cl C s H ex,Gj (ZR X (own++fr) scope cl C s H ex) ifs tt) (he:∀cl C s H ex,PE (ZR X (own++fr) scope cl C s H ex) elt te)
  (hsw:g8 (.ListComp elt [⟨tg,iter,ifs,0⟩] scope pos) (aA (.Name y py)) spos.line X.env=pure aD:=by rfl)
  (hs:∀x,dM iter X.env x=pure x:=by intro _;rfl):PS X (.Assign [.Name y py] (.ListComp elt [⟨tg,iter,ifs,0⟩] scope pos) spos) (M8 (P7 own.length ix wi g tt te) (RD i)):=
 Ez hN hy hloc hcalm hi (Oa S) hg ht he hsw hs
end
structure Uy(mg:ah->Option aJ):Prop where
 «len» : mg "len" = aB
 «sum» : mg "sum" = aB
 «range» : mg "range" = aB
 «enumerate» : mg "enumerate" = aB
 «zip» : mg "zip" = aB
 «tuple» : mg "tuple" = aB
 «list» : mg "list" = aB
 «all» : mg "all" = aB
 «any» : mg "any" = aB
 «isinstance» : mg "isinstance" = aB
 «int» : mg "int" = aB
 «bool» : mg "bool" = aB
 «str» : mg "str" = aB
 «min» : mg "min" = aB
 «max» : mg "max" = aB
 «sorted» : mg "sorted" = aB
 «abs» : mg "abs" = aB
 «ValueError» : mg "ValueError" = aB
 «reversed» : mg "reversed" = aB
 «set» : mg "set" = aB
abbrev C0(g:TG)(tb:TS)(D:Uo)(Z:St)(J:It)(H:Hp):Prop:=
 ∃W:Nat->Nat->St->Hp->Prop,(∃m,W 0 m Z H)/\∀i m Z H,W i m Z H->
   (J.stop i H/\D.nx Z H)\/(J.go i H/\∃N:St->Hp->Prop,(∀Z' H',N Z' H'->∃m',m'<m/\W (i+1) m' Z' H')/\∀x H',J.yld i H x H'->g x Z H' λZ2 H2=>tb { D with nx:=N,ct:=N,bk:=D.nx } Z2 H2)
def ZL(l:List Int)(i:Nat):Int:=l.getD i 0
theorem Pu{f:Nat->Int}{n i:Nat}(h:i<n):ZL ((aS n).map f) i=f i:=by unfold ZL;rw[aL,aU,eK h];rfl
def ZK(w:List (List Int))(i:Nat):List Int:=w.getD i []
theorem Qm{w:List (List Int)}{i:Nat}(h:i<w.length):w[i]?=aA (ZK w i):=by unfold ZK;rw[aL,aG h];rfl
def XQ(w:List (List Int))(i j:Nat):Int:=ZL (ZK w i) j
structure ZV(w:List (List Int)):Prop where
 pos:1<=w.length
 few:w.length<=7
 sq:∀i,i<w.length->(ZK w i).length=w.length
 lo:∀i j,i<w.length->j<w.length->0<=XQ w i j
 hi:∀i j,i<w.length->j<w.length->XQ w i j<=9
 sym:∀i j,i<w.length->j<w.length->XQ w i j=XQ w j i
 dia:∀i,i<w.length->XQ w i i=0
def C1(K:aI):List V->Hp->VK->Prop:=λxs H Q=>∃p ys,xs=[.ref p]/\((SqL K H p ys/\∀l,H l=aB->Q (.ref l) (upd H l (.tup ys)))\/(SqT K H p ys/\Q (.ref p) H))
def EB(K:aI):List V->Hp->VK->Prop:=λxs H Q=>∃p ys,xs=[.ref p]/\(SqL K H p ys\/SqT K H p ys)/\∀l,H l=aB->Q (.ref l) (upd H l (.lst ys))
theorem Same.off{H Hc:Hp}{p:aM}(s:Same H Hc)(n:Hc p=aB):H p=aB:=s.free n
abbrev Xg:=Nat×Nat×Int
def Ij(e:Xg):List YM×V:=([.inl (e.1:Int),.inl (e.2.1:Int)],.int e.2.2)
def dE(ts:List Xg):List (List YM×V):=ts.map Ij
structure DictOk(n:Nat)(ts:List Xg):Prop where
 ok:∀e∈ts,e.1<e.2.1/\e.2.1<n/\1<=e.2.2/\e.2.2<=9
 nd:(ts.map λe=>(e.1,e.2.1)).Nodup
theorem OS{a b a' b':Nat}(h:([eI (a:Int),eI (b:Int)]:List YM)=[eI (a':Int),eI (b':Int)]):a=a'/\b=b':=by have h1:=(mU h).1;have h2:=(mU (mU h).2).1;have e1:=nU h1;have e2:=nU h2;omega
theorem DictOk.nil(n:Nat):DictOk n []:=⟨λ_ h=>by simp at h,by simp⟩
theorem EC{ts:List Xg}{a b:Nat}:(∀t,(a,b,t)∉ts)->Uw (dE ts) [.inl (a:Int),.inl (b:Int)]=aB:=by intro h;unfold Uw dE;rw[Option.map_eq_none_iff,gH];intro x hx;obtain⟨e,he,rfl⟩:=aa.mp hx;intro q;have q:=of_decide_eq_true q;obtain⟨h1,h2⟩:=OS q;obtain⟨a',b',t⟩:=e;simp only at h1 h2;subst h1 h2;exact h t he
theorem C2{n:Nat}{ts:List Xg}{a b:Nat}{t:Int}(ok:DictOk n ts)(hab:a<b)(hb:b<n)(h1:1<=t)(h9:t<=9) :
  ∃ts',Vy (dE ts) [.inl (a:Int),.inl (b:Int)] (.int t)=dE ts'/\DictOk n ts'/\ts'.length<=ts.length+1:=by
 by_cases hm:∃t',(a,b,t')∈ts
 ·-- it is there: replaced
  obtain⟨t',hm⟩:=hm;refine⟨ts.map λe=>if(e.1,e.2.1)=(a,b) then(e.1,e.2.1,t) else e,?_,⟨?_,?_⟩,by simp⟩
  ·unfold Vy;rw[pC ?_]
   ·unfold dE;rw[bQ,bQ];apply bO;intro e _;show(if(Ij e).1=_ then((Ij e).1,V.int t) else Ij e)=Ij (if(e.1,e.2.1)=(a,b) then(e.1,e.2.1,t) else e);by_cases q:(e.1,e.2.1)=(a,b)
    ·rw[pC q,pC ?_]
     ·rfl
     ·have:=lZ q;show([.inl (e.1:Int),.inl (e.2.1:Int)]:List YM)=_;rw[this.1,this.2]
    ·rw[pE q,pE ?_];intro z;obtain⟨h1,h2⟩:=OS (show([.inl (e.1:Int),.inl (e.2.1:Int)]:List YM)=_ from z);exact q (by rw[h1,h2])
   ·rw[gh];exact⟨Ij (a,b,t'),aa.mpr ⟨_,hm,rfl⟩,decide_eq_true rfl⟩
  ·intro e he;obtain⟨e',he',rfl⟩:=aa.mp he;have:=ok.ok e' he';by_cases q:(e'.1,e'.2.1)=(a,b)
   ·rw[pC q];exact⟨this.1,this.2.1,h1,h9⟩
   ·rw[pE q];exact this
  ·rw[bQ]
   have e:((λe:Xg=>(e.1,e.2.1)) ∘ λe:Xg=>if(e.1,e.2.1)=(a,b) then(e.1,e.2.1,t) else e)=λe:Xg=>(e.1,e.2.1):=by
    funext e;show((if(e.1,e.2.1)=(a,b) then((e.1,e.2.1,t):Xg) else e).1,(if(e.1,e.2.1)=(a,b) then((e.1,e.2.1,t):Xg) else e).2.1)=_;by_cases q:(e.1,e.2.1)=(a,b)
    ·rw[pC q]
    ·rw[pE q]
   rw[e];exact ok.nd
 ·have hn:∀t',(a,b,t')∉ts:=λt' h=>hm ⟨t',h⟩;refine⟨ts++[(a,b,t)],?_,⟨?_,?_⟩,by simp⟩
  ·rw[Gg _ (EC hn)];unfold dE;rw[bV];rfl
  ·intro e he;rcases aq.mp he with q | q
   ·exact ok.ok e q
   ·rw[aQ.mp q];exact⟨hab,hb,h1,h9⟩
  ·rw[bV];refine Wl ok.nd ?_;rw[aa];rintro⟨e,he,q⟩;obtain⟨a',b',t'⟩:=e;have:=lZ q;simp only at this;rw[this.1,this.2] at he;exact hn t' he
def Wq(M:List (List Int))(a b:Nat)(t:Int):List (List Int):=M.set a ((ZK M a).set b t)
def Yc(M:List (List Int))(e:Xg):List (List Int):=Wq (Wq M e.1 e.2.1 e.2.2) e.2.1 e.1 e.2.2
def Gn(n:Nat)(ts:List Xg):List (List Int):=ts.foldl Yc (aK n (aK n 0))
structure MatOk(n:Nat)(M:List (List Int)):Prop where
 len:M.length=n
 row:∀i,i<n->(ZK M i).length=n
 lo:∀i j,i<n->j<n->0<=XQ M i j
 hi:∀i j,i<n->j<n->XQ M i j<=9
 sym:∀i j,i<n->j<n->XQ M i j=XQ M j i
 dia:∀i,i<n->XQ M i i=0
theorem Ob{M:List (List Int)}{a i:Nat}{r:List Int}(ha:a<M.length):ZK (M.set a r) i=if a=i then r else ZK M i:=by
 unfold ZK;rw[aL,aL,bZ];by_cases h:a=i
 ·subst h;simp[ha]
 ·simp[h]
theorem ED{l:List Int}{b j:Nat}{t:Int}(hb:b<l.length):ZL (l.set b t) j=if b=j then t else ZL l j:=by
 unfold ZL;rw[aL,aL,bZ];by_cases h:b=j
 ·subst h;simp[hb]
 ·simp[h]
theorem Sh{n:Nat}{M:List (List Int)}{a b i j:Nat}{t:Int}(hl:M.length=n)(hr:∀i,i<n->(ZK M i).length=n)(ha:a<n)(hb:b<n):XQ (Wq M a b t) i j=if a=i/\b=j then t else XQ M i j:=by
 show ZL (ZK (M.set a ((ZK M a).set b t)) i) j=_;rw[Ob (by omega)];by_cases h:a=i
 ·subst h;rw[pC rfl,ED (by rw[hr a ha];exact hb)];by_cases q:b=j
  ·rw[pC q,pC ⟨rfl,q⟩]
  ·rw[pE q,pE (λz=>q z.2)];rfl
 ·rw[pE h,pE (λz=>h z.1)];rfl
theorem VY{n:Nat}{M:List (List Int)}{a b:Nat}{t:Int}(hl:M.length=n)(hr:∀i,i<n->(ZK M i).length=n)(ha:a<n):(Wq M a b t).length=n/\∀i,i<n->(ZK (Wq M a b t) i).length=n:=by
 refine⟨by unfold Wq;rw[bU];exact hl,λi hi=>?_⟩;show(ZK (M.set a ((ZK M a).set b t)) i).length=n;rw[Ob (by omega)];split
 ·rw[bU];exact hr a ha
 ·exact hr i hi
theorem MatOk.step{n:Nat}{M:List (List Int)}{e:Xg}(ok:MatOk n M)(h:e.1<e.2.1/\e.2.1<n/\1<=e.2.2/\e.2.2<=9):MatOk n (Yc M e):=by
 obtain⟨a,b,t⟩:=e;obtain⟨hab,hb,h1,h9⟩:=h;simp only at hab hb h1 h9;have ha:a<n:=by omega
 obtain⟨l1,r1⟩:=VY (t:=t) (b:=b) ok.len ok.row ha;obtain⟨l2,r2⟩:=VY (t:=t) (b:=a) l1 r1 hb;have E:∀i j,XQ (Wq (Wq M a b t) b a t) i j=if b=i/\a=j then t else if a=i/\b=j then t else XQ M i j:=λi j=>by rw[Sh l1 r1 hb ha,Sh ok.len ok.row ha hb]
 refine⟨l2,r2,λi j hi hj=>?_,λi j hi hj=>?_,λi j hi hj=>?_,λi hi=>?_⟩
 ·show 0<=XQ (Wq (Wq M a b t) b a t) i j;rw[E];split
  ·omega
  ·split
   ·omega
   ·exact ok.lo i j hi hj
 ·show XQ (Wq (Wq M a b t) b a t) i j<=9;rw[E];split
  ·omega
  ·split
   ·omega
   ·exact ok.hi i j hi hj
 ·show XQ (Wq (Wq M a b t) b a t) i j=XQ (Wq (Wq M a b t) b a t) j i;rw[E,E];have s:=ok.sym i j hi hj;by_cases q1:b=i/\a=j
  ·rw[pC q1];obtain⟨rfl,rfl⟩:=q1;rw[pE (by omega),pC ⟨rfl,rfl⟩]
  ·rw[pE q1];by_cases q2:a=i/\b=j
   ·rw[pC q2];obtain⟨rfl,rfl⟩:=q2;rw[pC ⟨rfl,rfl⟩]
   ·rw[pE q2,pE (λz=>q2 ⟨z.2,z.1⟩),pE (λz=>q1 ⟨z.2,z.1⟩),s]
 ·show XQ (Wq (Wq M a b t) b a t) i i=0;rw[E,pE (by omega),pE (by omega)];exact ok.dia i hi
theorem MatOk.zero(n:Nat):MatOk n (aK n (aK n 0)):=by
 have r:∀i,i<n->ZK (aK n (aK n (0:Int))) i=aK n 0:=λi hi=>by unfold ZK;rw[aL,cI,pC hi];rfl
 have z:∀i j,i<n->j<n->XQ (aK n (aK n (0:Int))) i j=0:=λi j hi hj=>by show ZL (ZK _ i) j=0;rw[r i hi];unfold ZL;rw[aL,cI,pC hj];rfl
 exact⟨by simp,λi hi=>by rw[r i hi];simp,λi j hi hj=>by rw[z i j hi hj];omega,λi j hi hj=>by rw[z i j hi hj];omega,λi j hi hj=>by rw[z i j hi hj,z j i hj hi],λi hi=>z i i hi hi⟩
theorem S2{n:Nat}{ts:List Xg}(ok:DictOk n ts):MatOk n (Gn n ts):=by
 have gen:∀(l:List Xg)(M:List (List Int)),(∀e∈l,e.1<e.2.1/\e.2.1<n/\1<=e.2.2/\e.2.2<=9)->MatOk n M->MatOk n (l.foldl Yc M):=by
  intro l
  induction l with
  | nil=>intro M _ h;exact h
  | cons e r ih=>
   intro M h hM;rw[fB];exact ih _ (λe' he'=>h e' (aT _ he')) (hM.step (h e ag))
 exact gen ts _ ok.ok (MatOk.zero n)
theorem MatOk.web{n:Nat}{M:List (List Int)}(h:MatOk n M)(h1:1<=n)(h7:n<=7):ZV M:=by have e:=h.len;subst e;exact⟨h1,h7,h.row,h.lo,h.hi,h.sym,h.dia⟩
theorem NU{α:Type}(n:Nat)(x:α):(aK n [x]).flatten=aK n x:=by
 induction n with
 | zero=>rfl
 | succ n ih=>rw[cQ,de,ih];rfl
theorem Ll{α β:Type}(f:β->α->β)(s:β){l:List α}{i:Nat}{x:α}(h:l[i]?=aA x):(l.take (i+1)).foldl f s=f ((l.take i).foldl f s) x:=by rw[jo,h];show mZ f s (l.take i++[x])=_;rw[jq];rfl
structure NamesOk(i:Nat)(l:List Int):Prop where
 len:l.length=i
 nd:l.Nodup
 lo:∀x∈l,0<=x
 hi:∀x∈l,x<i
theorem NamesOk.nil:NamesOk 0 []:=⟨rfl,cM,λ_ h=>by simp at h,λ_ h=>by simp at h⟩
theorem NamesOk.ins{i:Nat}{l:List Int}(h:NamesOk i l)(k:Nat):NamesOk (i+1) (l.take k++(i:Int)::l.drop k):=by
 have hp:(l.take k++(i:Int)::l.drop k).Perm ((i:Int)::l):=by have:=nK (a:=(i:Int)) (l₁:=l.take k) (l₂:=l.drop k);rw[lJ] at this;exact this
 refine⟨by rw[hp.length_eq,bA,h.len],?_,λx hx=>?_,λx hx=>?_⟩
 ·rw[hp.nodup_iff,az];exact⟨λhm=>by have:=h.hi _ hm;omega,h.nd⟩
 ·rcases a9.mp (hp.mem_iff.mp hx) with e | e
  ·omega
  ·exact h.lo x e
 ·rcases a9.mp (hp.mem_iff.mp hx) with e | e
  ·omega
  ·have:=h.hi x e;omega
theorem NamesOk.at{i:Nat}{l:List Int}(h:NamesOk i l){x:Nat}(hx:x<i):0<=ZL l x/\ZL l x<i:=by
 have e:ZL l x=l[x]'(by rw[h.len];exact hx):=by unfold ZL;rw[aL,aG (by rw[h.len];exact hx)];rfl
 rw[e];exact⟨h.lo _ (cA _),h.hi _ (cA _)⟩
theorem NamesOk.ne{i:Nat}{l:List Int}(h:NamesOk i l){x y:Nat}(hx:x<i)(hy:y<i)(n:x≠y):ZL l x≠ZL l y:=by
 have ex:ZL l x=l[x]'(by rw[h.len];exact hx):=by unfold ZL;rw[aL,aG (by rw[h.len];exact hx)];rfl
 have ey:ZL l y=l[y]'(by rw[h.len];exact hy):=by unfold ZL;rw[aL,aG (by rw[h.len];exact hy)];rfl
 rw[ex,ey];intro e;exact n ((kK h.nd).mp e)
theorem lt_size{n:Nat}(h:n<=10000):n<sizeLine:=m3 h (by decide)
end L2
namespace VL
open PySem PySem.Spec PyProof.Rows L2
variable {K:aI}
def NsO(od:dX)(f:ah)(u:aJ):Prop:=∀(hp:bw)(dx:aM),hp.get? dx=aA od->hp.Ns1 dx (λn=>if n=f then aA u else aB)
def EE(n:ah):ah:=if n = "NoWeb" then "place" else if n = "Apart" then "houses" else if n = "TooMany" then "most" else "total"
structure Lam where
 qual:ah
 params:mC
 body:bK
 scope:gk
 free:ah
inductive PV where
 | non | bl (b:Bool) | int (i:Int) | str (x:ah) | ty (n:String) | exc (n:ah) | exf (n:ah) (l:PV) | clo (L:Lam) (l:PV)
 | tup (l:List PV) | lst (l:List PV) | cst (l:List PV)
 | dK (ks:List YM) (vs:List PV) | dT (ks:List (List YM)) (vs:List PV)
instance:Inhabited PV:=⟨.non⟩
mutual
/-- nothing in it can be changed -/
def ZY:PV->Bool
 | .tup l=>ZC l
 | .cst l=>ZC l
 | .lst _=>aC
 | .dK _ _=>aC
 | .dT _ _=>aC
 | .non=>aD
 | .bl _=>aD
 | .int _=>aD
 | .str _=>aD
 | .ty _=>aD
 | .exc _=>aD
 | .exf _ _=>aD
 | .clo _ l=>ZY l
def ZC:List PV->Bool
 | []=>aD
 | x::r=>ZY x&&ZC r
end
theorem WV:∀l:List PV,ZC l=l.all ZY
 | []=>rfl
 | x::r=>by rw[jx,<-WV r];rfl
def KL(K:aI)(a:aM)(xs:List V):Prop:=
 ∃(o:dX) (pA:Array aJ) (n:Nat),K.lookup a=aA o/\o.cls = .type "list"/\o.dict=aB/\o.data = .seq pA n/\pA.size<=sizeLine/\Vals xs pA.toList
def CsK(K:aI)(H:Hp)(p:aM)(xs:List V):Prop:=(∃o,H p=aA (.frz o (.lst xs)))\/KL K p xs
theorem CsK.sq{K:aI}{H:Hp}{p:aM}{xs:List V}(h:CsK K H p xs):SqL K H p xs:=by
 rcases h with h | h
 ·exact .inl (.inr h)
 ·exact .inr h
def CloAt(H:Hp)(L:Lam)(v:V)(u:aJ):Prop:=∃f fo c oc e eo pm ct,v = .ref f/\H f=aA (.frz fo (.own 0))/\fo.data = .func (gZ "<lambda>" L.qual L.params L.body L.scope [(L.free,e)] pm (.ref c) ct)/\H c=aA (.frz oc (.own 0))/\M6 oc L.qual/\H e=aA (.frz eo (.own 1))/\eo.data = .cell (aA u)
mutual
/-- v is the tree l in the heap H;fp: the addresses of pA lists and dicts -/
def Is(K:aI)(H:Hp):PV->V->List aM->Prop
 | .non,v,fp=>v = .non/\fp=[]
 | .bl b,v,fp=>v = .bl b/\fp=[]
 | .int i,v,fp=>v = .int i/\fp=[]
 | .str x,v,fp=>v = .str x/\fp=[]
 | .ty n,v,fp=>v = .ty n/\fp=[]
 | .exc n,v,fp=>(∃e o x C,v = .ref e/\H e=aA (.frz o (.own x))/\o.cls = .ref C/\cB K bJ n=aA (aA (.ref C))/\o.dict=aB/\∃vs,o.data = .fields vs)/\fp=[]
 | .exf n l,v,fp=>(∃e o x C dx od u z,v = .ref e/\H e=aA (.frz o (.own x))/\o.cls = .ref C/\cB K bJ n=aA (aA (.ref C))/\o.dict=aA dx/\(∃vs,o.data = .fields vs)/\H dx=aA (.frz od (.own dx))/\NsO od (EE n) u/\RelV z u/\Is K H l z [])/\fp=[]
 | .clo L l,v,fp=>∃u x,CloAt H L v u/\RelV x u/\Is K H l x fp
 | .tup l,v,fp=>∃p xs,v = .ref p/\H p=aA (.tup xs)/\Iss K H l xs fp
 | .lst l,v,fp=>∃p xs fq,v = .ref p/\H p=aA (.lst xs)/\Iss K H l xs fq/\fp=p::fq
 | .cst l,v,fp=>∃p xs,v = .ref p/\CsK K H p xs/\Iss K H l xs fp
 | .dK ks l,v,fp=>∃p oy fq,v = .ref p/\Rd H p (.dK oy)/\oy.map (·.1)=ks/\Iss K H l (oy.map (·.2)) fq/\fp=p::fq
 | .dT ks l,v,fp=>∃p oy fq,v = .ref p/\Rd H p (.dT oy)/\oy.map (·.1)=ks/\Iss K H l (oy.map (·.2)) fq/\fp=p::fq
def Iss(K:aI)(H:Hp):List PV->List V->List aM->Prop
 | [],xs,fp=>xs=[]/\fp=[]
 | l::ls,xs,fp=>∃x r f1 f2,xs=x::r/\Is K H l x f1/\Iss K H ls r f2/\fp=f1++f2
end
def RdK(H H':Hp)(p:aM):Prop:=(∀xs,H p=aA (.lst xs)->H' p=aA (.lst xs))/\(∀oy,Rd H p (.dK oy)->Rd H' p (.dK oy))/\∀oy,Rd H p (.dT oy)->Rd H' p (.dT oy)
theorem RdK.of{H H':Hp}{p:aM}(h:∀o,H p=aA o->H' p=aA o):RdK H H' p:=by
 have r:∀u,Rd H p u->Rd H' p u:=λu q=>by
  rcases q with q | ⟨o,q⟩
  ·exact .inl (h _ q)
  ·exact .inr ⟨o,h _ q⟩
 exact⟨λ_=>h _,λ_=>r _,λ_=>r _⟩
structure TK2(H H':Hp):Prop where
 tup:TK H H'
 frz:∀b o xs,H b=aA (.frz o (.lst xs))->H' b=aA (.frz o (.lst xs))
 exc:∀b o x,H b=aA (.frz o (.own x))->H' b=aA (.frz o (.own x))
theorem Same.tk2{H H':Hp}(s:Same H H'):TK2 H H':=⟨s.tk,λb o xs h=>s b _ h,λb o x h=>s b _ h⟩
theorem CsK.tr{K:aI}{H H':Hp}(t:TK2 H H'){p:aM}{xs:List V}(h:CsK K H p xs):CsK K H' p xs:=by
 rcases h with⟨o,h⟩ | h
 ·exact .inl ⟨o,t.frz p o xs h⟩
 ·exact .inr h
theorem CloAt.tr{H H':Hp}(t:TK2 H H'){L:Lam}{v:V}{u:aJ}(h:CloAt H L v u):CloAt H' L v u:=by obtain⟨f,fo,c,oc,e,eo,pm,ct,h1,h2,h3,h4,h5,h6,h7⟩:=h;exact⟨f,fo,c,oc,e,eo,pm,ct,h1,t.exc f fo 0 h2,h3,t.exc c oc 0 h4,h5,t.exc e eo 1 h6,h7⟩
mutual
theorem Is.tr{H H':Hp}(ht:TK2 H H'):∀(l:PV)(v:V)(fp:List aM),(∀p∈fp,RdK H H' p)->Is K H l v fp->Is K H' l v fp
 | .non,_,_,_,h=>by simpa only[Is] using h
 | .bl _,_,_,_,h=>by simpa only[Is] using h
 | .int _,_,_,_,h=>by simpa only[Is] using h
 | .str _,_,_,_,h=>by simpa only[Is] using h
 | .ty _,_,_,_,h=>by simpa only[Is] using h
 | .exc _,_,_,_,h=>by simp only[Is] at h ⊢;obtain⟨⟨e,o,x,C,a,b,c⟩,d⟩:=h;exact⟨⟨e,o,x,C,a,ht.exc e o x b,c⟩,d⟩
 | .exf _ l,_,_,_,h=>by simp only[Is] at h ⊢;obtain⟨⟨e,o,x,C,dx,od,u,z,a,b,c1,c2,c3,c4,c5,c6,c7,c8⟩,d⟩:=h;exact⟨⟨e,o,x,C,dx,od,u,z,a,ht.exc e o x b,c1,c2,c3,c4,ht.exc dx od dx c5,c6,c7,Is.tr ht l z [] (λp hp=>by simp at hp) c8⟩,d⟩
 | .clo L l,v,fp,hm,h=>by simp only[Is] at h ⊢;obtain⟨u,x,hc,hr,hi⟩:=h;exact⟨u,x,hc.tr ht,hr,Is.tr ht l x fp hm hi⟩
 | .tup l,v,fp,hm,h=>by simp only[Is] at h ⊢;obtain⟨p,xs,e,hp,hi⟩:=h;exact⟨p,xs,e,ht.tup p xs hp,Iss.tr ht l xs fp hm hi⟩
 | .lst l,v,fp,hm,h=>by simp only[Is] at h ⊢;obtain⟨p,xs,fq,e,hr,hi,rfl⟩:=h;exact⟨p,xs,fq,e,(hm p ag).1 _ hr,Iss.tr ht l xs fq (λq hq=>hm q (aT _ hq)) hi,rfl⟩
 | .cst l,v,fp,hm,h=>by simp only[Is] at h ⊢;obtain⟨p,xs,e,hr,hi⟩:=h;exact⟨p,xs,e,hr.tr ht,Iss.tr ht l xs fp hm hi⟩
 | .dK ks l,v,fp,hm,h=>by simp only[Is] at h ⊢;obtain⟨p,oy,fq,e,hr,hk,hi,rfl⟩:=h;exact⟨p,oy,fq,e,(hm p ag).2.1 _ hr,hk,Iss.tr ht l _ fq (λq hq=>hm q (aT _ hq)) hi,rfl⟩
 | .dT ks l,v,fp,hm,h=>by simp only[Is] at h ⊢;obtain⟨p,oy,fq,e,hr,hk,hi,rfl⟩:=h;exact⟨p,oy,fq,e,(hm p ag).2.2 _ hr,hk,Iss.tr ht l _ fq (λq hq=>hm q (aT _ hq)) hi,rfl⟩
theorem Iss.tr{H H':Hp}(ht:TK2 H H'):∀(l:List PV)(xs:List V)(fp:List aM),(∀p∈fp,RdK H H' p)->Iss K H l xs fp->Iss K H' l xs fp
 | [],_,_,_,h=>by simpa only[Iss] using h
 | l::ls,xs,fp,hm,h=>by simp only[Iss] at h ⊢;obtain⟨x,r,f1,f2,e,h1,h2,rfl⟩:=h;exact⟨x,r,f1,f2,e,Is.tr ht l x f1 (λq hq=>hm q (av _ hq)) h1,Iss.tr ht ls r f2 (λq hq=>hm q (au _ hq)) h2,rfl⟩
end
theorem Is.mono{H H':Hp}(s:Same H H'){l:PV}{v:V}{fp:List aM}(h:Is K H l v fp):Is K H' l v fp:=Is.tr (Same.tk2 s) l v fp (λp _=>RdK.of λo q=>s p o q) h
theorem Iss.mono{H H':Hp}(s:Same H H'){l:List PV}{v:List V}{fp:List aM}(h:Iss K H l v fp):Iss K H' l v fp:=Iss.tr (Same.tk2 s) l v fp (λp _=>RdK.of λo q=>s p o q) h
mutual
theorem Is.pure{H:Hp}:∀(l:PV)(v:V)(fp:List aM),ZY l=aD->Is K H l v fp->fp=[]
 | .non,_,_,_,h=>by simp only[Is] at h;exact h.2
 | .bl _,_,_,_,h=>by simp only[Is] at h;exact h.2
 | .int _,_,_,_,h=>by simp only[Is] at h;exact h.2
 | .str _,_,_,_,h=>by simp only[Is] at h;exact h.2
 | .ty _,_,_,_,h=>by simp only[Is] at h;exact h.2
 | .exc _,_,_,_,h=>by simp only[Is] at h;exact h.2
 | .exf _ _,_,_,_,h=>by simp only[Is] at h;exact h.2
 | .clo L l,v,fp,hp,h=>by simp only[Is] at h;obtain⟨u,x,hc,hr,hi⟩:=h;exact Is.pure l x fp (by simpa only[ZY] using hp) hi
 | .tup l,v,fp,hp,h=>by simp only[Is] at h;obtain⟨p,xs,e,_,hi⟩:=h;exact Iss.pure l xs fp (by simpa only[ZY] using hp) hi
 | .lst l,v,fp,hp,h=>by simp[ZY] at hp
 | .cst l,v,fp,hp,h=>by simp only[Is] at h;obtain⟨p,xs,e,_,hi⟩:=h;exact Iss.pure l xs fp (by simpa only[ZY] using hp) hi
 | .dK ks l,v,fp,hp,h=>by simp[ZY] at hp
 | .dT ks l,v,fp,hp,h=>by simp[ZY] at hp
theorem Iss.pure{H:Hp}:∀(l:List PV)(xs:List V)(fp:List aM),ZC l=aD->Iss K H l xs fp->fp=[]
 | [],_,_,_,h=>by simp only[Iss] at h;exact h.2
 | l::ls,xs,fp,hp,h=>by simp only[Iss] at h;simp only[ZC,ak] at hp;obtain⟨x,r,f1,f2,e,h1,h2,rfl⟩:=h;rw[Is.pure l x f1 hp.1 h1,Iss.pure ls r f2 hp.2 h2];rfl
end
section
variable {H H':Hp}
theorem Iss.len:∀{l:List PV}{xs:List V}{fp:List aM},Iss K H l xs fp->xs.length=l.length
 | [],xs,fp,h=>by simp only[Iss] at h;rw[h.1];rfl
 | l::ls,xs,fp,h=>by simp only[Iss] at h;obtain⟨x,r,f1,f2,rfl,_,h2,_⟩:=h;rw[bA,bA,h2.len]
theorem Iss.get:∀{l:List PV}{xs:List V}{fp:List aM}{i:Nat}{a:PV},Iss K H l xs fp->l[i]?=aA a->∃x f1,xs[i]?=aA x/\Is K H a x f1/\∀p∈f1,p∈fp
 | [],xs,fp,i,a,h,e=>by simp at e
 | l::ls,xs,fp,0,a,h,e=>by simp only[Iss] at h;obtain⟨x,r,f1,f2,rfl,h1,_,rfl⟩:=h;simp at e;subst e;exact⟨x,f1,rfl,h1,λp hp=>av _ hp⟩
 | l::ls,xs,fp,i+1,a,h,e=>by simp only[Iss] at h;obtain⟨x,r,f1,f2,rfl,_,h2,rfl⟩:=h;obtain⟨y,g,h3,h4,h5⟩:=h2.get (i:=i) (a:=a) (by simpa using e);exact⟨y,g,by simpa using h3,h4,λp hp=>au _ (h5 p hp)⟩
theorem Iss.get'{l:List PV}{xs:List V}{fp:List aM}{i:Nat}{x:V}(h:Iss K H l xs fp)(e:xs[i]?=aA x):∃a f1,l[i]?=aA a/\Is K H a x f1/\∀p∈f1,p∈fp:=by
 have hi:i<l.length:=by rw[<-h.len];exact(aX.mp e).1
 obtain⟨y,f1,h1,h2,h3⟩:=h.get (aG hi);rw[e] at h1;cases h1;exact⟨_,f1,aG hi,h2,h3⟩
theorem Iss.nil:Iss K H [] [] []:=by simp[Iss]
theorem Iss.cons{l:PV}{ls:List PV}{x:V}{xs:List V}{f1 f2:List aM}(h1:Is K H l x f1)(h2:Iss K H ls xs f2):Iss K H (l::ls) (x::xs) (f1++f2):=by simp only[Iss];exact⟨x,xs,f1,f2,rfl,h1,h2,rfl⟩
theorem Iss.inv{l:PV}{ls:List PV}{xs:List V}{fp:List aM}(h:Iss K H (l::ls) xs fp):∃x r f1 f2,xs=x::r/\Is K H l x f1/\Iss K H ls r f2/\fp=f1++f2:=by simpa only[Iss] using h
theorem Iss.append:∀{l m:List PV}{xs ys:List V}{f1 f2:List aM},Iss K H l xs f1->Iss K H m ys f2->Iss K H (l++m) (xs++ys) (f1++f2)
 | [],m,xs,ys,f1,f2,h,h'=>by simp only[Iss] at h;rw[h.1,h.2];exact h'
 | l::ls,m,xs,ys,f1,f2,h,h'=>by obtain⟨x,r,g1,g2,rfl,a,b,rfl⟩:=h.inv;rw[fF];exact Iss.cons a (b.append h')
theorem Iss.one{l:PV}{x:V}{f:List aM}(h:Is K H l x f):Iss K H [l] [x] f:=by
 have:=Iss.cons h (Iss.nil (H:=H))
 rwa [dU] at this
theorem Iss.take:∀{l:List PV}{xs:List V}{fp:List aM}(n:Nat),Iss K H l xs fp->∃f1,Iss K H (l.take n) (xs.take n) f1/\∀p∈f1,p∈fp
 | l,xs,fp,0,h=>⟨[],by rw[oK,oK];exact Iss.nil,λp hp=>by simp at hp⟩
 | [],xs,fp,n+1,h=>by simp only[Iss] at h;rw[h.1];exact⟨[],by rw[o4,o4];exact Iss.nil,λp hp=>by simp at hp⟩
 | l::ls,xs,fp,n+1,h=>by
  obtain⟨x,r,f1,f2,rfl,h1,h2,rfl⟩:=h.inv;obtain⟨f3,a,b⟩:=h2.take n;refine⟨f1++f3,Iss.cons h1 a,λp hp=>?_⟩;rcases aq.mp hp with h | h
  ·exact av _ h
  ·exact au _ (b p h)
theorem Iss.drop:∀{l:List PV}{xs:List V}{fp:List aM}(n:Nat),Iss K H l xs fp->∃f1,Iss K H (l.drop n) (xs.drop n) f1/\∀p∈f1,p∈fp
 | l,xs,fp,0,h=>⟨fp,h,λp hp=>hp⟩
 | [],xs,fp,n+1,h=>by simp only[Iss] at h;rw[h.1];exact⟨[],by rw[o5,o5];exact Iss.nil,λp hp=>by simp at hp⟩
 | l::ls,xs,fp,n+1,h=>by obtain⟨x,r,f1,f2,rfl,h1,h2,rfl⟩:=h.inv;obtain⟨f3,a,b⟩:=h2.drop n;exact⟨f3,a,λp hp=>au _ (b p hp)⟩
theorem Iss.setP:∀{l:List PV}{xs:List V}{a:PV}{x:V}(i:Nat),ZC l=aD->ZY a=aD->Iss K H l xs []->Is K H a x []->Iss K H (l.set i a) (xs.set i x) []
 | [],xs,a,x,i,_,_,h,_=>by simp only[Iss] at h;rw[h.1];simp only[List.set_nil];exact Iss.nil
 | l::ls,xs,a,x,0,hp,_,h,ha=>by simp only[ZC,ak] at hp;obtain⟨y,r,f1,f2,rfl,_,h2,e⟩:=h.inv;have e2:=Iss.pure _ _ _ hp.2 h2;subst e2;exact Iss.cons (f1:=[]) ha h2
 | l::ls,xs,a,x,i+1,hp,hq,h,ha=>by simp only[ZC,ak] at hp;obtain⟨y,r,f1,f2,rfl,h1,h2,e⟩:=h.inv;have e1:=Is.pure _ _ _ hp.1 h1;have e2:=Iss.pure _ _ _ hp.2 h2;subst e1 e2;exact Iss.cons (f1:=[]) h1 (Iss.setP i hp.2 hq h2 ha)
theorem Is.int_inv{i:Int}{v:V}{fp:List aM}(h:Is K H (.int i) v fp):v = .int i/\fp=[]:=by simpa only[Is] using h
theorem Is.int(i:Int):Is K H (.int i) (.int i) []:=by simp[Is]
theorem Is.bl(i:Bool):Is K H (.bl i) (.bl i) []:=by simp[Is]
theorem Is.non:Is K H .non .non []:=by simp[Is]
theorem Is.str(x:ah):Is K H (.str x) (.str x) []:=by simp[Is]
theorem Is.ty(n:String):Is K H (.ty n) (.ty n) []:=by simp[Is]
theorem Is.bl_inv{i:Bool}{v:V}{fp:List aM}(h:Is K H (.bl i) v fp):v = .bl i/\fp=[]:=by simpa only[Is] using h
theorem Is.str_inv{i:ah}{v:V}{fp:List aM}(h:Is K H (.str i) v fp):v = .str i/\fp=[]:=by simpa only[Is] using h
theorem Is.non_inv{v:V}{fp:List aM}(h:Is K H .non v fp):v = .non/\fp=[]:=by simpa only[Is] using h
theorem Is.ty_inv{n:String}{v:V}{fp:List aM}(h:Is K H (.ty n) v fp):v = .ty n/\fp=[]:=by simpa only[Is] using h
theorem Is.tup_inv{l:List PV}{v:V}{fp:List aM}(h:Is K H (.tup l) v fp):∃p xs,v = .ref p/\H p=aA (.tup xs)/\Iss K H l xs fp:=by simpa only[Is] using h
theorem Is.tup{l:List PV}{p:aM}{xs:List V}{fp:List aM}(h:H p=aA (.tup xs))(hi:Iss K H l xs fp):Is K H (.tup l) (.ref p) fp:=by simp only[Is];exact⟨p,xs,rfl,h,hi⟩
theorem Is.lst_inv{l:List PV}{v:V}{fp:List aM}(h:Is K H (.lst l) v fp):∃p xs fq,v = .ref p/\H p=aA (.lst xs)/\Iss K H l xs fq/\fp=p::fq:=by simpa only[Is] using h
theorem Is.lst{l:List PV}{p:aM}{xs:List V}{fp:List aM}(h:H p=aA (.lst xs))(hi:Iss K H l xs fp):Is K H (.lst l) (.ref p) (p::fp):=by simp only[Is];exact⟨p,xs,fp,rfl,h,hi,rfl⟩
theorem Is.cst_inv{l:List PV}{v:V}{fp:List aM}(h:Is K H (.cst l) v fp):∃p xs,v = .ref p/\CsK K H p xs/\Iss K H l xs fp:=by simpa only[Is] using h
theorem Is.cst{l:List PV}{p:aM}{xs:List V}{fp:List aM}(h:CsK K H p xs)(hi:Iss K H l xs fp):Is K H (.cst l) (.ref p) fp:=by simp only[Is];exact⟨p,xs,rfl,h,hi⟩
theorem Is.dT_inv{ks:List (List YM)}{l:List PV}{v:V}{fp:List aM}(h:Is K H (.dT ks l) v fp):∃p oy fq,v = .ref p/\Rd H p (.dT oy)/\oy.map (·.1)=ks/\Iss K H l (oy.map (·.2)) fq/\fp=p::fq:=by simpa only[Is] using h
theorem Is.dT{ks:List (List YM)}{l:List PV}{p:aM}{oy:List (List YM×V)}{fp:List aM}(h:H p=aA (.dT oy))(hk:oy.map (·.1)=ks)(hi:Iss K H l (oy.map (·.2)) fp):Is K H (.dT ks l) (.ref p) (p::fp):=by simp only[Is];exact⟨p,oy,fp,rfl,.inl h,hk,hi,rfl⟩
theorem Is.dK_inv{ks:List YM}{l:List PV}{v:V}{fp:List aM}(h:Is K H (.dK ks l) v fp):∃p oy fq,v = .ref p/\Rd H p (.dK oy)/\oy.map (·.1)=ks/\Iss K H l (oy.map (·.2)) fq/\fp=p::fq:=by simpa only[Is] using h
theorem Is.dK{ks:List YM}{l:List PV}{p:aM}{oy:List (YM×V)}{fp:List aM}(h:H p=aA (.dK oy))(hk:oy.map (·.1)=ks)(hi:Iss K H l (oy.map (·.2)) fp):Is K H (.dK ks l) (.ref p) (p::fp):=by simp only[Is];exact⟨p,oy,fp,rfl,.inl h,hk,hi,rfl⟩
end
abbrev iL(l:List Int):List PV:=l.map PV.int
theorem Yd(l:List Int):ZC (iL l)=aD:=by rw[WV,bC];intro x hx;obtain⟨i,_,rfl⟩:=aa.mp hx;rfl
theorem Iss.iL{H:Hp}:∀{l:List Int}{xs:List V}{fp:List aM},Iss K H (VL.iL l) xs fp->xs=l.map V.int/\fp=[]
 | [],xs,fp,h=>by simpa only[VL.iL,da,Iss] using h
 | i::l,xs,fp,h=>by obtain⟨x,r,f1,f2,rfl,h1,h2,rfl⟩:=Iss.inv (show Iss K H (PV.int i::VL.iL l) xs fp from h);obtain⟨rfl,rfl⟩:=h1.int_inv;obtain⟨rfl,rfl⟩:=h2.iL;exact⟨rfl,rfl⟩
theorem Iss.ofInts{H:Hp}:∀(l:List Int),Iss K H (VL.iL l) (l.map V.int) []
 | []=>Iss.nil
 | i::l=>Iss.cons (f1:=[]) (Is.int i) (Iss.ofInts l)
end VL
namespace VL
open PySem PySem.Spec PyProof.Rows L2
variable {K:aI}
abbrev SO:=L2.St
abbrev ZJ:=List (Option PV)
abbrev XE:=ZJ->Option PV
structure EnvIs(K:aI)(Rm:aM->Prop)(H:Hp)(s:ZJ)(Z:SO):Prop where
 is:∀(i:Nat) l,s[i]?=aA (aA l)->∃v fp,Z[i]?=aA (aA v)/\Is K H l v fp/\∀p∈fp,¬Rm p
theorem EnvIs.mono{Rm:aM->Prop}{H H':Hp}{s:ZJ}{Z:SO}(h:EnvIs K Rm H s Z)(e:Same H H'):EnvIs K Rm H' s Z:=⟨λi l q=>by
 obtain⟨v,fp,a,b,c⟩:=h.is i l q;exact⟨v,fp,a,b.mono e,c⟩⟩
theorem EnvIs.free{Rm:aM->Prop}{H:Hp}{s:ZJ}{Z:SO}(h:EnvIs K Rm H s Z):EnvIs K (λ_=>False) H s Z:=⟨λi l q=>by
 obtain⟨v,fp,a,b,c⟩:=h.is i l q;exact⟨v,fp,a,b,λ_ _ z=>z⟩⟩
theorem Same.mut{H H':Hp}(e:Same H H'){p:aM}(h:Vx (H p)):Vx (H' p):=by
 cases q:H p with
 | none=>rw[q] at h;exact h.elim
 | some o=>rw[e p o q,<-q];exact h
theorem Xy{H:Hp}{p:aM}(h:Vx (H p)):H p≠aB:=λz=>by rw[z] at h;exact h
def tF(K:aI)(f:XE):TE:=λZ H Q=>∃(Rm:aM->Prop) (s:ZJ) (l:PV),(∀p,Rm p->Vx (H p))/\EnvIs K Rm H s Z/\f s=aA l/\∀v H' fp,Same H H'->Is K H' l v fp->(∀p∈fp,¬Rm p)->Q v H'
def tM(K:aI)(f:XE):TE:=λZ H Q=>∃(s:ZJ) (l:PV),EnvIs K (λ_=>False) H s Z/\f s=aA l/\∀v H' fp,Same H H'->Is K H' l v fp->fp.Nodup->(∀p∈fp,H p=aB/\Vx (H' p))->Q v H'
def VE(X:Cx)(e:bK)(f:XE):Prop:=PE X e (tF X.K f)
def VM(X:Cx)(e:bK)(f:XE):Prop:=PE X e (tM X.K f)
section
variable {X:Cx} {e:bK} {f g:XE} {t t':TE}
theorem PE.imp(h:PE X e t)(i:∀Z H Q,t' Z H Q->t Z H Q):PE X e t':=λdu s Z H Q I q=>h du s Z H Q I (i Z H Q q)
theorem VM.ve(h:VM X e f):VE X e f:=PE.imp h λZ H Q ⟨Rm,s,l,hd,env,e,k⟩=>
 ⟨s,l,env.free,e,λv H' fp sm i _ n=>k v H' fp sm i λp hp z=>Xy (hd p z) (n p hp).1⟩
def eP(f:XE):XE:=λs=>(f s).bind λl=>if ZY l=aD then aA l else aB
theorem EF{s:ZJ}{l:PV}(h:eP f s=aA l):f s=aA l/\ZY l=aD:=by
 unfold eP at h
 cases q:f s with
 | none=>rw[q] at h;cases h
 | some a=>
  rw[q] at h;simp only[aE] at h;split at h
  ·cases h;exact⟨rfl,by assumption⟩
  ·cases h
theorem VE.pure(h:VE X e f):VM X e (eP f):=PE.imp h λZ H Q ⟨s,l,env,e,k⟩=>by
 obtain⟨e1,e2⟩:=EF e;refine⟨λ_=>False,s,l,λ_ z=>z.elim,env,e1,λv H' fp sm i n=>?_⟩;have:=Is.pure l v fp e2 i;subst this;exact k v H' [] sm i cM λp hp=>by simp at hp
end
def Za(i:Nat):XE:=λs=>(s[i]?).join
def eC(l:PV):XE:=λ_=>aA l
theorem S3{i:Nat}{s:ZJ}{l:PV}(h:Za i s=aA l):s[i]?=aA (aA l):=by
 unfold Za at h
 cases q:s[i]? with
 | none=>rw[q] at h;cases h
 | some o=>rw[q] at h;cases o with
  | none=>cases h
  | some a=>cases h;rfl
section
variable {X:Cx} {pos:fN}
theorem Zc{e:bK}{i:Nat}(h:PE X e (Sb i)):VE X e (Za i):=PE.imp h λZ H Q ⟨Rm,s,l,hd,env,e,k⟩=>by obtain⟨v,fp,a,b,c⟩:=env.is i l (S3 e);exact⟨v,a,k v H fp (Same.refl H) b c⟩
theorem EG{e:bK}{v:V}{l:PV}(h:PE X e (tC v))(hv:∀H,Is X.K H l v []):VE X e (eC l):=PE.imp h λZ H Q ⟨Rm,s,l',hd,env,e,k⟩=>by
 cases e;exact k v H [] (Same.refl H) (hv H) λp hp=>by simp at hp
theorem Zi{i j}:VE X (.Constant (.int i) j pos) (eC (.int i)):=EG HS λ_=>Is.int i
theorem Oc{i j}:VE X (.Constant (.bool i) j pos) (eC (.bl i)):=EG BV λ_=>Is.bl i
theorem OT{j}:VE X (.Constant .none j pos) (eC .non):=EG HU λ_=>Is.non
end
def RB(K:aI)(r:R2)(g:PV->PV->Option PV):Prop:=∀(H:Hp)(x y:V)(a b l:PV)(fa fb:List aM),Is K H a x fa->Is K H b y fb->g a b=aA l->∀Q:VK,
 (∀v H' fp,Same H H'->Is K H' l v fp->(∀p∈fp,p∈fa\/p∈fb\/H p=aB)->Q v H')->r x y H Q
def Zf(g:PV->PV->Option PV)(a b:XE):XE:=λs=>(a s).bind λx=>(b s).bind λy=>g x y
theorem Vz{g:PV->PV->Option PV}{a b:XE}{s:ZJ}{l:PV}(h:Zf g a b s=aA l):∃x y,a s=aA x/\b s=aA y/\g x y=aA l:=by
 unfold Zf at h
 cases q:a s with
 | none=>rw[q] at h;cases h
 | some x=>cases q2:b s with
  | none=>rw[q,q2] at h;cases h
  | some y=>rw[q,q2] at h;exact⟨x,y,rfl,rfl,h⟩
section
variable {X:Cx} {a b:bK} {fa fb:XE} {pos:fN}
theorem K9{r:R2}{g:PV->PV->Option PV}(hr:RB K r g):∀Z H Q,tF K (Zf g fa fb) Z H Q->Cw r (tF K fa) (tF K fb) Z H Q:=λZ H Q ⟨Rm,s,l,hd,env,e,k⟩=>by
 obtain⟨x',y',ex,ey,e⟩:=Vz e;refine⟨Rm,s,x',hd,env,ex,λx H1 f1 s1 i1 n1=>⟨Rm,s,y',λp hp=>Same.mut s1 (hd p hp),env.mono s1,ey,λy H2 f2 s2 i2 n2=>?_⟩⟩;refine hr H2 x y x' y' l f1 f2 (i1.mono s2) i2 e Q λv H3 fp s3 i3 n3=>k v H3 fp (s1.trans (s2.trans s3)) i3 λp hp z=>?_;rcases n3 p hp with h | h | h
 ·exact n1 p h z
 ·exact n2 p h z
 ·exact Xy (Same.mut (s1.trans s2) (hd p z)) h
theorem Uz{op:Operator}{r:R2}{g:PV->PV->Option PV}(ho:Us X (fD op) r)(hr:RB X.K r g)(ha:VE X a fa)(hb:VE X b fb):VE X (.BinOp a op b pos) (Zf g fa fb):=
 PE.imp (HZ ho ha hb) (K9 hr)
theorem Ln{op:kq}{r:R2}{g:PV->PV->Option PV}(ho:Us X (cy op) r)(hr:RB X.K r g)(ha:VE X a fa)(hb:VE X b fb)(hm:cg op b=aC):VE X (.Compare a [op] [b] pos) (Zf g fa fb):=
 PE.imp (Ef ho ha hb hm) (K9 hr)
theorem As{r:R2}{g:PV->PV->Option PV}(ho:IxR X r)(hr:RB X.K r g)(ha:VE X a fa)(hb:VE X b fb)(hs:OK b):VE X (.Subscript a b pos) (Zf g fa fb):=
 PE.imp (KZ ho ha hb hs) (K9 hr)
end
def gI(g:Int->Int->Int):PV->PV->Option PV
 | .int i,.int j=>aA (.int (g i j))
 | _,_=>aB
def gB(g:Int->Int->Bool):PV->PV->Option PV
 | .int i,.int j=>aA (.bl (g i j))
 | _,_=>aB
def Gp(C:Int->Int->Prop)[∀i j,Decidable (C i j)](g:Int->Int->Int):PV->PV->Option PV
 | .int i,.int j=>if C i j then aA (.int (g i j)) else aB
 | _,_=>aB
theorem EH{g:Int->Int->Int}{a b l:PV}(h:gI g a b=aA l):∃i j,a = .int i/\b = .int j/\l = .int (g i j):=by
 unfold gI at h;split at h
 ·cases h;exact⟨_,_,rfl,rfl,rfl⟩
 ·cases h
theorem EI{g:Int->Int->Bool}{a b l:PV}(h:gB g a b=aA l):∃i j,a = .int i/\b = .int j/\l = .bl (g i j):=by
 unfold gB at h;split at h
 ·cases h;exact⟨_,_,rfl,rfl,rfl⟩
 ·cases h
theorem Gq{C:Int->Int->Prop}[∀i j,Decidable (C i j)]{g:Int->Int->Int}{a b l:PV}(h:Gp C g a b=aA l):∃i j,a = .int i/\b = .int j/\C i j/\l = .int (g i j):=by
 unfold Gp at h;split at h
 ·split at h
  ·cases h;exact⟨_,_,rfl,rfl,by assumption,rfl⟩
  ·cases h
 ·cases h
theorem Au(g:Int->Int->Int):RB K (Ed λi j=>.int (g i j)) (gI g):=λH x y a b l fa fb ha hb e Q k=>by obtain⟨i,j,rfl,rfl,rfl⟩:=EH e;exact⟨i,j,ha.int_inv.1,hb.int_inv.1,k _ H [] (Same.refl H) (Is.int _) λp hp=>by simp at hp⟩
theorem Lo(g:Int->Int->Bool):RB K (Ed λi j=>.bl (g i j)) (gB g):=λH x y a b l fa fb ha hb e Q k=>by obtain⟨i,j,rfl,rfl,rfl⟩:=EI e;exact⟨i,j,ha.int_inv.1,hb.int_inv.1,k _ H [] (Same.refl H) (Is.bl _) λp hp=>by simp at hp⟩
theorem Od(C:Int->Int->Prop)[∀i j,Decidable (C i j)](g:Int->Int->Int):RB K (rI C λi j=>.int (g i j)) (Gp C g):=λH x y a b l fa fb ha hb e Q k=>by obtain⟨i,j,rfl,rfl,c,rfl⟩:=Gq e;exact⟨i,j,ha.int_inv.1,hb.int_inv.1,c,k _ H [] (Same.refl H) (Is.int _) λp hp=>by simp at hp⟩
instance (i j:Int):Decidable (CMul i j):=by unfold CMul;infer_instance
instance (i j:Int):Decidable (Qc i j):=by unfold Qc;infer_instance
instance (i j:Int):Decidable (DR i j):=by unfold DR;infer_instance
instance (i j:Int):Decidable (H9 i j):=by unfold H9;infer_instance
abbrev ZO:=gI (· + ·)
abbrev Xo:=gI (· - ·)
abbrev EJ:=Gp CMul (· * ·)
abbrev W6:=Gp Qc (· / ·)
abbrev Z9:=Gp (λ_ j=>0<j) (· % ·)
abbrev Lp:=Gp H9 (λi j=>i^j.toNat)
abbrev S4:=gB (λi j=>decide (i<j))
abbrev EK:=gB (λi j=>decide (i<=j))
abbrev Av:=gB (λi j=>decide (j<i))
section
variable {X:Cx} {a b:bK} {fa fb:XE} {pos:fN}
theorem Y5(ha:VE X a fa)(hb:VE X b fb):VE X (.BinOp a .Add b pos) (Zf ZO fa fb):=Uz CA (Au _) ha hb
theorem Ww(ha:VE X a fa)(hb:VE X b fb):VE X (.BinOp a .Sub b pos) (Zf Xo fa fb):=Uz CB (Au _) ha hb
theorem C3(ha:VE X a fa)(hb:VE X b fb):VE X (.BinOp a .Mult b pos) (Zf EJ fa fb):=Uz CC (Od _ _) ha hb
theorem WI(ha:VE X a fa)(hb:VE X b fb):VE X (.BinOp a .FloorDiv b pos) (Zf W6 fa fb):=Uz Ee (Od _ _) ha hb
theorem Y6(ha:VE X a fa)(hb:VE X b fb):VE X (.BinOp a .Mod b pos) (Zf Z9 fa fb):=Uz CD (Od _ _) ha hb
theorem Gr(ha:VE X a fa)(hb:VE X b fb):VE X (.BinOp a .Pow b pos) (Zf Lp fa fb):=Uz CF (Od _ _) ha hb
theorem Aw(ha:VE X a fa)(hb:VE X b fb):VE X (.Compare a [.Lt] [b] pos) (Zf S4 fa fb):=Ln KR (Lo _) ha hb (SR _)
end
def Zn:PV->PV->Option PV
 | .lst l,.int i=>Ts l i
 | .cst l,.int i=>Ts l i
 | .tup l,.int i=>Ts l i
 | .str z,.int i=>if z.length<=sizeLine then(Ts z.cps.toList i).map λc=>.str ⟨#[c]⟩ else aB
 | _,_=>aB
theorem Lq{l:List PV}{xs:List V}{H:Hp}{fp:List aM}{i:Int}{a:PV}(h:Iss K H l xs fp)(e:Ts l i=aA a):∃x f1,Ts xs i=aA x/\Is K H a x f1/\∀p∈f1,p∈fp:=by
 unfold Ts at e ⊢;rw[h.len]
 cases q:M4 l.length i with
 | none=>rw[q] at e;cases e
 | some j=>rw[q] at e;exact h.get e
theorem Ax:RB K (rIx K) Zn:=λH x y a b l fa fb ha hb e Q k=>by
 unfold Zn at e;split at e
 ·obtain⟨p,xs,fq,rfl,hp,hi,rfl⟩:=ha.lst_inv;obtain⟨z,f1,h1,h2,h3⟩:=Lq hi e;exact .inl ⟨p,xs,_,z,rfl,hb.int_inv.1,SqL.of hp,h1,k z H f1 (Same.refl H) h2 λq hq=>.inl (aT _ (h3 q hq))⟩
 ·obtain⟨p,xs,rfl,hp,hi⟩:=ha.cst_inv;obtain⟨z,f1,h1,h2,h3⟩:=Lq hi e;exact .inl ⟨p,xs,_,z,rfl,hb.int_inv.1,hp.sq,h1,k z H f1 (Same.refl H) h2 λq hq=>.inl (h3 q hq)⟩
 ·obtain⟨p,xs,rfl,hp,hi⟩:=ha.tup_inv;obtain⟨z,f1,h1,h2,h3⟩:=Lq hi e;exact .inr (.inl ⟨p,xs,_,z,rfl,hb.int_inv.1,SqT.of hp,h1,k z H f1 (Same.refl H) h2 λq hq=>.inl (h3 q hq)⟩)
 ·split at e
  ·cases q:Ts _ _ with
   | none=>rw[q] at e;cases e
   | some c=>
    rw[q] at e;cases e;exact .inr (.inr ⟨_,_,c,ha.str_inv.1,hb.int_inv.1,by assumption,q,k _ H [] (Same.refl H) (Is.str _) λp hp=>by simp at hp⟩)
  ·cases e
 ·cases e
section
variable {X:Cx} {a b:bK} {fa fb:XE} {pos:fN}
theorem Zq(ha:VE X a fa)(hb:VE X b fb)(hs:OK b:=by exact λ_ _=>rfl):VE X (.Subscript a b pos) (Zf Zn fa fb):=As CO Ax ha hb hs
end
abbrev XT:=ZJ->Option Bool
def M5(K:aI)(f:XT):TT:=λZ H Q=>∃(Rm:aM->Prop) (s:ZJ) (c:Bool),(∀p,Rm p->Vx (H p))/\EnvIs K Rm H s Z/\f s=aA c/\∀H',Same H H'->Q c H'
def VT(X:Cx)(e:bK)(f:XT):Prop:=PT X e (M5 X.K f)
def VW(X:Cx)(e:bK)(f:XT):Prop:=PW X e (M5 X.K f)
section
variable {X:Cx} {e:bK} {f:XT}
theorem PT.imp{t t':TT}(h:PT X e t)(i:∀Z H Q,t' Z H Q->t Z H Q):PT X e t':=λdu s Z H Q I q=>h du s Z H Q I (i Z H Q q)
theorem PW.imp{t t':TT}(h:PW X e t)(i:∀Z H Q,t' Z H Q->t Z H Q):PW X e t':=λwhole du s Z H Q I q=>h whole du s Z H Q I (i Z H Q q)
theorem VW.vt(h:VW X e f):VT X e f:=PW.pt h
end
def xB(f:XE):XT:=λs=>match f s with | some (.bl c)=>aA c | _=>aB
theorem Si{f:XE}{s:ZJ}{c:Bool}(h:xB f s=aA c):f s=aA (.bl c):=by
 unfold xB at h;split at h
 ·cases h;assumption
 ·cases h
def Ay:PV->Option Bool
 | .non=>aA aC
 | .bl b=>aA b
 | .int i=>aA (i != 0)
 | .str y=>if y.length<=sizeLine then aA ((y.length:Int) != 0) else aB
 | .lst l=>aA !l.isEmpty
 | .cst l=>aA !l.isEmpty
 | .tup l=>aA !l.isEmpty
 | _=>aB
def xV(f:XE):XT:=λs=>(f s).bind Ay
section
variable {X:Cx} {a b c:bK} {Zt:List bK} {fa fb:XE} {ga gb:XT} {pos:fN}
theorem VZ(h:VE X a fa)(he:∀whole,mX a X.env whole=(do let v <-whole;nu a.pos;holding [v] (truthy v)):=by intro _;rfl):VT X a (xB fa):=
 PT.imp (Cj h he) λZ H Q ⟨Rm,s,c,hd,env,e,k⟩=>⟨Rm,s,.bl c,hd,env,Si e,λv H' fp sm i n=>⟨c,i.bl_inv.1,k H' sm⟩⟩
theorem NV:∀Z H Q,M5 K (xB fa) Z H Q->NK (tF K fa) Z H Q:=λZ H Q ⟨Rm,s,c,hd,env,e,k⟩=>⟨Rm,s,.bl c,hd,env,Si e,λv H' fp sm i n=>⟨c,i.bl_inv.1,k H' sm⟩⟩
theorem Qn{t t':TE}(i:∀Z H Q,t' Z H Q->t Z H Q):∀Z H Q,NK t' Z H Q->NK t Z H Q:=λZ H Q h=>i Z H _ h
theorem S5{op:kq}{r:R2}{g:PV->PV->Option PV}(ho:Us X (cy op) r)(hr:RB X.K r g)(ha:VE X a fa)(hb:VE X b fb)(hm:cg op b=aC):VT X (.Compare a [op] [b] pos) (xB (Zf g fa fb)):=
 PT.imp (Eg ho ha hb hm) λZ H Q h=>Qn (K9 hr) Z H Q (NV Z H Q h)
theorem NW(ha:VE X a fa)(hb:VE X b fb):VT X (.Compare a [.Lt] [b] pos) (xB (Zf S4 fa fb)):=S5 KR (Lo _) ha hb (SR _)
theorem Az(ha:VE X a fa)(hb:VE X b fb):VT X (.Compare a [.Gt] [b] pos) (xB (Zf Av fa fb)):=S5 Aa (Lo _) ha hb (SR _)
def Wr(a b:XT):XT:=λs=>(a s).bind λc=>if c=aD then b s else aA aC
def Gs(a b:XT):XT:=λs=>(a s).bind λc=>if c=aD then aA aD else b s
def WK(a:XT):XT:=λs=>(a s).map not
theorem EL:∀Z H Q,M5 K (Wr ga gb) Z H Q->BW (M5 K ga) (M5 K gb) Z H Q:=λZ H Q ⟨Rm,s,c,hd,env,e,k⟩=>by
 unfold Wr at e
 cases q:ga s with
 | none=>rw[q] at e;cases e
 | some d=>
  rw[q] at e;refine⟨Rm,s,d,hd,env,q,λH1 s1=>?_⟩
  cases d with
  | true=>
   simp only[aE,if_true] at e;rw[pC rfl];exact⟨Rm,s,c,λp hp=>Same.mut s1 (hd p hp),env.mono s1,e,λH2 s2=>k H2 (s1.trans s2)⟩
  | false=>
   simp only[aE,b9,if_false] at e;cases e;rw[pE aw];exact k H1 s1
theorem C4:∀Z H Q,M5 K (Gs ga gb) Z H Q->tOr (M5 K ga) (M5 K gb) Z H Q:=λZ H Q ⟨Rm,s,c,hd,env,e,k⟩=>by
 unfold Gs at e
 cases q:ga s with
 | none=>rw[q] at e;cases e
 | some d=>
  rw[q] at e;refine⟨Rm,s,d,hd,env,q,λH1 s1=>?_⟩
  cases d with
  | true=>
   simp only[aE,if_true] at e;cases e;rw[pC rfl];exact k H1 s1
  | false=>
   simp only[aE,b9,if_false] at e;rw[pE aw];exact⟨Rm,s,c,λp hp=>Same.mut s1 (hd p hp),env.mono s1,e,λH2 s2=>k H2 (s1.trans s2)⟩
theorem WL(ha:VT X a ga):VW X (.BoolOp .And [a] pos) ga:=F9 ha
theorem OU(ha:VT X a ga):VW X (.BoolOp .Or [a] pos) ga:=Ck ha
theorem V0(ha:VT X a ga)(hb:VW X (.BoolOp .And (b::Zt) pos) gb):VW X (.BoolOp .And (a::b::Zt) pos) (Wr ga gb):=PW.imp (Cm ha hb) EL
theorem Ja(ha:VT X a ga)(hb:VW X (.BoolOp .Or (b::Zt) pos) gb):VW X (.BoolOp .Or (a::b::Zt) pos) (Gs ga gb):=PW.imp (BX ha hb) C4
theorem V1(ha:VT X a ga):VT X (.UnaryOp .Not a pos) (WK ga):=PT.imp (Cn ha) λZ H Q ⟨Rm,s,c,hd,env,e,k⟩=>by
 unfold WK at e
 cases q:ga s with
 | none=>rw[q] at e;cases e
 | some d=>rw[q] at e;cases e;exact⟨Rm,s,d,hd,env,q,k⟩
theorem Gu(ha:VE X a fa)(he:∀whole,mX a X.env whole=(do let v <-whole;nu a.pos;holding [v] (truthy v)):=by intro _;rfl):VT X a (xV fa):=
 PT.imp (Gd ha he) λZ H Q ⟨Rm,s,c,hd,env,e,k⟩=>by
 unfold xV at e
 cases q:fa s with
 | none=>rw[q] at e;cases e
 | some l=>
  rw[q] at e;simp only[aE] at e;refine⟨Rm,s,l,hd,env,q,λv H' fp sm i n=>⟨c,?_,k H' sm⟩⟩
  cases l with
  | non=>rw[i.non_inv.1];cases e;rfl
  | bl b=>rw[i.bl_inv.1];cases e;rfl
  | int j=>rw[i.int_inv.1];cases e;rfl
  | str y=>
   rw[i.str_inv.1];simp only[Ay] at e;split at e
   ·cases e;exact⟨by assumption,rfl⟩
   ·cases e
  | lst l=>
   obtain⟨p,xs,fq,rfl,hp,hi,_⟩:=i.lst_inv;cases e;refine .inl ⟨xs,SqL.of hp,?_⟩;have:=hi.len;cases xs<;>cases l<;>simp at this ⊢
  | cst l=>
   obtain⟨p,xs,rfl,hp,hi⟩:=i.cst_inv;cases e;refine .inl ⟨xs,hp.sq,?_⟩;have:=hi.len;cases xs<;>cases l<;>simp at this ⊢
  | tup l=>
   obtain⟨p,xs,rfl,hp,hi⟩:=i.tup_inv;cases e;refine .inr (.inl ⟨xs,SqT.of hp,?_⟩);have:=hi.len;cases xs<;>cases l<;>simp at this ⊢
  | ty n=>cases e
  | exc C=>cases e
  | exf C l=>cases e
  | clo C l=>cases e
  | dK ks l=>cases e
  | dT ks l=>cases e
end
section
variable {X:Cx} {a b c:bK} {Zt:List bK} {fa fb:XE} {gc:XT} {pos:fN}
def Qo(a b:XE):XE:=λs=>(xB a s).bind λc=>if c=aD then b s else aA (.bl aC)
def eOr(a b:XE):XE:=λs=>(xB a s).bind λc=>if c=aD then aA (.bl aD) else b s
def EM(a:XE):XE:=λs=>(xB a s).map λc=>.bl !c
def HM(c:XT)(a b:XE):XE:=λs=>(c s).bind λk=>if k=aD then a s else b s
theorem S6{op}(h:VE X a fa):VE X (.BoolOp op [a] pos) fa:=Co h
theorem TN(ha:VE X a fa)(hb:VE X (.BoolOp .And (b::Zt) pos) fb):VE X (.BoolOp .And (a::b::Zt) pos) (Qo fa fb):=PE.imp (Cp ha hb) λZ H Q ⟨Rm,s,l,hd,env,e,k⟩=>by
 unfold Qo at e
 cases q:xB fa s with
 | none=>rw[q] at e;cases e
 | some d=>
  rw[q] at e;refine⟨Rm,s,.bl d,hd,env,Si q,λv H1 fp s1 i1 _=>⟨d,i1.bl_inv.1,?_⟩⟩
  cases d with
  | true=>
   simp only[aE,if_true] at e;rw[pC rfl];exact⟨Rm,s,l,λp hp=>Same.mut s1 (hd p hp),env.mono s1,e,λv2 H2 fp2 s2 i2 n2=>k v2 H2 fp2 (s1.trans s2) i2 n2⟩
  | false=>
   simp only[aE,b9,if_false] at e;cases e;rw[pE aw];exact k _ H1 [] s1 (Is.bl aC) λp hp=>by simp at hp
theorem C5(ha:VE X a fa):VE X (.UnaryOp .Not a pos) (EM fa):=PE.imp (Cq ha) λZ H Q ⟨Rm,s,l,hd,env,e,k⟩=>by
 unfold EM at e
 cases q:xB fa s with
 | none=>rw[q] at e;cases e
 | some d=>
  rw[q] at e;cases e;exact⟨Rm,s,.bl d,hd,env,Si q,λv H1 fp s1 i1 _=>⟨d,i1.bl_inv.1,k _ H1 [] s1 (Is.bl _) λp hp=>by simp at hp⟩⟩
theorem DY(hc:VT X c gc)(ha:VE X a fa)(hb:VE X b fb):VE X (.IfExp c a b pos) (HM gc fa fb):=PE.imp (HX hc ha hb) λZ H Q ⟨Rm,s,l,hd,env,e,k⟩=>by
 unfold HM at e
 cases q:gc s with
 | none=>rw[q] at e;cases e
 | some d=>
  rw[q] at e;refine⟨Rm,s,d,hd,env,q,λH1 s1=>?_⟩
  cases d with
  | true=>
   simp only[aE,if_true] at e;rw[pC rfl];exact⟨Rm,s,l,λp hp=>Same.mut s1 (hd p hp),env.mono s1,e,λv2 H2 fp2 s2 i2 n2=>k v2 H2 fp2 (s1.trans s2) i2 n2⟩
  | false=>
   simp only[aE,b9,if_false] at e;rw[pE aw];exact⟨Rm,s,l,λp hp=>Same.mut s1 (hd p hp),env.mono s1,e,λv2 H2 fp2 s2 i2 n2=>k v2 H2 fp2 (s1.trans s2) i2 n2⟩
end
section
variable {X:Cx} {a b c:bK} {fa fb fc:XE} {pos:fN}
def RU(neg:Bool):PV->Option PV
 | .non=>aA (.bl !neg)
 | _=>aA (.bl neg)
def Qp:PV->Bool
 | .non=>aD
 | _=>aC
theorem Lr{H:Hp}{l:PV}{v:V}{fp:List aM}(i:Is K H l v fp):decide (v=V.non)=Qp l:=by
 cases l with
 | non=>rw[i.non_inv.1];rfl
 | bl b=>rw[i.bl_inv.1];rfl
 | int j=>rw[i.int_inv.1];rfl
 | str y=>rw[i.str_inv.1];rfl
 | ty n=>rw[i.ty_inv.1];rfl
 | exc C=>simp only[Is] at i;obtain⟨⟨e,o,x,C,rfl,_⟩,_⟩:=i;rfl
 | exf C l=>simp only[Is] at i;obtain⟨⟨e,o,x,C,dx,od,u,z,rfl,_⟩,_⟩:=i;rfl
 | clo C l=>simp only[Is] at i;obtain⟨u,x,⟨f,fo,c,oc,e,eo,pm,ct,rfl,_⟩,_⟩:=i;rfl
 | lst l=>obtain⟨p,xs,fq,rfl,_⟩:=i.lst_inv;rfl
 | cst l=>obtain⟨p,xs,rfl,_⟩:=i.cst_inv;rfl
 | tup l=>obtain⟨p,xs,rfl,_⟩:=i.tup_inv;rfl
 | dK ks l=>obtain⟨p,xs,fq,rfl,_⟩:=i.dK_inv;rfl
 | dT ks l=>obtain⟨p,xs,fq,rfl,_⟩:=i.dT_inv;rfl
def Tq(neg:Bool)(a:XE):XE:=λs=>(a s).bind (RU neg)
theorem NX:∀Z H Q,tF K (Tq aD fa) Z H Q->DM (tF K fa) Z H Q:=λZ H Q ⟨Rm,s,l,hd,env,e,k⟩=>by
 unfold Tq at e
 cases q:fa s with
 | none=>rw[q] at e;cases e
 | some m=>
  rw[q] at e;simp only[aE] at e;refine⟨Rm,s,m,hd,env,q,λv H1 fp s1 i1 _=>?_⟩;show Q _ H1;rw[Lr i1];have:l = .bl (!Qp m):=by cases m<;>cases e<;>rfl
  subst this;exact k _ H1 [] s1 (Is.bl _) λp hp=>by simp at hp
theorem EN{j pos'}(ha:VE X a fa):VE X (.Compare a [.IsNot] [.Constant .none j pos'] pos) (Tq aD fa):=PE.imp (Ci (KN ha)) NX
theorem DZ:∀Z H Q,M5 K (xB fa) Z H Q->tB (tF K fa) Z H Q:=λZ H Q ⟨Rm,s,c,hd,env,e,k⟩=>⟨Rm,s,.bl c,hd,env,Si e,λv H' fp sm i n=>⟨c,i.bl_inv.1,k H' sm⟩⟩
theorem Jb{t t':TE}(i:∀Z H Q,t' Z H Q->t Z H Q):∀Z H Q,tB t' Z H Q->tB t Z H Q:=λZ H Q h=>i Z H _ h
theorem R0{j pos'}(ha:VE X a fa):VT X (.Compare a [.IsNot] [.Constant .none j pos'] pos) (xB (Tq aD fa)):=PT.imp (HW (KN ha)) λZ H Q h=>Jb NX Z H Q (DZ Z H Q h)
def NY:PV->Option PV
 | .int i=>aA (.int (-i))
 | _=>aB
def RI(g:PV->Option PV)(a:XE):XE:=λs=>(a s).bind g
theorem Gv(ha:VE X a fa):VE X (.UnaryOp .USub a pos) (RI NY fa):=PE.imp (B8 CG ha) λZ H Q ⟨Rm,s,l,hd,env,e,k⟩=>by
 unfold RI at e
 cases q:fa s with
 | none=>rw[q] at e;cases e
 | some m=>
  rw[q] at e;simp only[aE] at e;unfold NY at e;split at e
  ·cases e;exact⟨Rm,s,_,hd,env,q,λv H1 fp s1 i1 _=>⟨_,i1.int_inv.1,k _ H1 [] s1 (Is.int _) λp hp=>by simp at hp⟩⟩
  ·cases e
end
end VL
namespace VL
open PySem PySem.Spec PyProof.Rows L2
variable {K:aI}
def T9:List XE->ZJ->Option (List PV)
 | [],_=>aA []
 | f::fs,s=>(f s).bind λx=>(T9 fs s).map (x::·)
theorem Qq{f:XE}{fs:List XE}{s:ZJ}{ls:List PV}(h:T9 (f::fs) s=aA ls):∃x r,f s=aA x/\T9 fs s=aA r/\ls=x::r:=by
 unfold T9 at h
 cases q:f s with
 | none=>rw[q] at h;cases h
 | some x=>cases q2:T9 fs s with
  | none=>rw[q,q2] at h;cases h
  | some r=>rw[q,q2] at h;cases h;exact⟨x,r,rfl,rfl,rfl⟩
theorem V2:∀{fs:List XE}{s:ZJ}{ls:List PV},T9 fs s=aA ls->ls.length=fs.length
 | [],_,_,h=>by cases h;rfl
 | f::fs,s,ls,h=>by obtain⟨x,r,_,h2,rfl⟩:=Qq h;rw[bA,bA,V2 h2]
def tFA(K:aI)(fs:List XE):TA:=λZ H Q=>∃(Rm:aM->Prop) (s:ZJ) (ls:List PV),(∀p,Rm p->Vx (H p))/\EnvIs K Rm H s Z/\T9 fs s=aA ls/\∀vs H' fp,Same H H'->Iss K H' ls vs fp->(∀p∈fp,¬Rm p)->Q vs H'
def tMA(K:aI)(fs:List XE):TA:=λZ H Q=>∃(s:ZJ) (ls:List PV),EnvIs K (λ_=>False) H s Z/\T9 fs s=aA ls/\∀vs H' fp,Same H H'->Iss K H' ls vs fp->fp.Nodup->(∀p∈fp,H p=aB/\Vx (H' p))->Q vs H'
def VA(X:Cx)(es:List bK)(fs:List XE):Prop:=PA X es (tFA X.K fs)
def A9(X:Cx)(es:List bK)(fs:List XE):Prop:=PA X es (tMA X.K fs)
section
variable {X:Cx} {e:bK} {es:List bK} {f:XE} {fs:List XE} {pos:fN} {k:Nat}
theorem PA.imp{t t':TA}(h:PA X es t)(i:∀Z H Q,t' Z H Q->t Z H Q):PA X es t':=λpos du s Z H Q I q=>h pos du s Z H Q I (i Z H Q q)
theorem Zh:VA X [] []:=PA.imp YU λZ H Q ⟨Rm,s,ls,hd,env,e,k⟩=>by
 cases e;exact k [] H [] (Same.refl H) Iss.nil λp hp=>by simp at hp
theorem Zb(ha:VE X e f)(hr:VA X es fs)(hs:aR (e::es) X.env=(aC,eval e X.env)::aR es X.env:=by rfl):VA X (e::es) (f::fs):=PA.imp (ZW ha hr hs) λZ H Q ⟨Rm,s,ls,hd,env,e,k⟩=>by
 obtain⟨x',r',h1,h2,rfl⟩:=Qq e;refine⟨Rm,s,x',hd,env,h1,λx H1 f1 s1 i1 n1=>⟨Rm,s,r',λp hp=>Same.mut s1 (hd p hp),env.mono s1,h2,λxs H2 f2 s2 i2 n2=>?_⟩⟩;refine k _ H2 (f1++f2) (s1.trans s2) (Iss.cons (i1.mono s2) i2) λp hp=>?_;rcases aq.mp hp with h | h
 ·exact n1 p h
 ·exact n2 p h
theorem Xc:A9 X [] []:=PA.imp YU λZ H Q ⟨s,ls,env,e,k⟩=>by
 cases e;exact k [] H [] (Same.refl H) Iss.nil cM λp hp=>by simp at hp
theorem Xw(ha:VM X e f)(hr:A9 X es fs)(hs:aR (e::es) X.env=(aC,eval e X.env)::aR es X.env:=by rfl):A9 X (e::es) (f::fs):=PA.imp (ZW ha hr hs) λZ H Q ⟨s,ls,env,e,k⟩=>by
 obtain⟨x',r',h1,h2,rfl⟩:=Qq e;refine⟨s,x',env,h1,λx H1 f1 s1 i1 d1 n1=>⟨s,r',env.mono s1,h2,λxs H2 f2 s2 i2 d2 n2=>?_⟩⟩;refine k _ H2 (f1++f2) (s1.trans s2) (Iss.cons (i1.mono s2) i2) ?_ λp hp=>?_
 ·refine cW.mpr ⟨d1,d2,λa ha b hb z=>?_⟩;subst z;exact Xy (n1 a ha).2 (n2 a hb).1
 ·rcases aq.mp hp with h | h
  ·exact⟨(n1 p h).1,Same.mut s2 (n1 p h).2⟩
  ·exact⟨Same.off s1 (n2 p h).1,(n2 p h).2⟩
def Yg(fs:List XE):XE:=λs=>(T9 fs s).map .tup
def ZN(fs:List XE):XE:=λs=>(T9 fs s).map .lst
theorem map_some{α β:Type}{o:Option α}{g:α->β}{b:β}(h:o.map g=aA b):∃a,o=aA a/\b=g a:=by
 cases o with
 | none=>cases h
 | some a=>cases h;exact⟨a,rfl,rfl⟩
theorem Wx(h:VA X es fs)(hl:fs.length<=1000:=by decide):VE X (.Tuple es k pos) (Yg fs):=PE.imp (CI h) λZ H Q ⟨Rm,s,l,hd,env,e,q⟩=>by
 obtain⟨ls,e1,rfl⟩:=map_some e;refine⟨Rm,s,ls,hd,env,e1,λvs H1 fp s1 i1 n1=>⟨?_,λp hp=>?_⟩⟩
 ·rw[i1.len,V2 e1];exact dH (lt_size (by omega))
 ·exact q _ _ fp (s1.trans (Same.new hp _)) (Is.tup upd_same (i1.mono (Same.new hp _))) n1
theorem Wy(h:VA X es fs)(hl:fs.length<=1000:=by decide):VE X (.List es pos) (ZN fs):=PE.imp (Lf h) λZ H Q ⟨Rm,s,l,hd,env,e,q⟩=>by
 obtain⟨ls,e1,rfl⟩:=map_some e;refine⟨Rm,s,ls,hd,env,e1,λvs H1 fp s1 i1 n1=>⟨?_,λp hp=>?_⟩⟩
 ·rw[i1.len,V2 e1];exact dH (lt_size (by omega))
 ·refine q _ _ (p::fp) (s1.trans (Same.new hp _)) (Is.lst upd_same (i1.mono (Same.new hp _))) λa ha z=>?_;rcases a9.mp ha with rfl | ha
  ·exact Xy (Same.mut s1 (hd a z)) hp
  ·exact n1 a ha z
theorem XZ(h:A9 X es fs)(hl:fs.length<=1000:=by decide):VM X (.List es pos) (ZN fs):=PE.imp (Lf h) λZ H Q ⟨s,l,env,e,q⟩=>by
 obtain⟨ls,e1,rfl⟩:=map_some e;refine⟨s,ls,env,e1,λvs H1 fp s1 i1 d1 n1=>⟨?_,λp hp=>?_⟩⟩
 ·rw[i1.len,V2 e1];exact dH (lt_size (by omega))
 ·refine q _ _ (p::fp) (s1.trans (Same.new hp _)) (Is.lst upd_same (i1.mono (Same.new hp _))) (az.mpr ⟨λz=>Xy (n1 p z).2 hp,d1⟩) λa ha=>?_;rcases a9.mp ha with rfl | ha
  ·exact⟨Same.off s1 hp,by rw[upd_same];exact cE⟩
  ·exact⟨(n1 a ha).1,Same.mut (Same.new hp _) (n1 a ha).2⟩
theorem Qr:VM X (.Dict [] [] pos) (eC (.dT [] [])):=PE.imp Gi λZ H Q ⟨s,l,env,e,q⟩ p hp=>by
 cases e;exact q _ _ [p] (Same.new hp _) (Is.dT upd_same rfl Iss.nil) (by simp) λa ha=>by rw[aQ.mp ha];exact⟨hp,by rw[upd_same];exact cE⟩
end
def YY(K:aI)(D:List PV->Option PV)(n:Nat):Sp:=λvs H Q _=>vs.length=n/\∃ls fp l,Iss K H ls vs fp/\D ls=aA l/\∀v H' fq,Same H H'->Is K H' l v fq->fq.Nodup->(∀p∈fq,H p=aB/\Vx (H' p))->Q v H'
def Zd(D:List PV->Option PV)(fs:List XE):XE:=λs=>(T9 fs s).bind D
theorem Ze{α β:Type}{o:Option α}{g:α->Option β}{b:β}(h:o.bind g=aA b):∃a,o=aA a/\g a=aA b:=by
 cases o with
 | none=>cases h
 | some a=>exact⟨a,rfl,h⟩
section
variable {X:Cx} {x:ah} {ps:List ah} {k:Nat} {e:bK} {es:List bK} {fs:List XE} {p pos:fN}
theorem Zs{D:List PV->Option PV}{n:Nat}(C:Xf X.prog X.w X.K X.mg X.base x ps (YY X.K D n) k)(hr:Room k X.A)(hg:Gl X x)(ha:VA X (e::es) fs)(hn:fs.length=n:=by rfl)
  (hdb:(x==("__debug__" : ah))=aC:=by decide) (he:aR (e::es) X.env=(aC,eval e X.env)::aR es X.env:=by rfl) (hpl:(cw pos (aR es X.env)).any (·.1)=aC:=by rfl) :
  VM X (.Call (.Name x p) (e::es) [] pos) (Zd D fs):=PE.imp (CZ C hr hg ha hdb he hpl) λZ H Q ⟨s,l,env,e,q⟩=>by
 obtain⟨ls,e1,e2⟩:=Ze e;refine⟨λ_=>False,s,ls,λ_ z=>z.elim,env,e1,λvs H1 fp s1 i1 n1=>?_⟩;show YY X.K D n (vs++[]) H1 Q E0;rw[dU];exact⟨by rw[i1.len,V2 e1,hn],ls,fp,l,i1,e2,λv H2 fq s2 i2 d2 n2=>q v H2 fq (s1.trans s2) i2 d2 λa ha=>⟨Same.off s1 (n2 a ha).1,(n2 a ha).2⟩⟩
end
def RC(K:aI)(r:List V->Hp->VK->Prop)(g:List PV->Option PV):Prop:=∀(H:Hp)(vs:List V)(ls:List PV)(l:PV)(fp:List aM),Iss K H ls vs fp->g ls=aA l->∀Q:VK,
 (∀v H' fq,Same H H'->Is K H' l v fq->(∀p∈fq,p∈fp\/H p=aB)->Q v H')->r vs H Q
def AA(K:aI)(r:List V->Hp->VK->Prop)(g:List PV->Option PV):Prop:=∀(H:Hp)(vs:List V)(ls:List PV)(l:PV)(fp:List aM),Iss K H ls vs fp->g ls=aA l->∀Q:VK,
 (∀v H' fq,Same H H'->Is K H' l v fq->fq.Nodup->(∀p∈fq,H p=aB/\Vx (H' p))->Q v H')->r vs H Q
theorem D1{r:List V->Hp->VK->Prop}{g:List PV->Option PV}{fs:List XE}(hr:RC K r g):∀Z H Q,tF K (Zd g fs) Z H Q->A7 r (tFA K fs) Z H Q:=λZ H Q ⟨Rm,s,l,hd,env,e,k⟩=>by
 obtain⟨ls,e1,e2⟩:=Ze e;refine⟨Rm,s,ls,hd,env,e1,λvs H1 fp s1 i1 n1=>hr H1 vs ls l fp i1 e2 Q λv H2 fq s2 i2 n2=>k v H2 fq (s1.trans s2) i2 λp hp z=>?_⟩;rcases n2 p hp with h | h
 ·exact n1 p h z
 ·exact Xy (Same.mut s1 (hd p z)) h
theorem D2{r:List V->Hp->VK->Prop}{g:List PV->Option PV}{fs:List XE}(hr:AA K r g):∀Z H Q,tM K (Zd g fs) Z H Q->A7 r (tFA K fs) Z H Q:=λZ H Q ⟨s,l,env,e,k⟩=>by obtain⟨ls,e1,e2⟩:=Ze e;exact⟨λ_=>False,s,ls,λ_ z=>z.elim,env,e1,λvs H1 fp s1 i1 n1=>hr H1 vs ls l fp i1 e2 Q λv H2 fq s2 i2 d2 n2=>k v H2 fq (s1.trans s2) i2 d2 λp hp=>⟨Same.off s1 (n2 p hp).1,(n2 p hp).2⟩⟩
section
variable {X:Cx} {x:ah} {k:Nat} {e:bK} {es:List bK} {fs:List XE} {p pos:fN} {id T:String} {r:List V->Hp->VK->Prop} {g:List PV->Option PV}
theorem Zu(hc:Wo X (.builtin id) r)(hr:RC X.K r g)(hg:Gl X x)(hm:X.mg x=aB)(hv:dG x=aA (.builtin id))(ha:VA X (e::es) fs)(hn:x≠"__name__":=by decide)(hdb:(x==("__debug__" : ah))=aC:=by decide)
  (he:aR (e::es) X.env=(aC,eval e X.env)::aR es X.env:=by rfl) (hpl:(cw pos (aR es X.env)).any (·.1)=aC:=by rfl):VE X (.Call (.Name x p) (e::es) [] pos) (Zd g fs):=
 PE.imp (Qf hc hg hm hv ha hn hdb he hpl) (D1 hr)
theorem NZ(hc:Wo X (.builtin id) r)(hr:AA X.K r g)(hg:Gl X x)(hm:X.mg x=aB)(hv:dG x=aA (.builtin id))(ha:VA X (e::es) fs)(hn:x≠"__name__":=by decide)(hdb:(x==("__debug__" : ah))=aC:=by decide)
  (he:aR (e::es) X.env=(aC,eval e X.env)::aR es X.env:=by rfl) (hpl:(cw pos (aR es X.env)).any (·.1)=aC:=by rfl):VM X (.Call (.Name x p) (e::es) [] pos) (Zd g fs):=
 PE.imp (Qf hc hg hm hv ha hn hdb he hpl) (D2 hr)
theorem XH(hc:Wo X (.type T) r)(hr:RC X.K r g)(hg:Gl X x)(hm:X.mg x=aB)(hv:dG x=aA (.type T))(ha:VA X (e::es) fs)(hn:x≠"__name__":=by decide)(hdb:(x==("__debug__" : ah))=aC:=by decide)
  (he:aR (e::es) X.env=(aC,eval e X.env)::aR es X.env:=by rfl) (hpl:(cw pos (aR es X.env)).any (·.1)=aC:=by rfl):VE X (.Call (.Name x p) (e::es) [] pos) (Zd g fs):=
 PE.imp (P1 hc hg hm hv ha hn hdb he hpl) (D1 hr)
theorem Ik(hc:Wo X (.type T) r)(hr:AA X.K r g)(hg:Gl X x)(hm:X.mg x=aB)(hv:dG x=aA (.type T))(ha:VA X (e::es) fs)(hn:x≠"__name__":=by decide)(hdb:(x==("__debug__" : ah))=aC:=by decide)
  (he:aR (e::es) X.env=(aC,eval e X.env)::aR es X.env:=by rfl) (hpl:(cw pos (aR es X.env)).any (·.1)=aC:=by rfl):VM X (.Call (.Name x p) (e::es) [] pos) (Zd g fs):=
 PE.imp (P1 hc hg hm hv ha hn hdb he hpl) (D2 hr)
end
theorem Iss.one_inv{H:Hp}{l:PV}{vs:List V}{fp:List aM}(h:Iss K H [l] vs fp):∃v,vs=[v]/\Is K H l v fp:=by obtain⟨x,r,f1,f2,rfl,a,b,rfl⟩:=h.inv;simp only[Iss] at b;rw[b.1,b.2,dU];exact⟨x,rfl,a⟩
theorem Iss.two_inv{H:Hp}{l m:PV}{vs:List V}{fp:List aM}(h:Iss K H [l,m] vs fp):∃v w f1 f2,vs=[v,w]/\Is K H l v f1/\Is K H m w f2/\fp=f1++f2:=by obtain⟨x,r,f1,f2,rfl,a,b,rfl⟩:=h.inv;obtain⟨y,rfl,c⟩:=b.one_inv;exact⟨x,y,f1,f2,rfl,a,c,rfl⟩
def Qs:PV->Option (List PV)
 | .lst l=>aA l
 | .cst l=>aA l
 | .tup l=>aA l
 | _=>aB
theorem U0{H:Hp}{l:PV}{v:V}{fp:List aM}{m:List PV}(h:Is K H l v fp)(e:Qs l=aA m):∃p xs fq,v = .ref p/\(SqL K H p xs\/SqT K H p xs)/\Iss K H m xs fq/\∀q∈fq,q∈fp:=by
 cases l with
 | lst l=>
  cases e;obtain⟨p,xs,fq,rfl,hp,hi,rfl⟩:=h.lst_inv;exact⟨p,xs,fq,rfl,.inl (SqL.of hp),hi,λq hq=>aT _ hq⟩
 | cst l=>
  cases e;obtain⟨p,xs,rfl,hp,hi⟩:=h.cst_inv;exact⟨p,xs,fp,rfl,.inl hp.sq,hi,λq hq=>hq⟩
 | tup l=>
  cases e;obtain⟨p,xs,rfl,hp,hi⟩:=h.tup_inv;exact⟨p,xs,fp,rfl,.inr (SqT.of hp),hi,λq hq=>hq⟩
 | _=>cases e
def Zx:List PV->Option PV
 | [.str z]=>if z.length<=sizeLine then aA (.int z.length) else aB
 | [l]=>(Qs l).map λm=>.int m.length
 | _=>aB
theorem Ym:RC K (λxs H Q=>∃x n,xs=[x]/\Ad K x H n/\Q (.int n) H) Zx:=λH vs ls l fp h e Q k=>by
 unfold Zx at e;split at e
 ·split at e
  ·cases e;obtain⟨v,rfl,i⟩:=h.one_inv;exact⟨v,_,rfl,by rw[i.str_inv.1];exact⟨by assumption,rfl⟩,k _ H [] (Same.refl H) (Is.int _) λp hp=>by simp at hp⟩
  ·cases e
 ·obtain⟨m,e1,rfl⟩:=map_some e;obtain⟨v,rfl,i⟩:=h.one_inv;obtain⟨p,xs,fq,rfl,hp,hi,_⟩:=U0 (K:=K) i e1;refine⟨_,xs.length,rfl,?_,?_⟩
  ·rcases hp with hp | hp
   ·exact .inl ⟨xs,hp,rfl⟩
   ·exact .inr ⟨xs,hp,rfl⟩
  ·rw[hi.len];exact k _ H [] (Same.refl H) (Is.int _) λp hp=>by simp at hp
 ·cases e
def Y7:List PV->Option PV
 | [l]=>(Qs l).map .tup
 | _=>aB
theorem VB:RC K (C1 K) Y7:=λH vs ls l fp h e Q k=>by
 unfold Y7 at e;split at e
 ·obtain⟨m,e1,rfl⟩:=map_some e;obtain⟨v,rfl,i⟩:=h.one_inv;rename_i l0
  cases l0 with
  | tup l=>
   cases e1;obtain⟨p,xs,rfl,hp,hi⟩:=id i.tup_inv;exact⟨p,xs,rfl,.inr ⟨SqT.of hp,k _ H fp (Same.refl H) i λa ha=>.inl ha⟩⟩
  | lst l=>
   cases e1;obtain⟨p,xs,fq,rfl,hp,hi,rfl⟩:=i.lst_inv;exact⟨p,xs,rfl,.inl ⟨SqL.of hp,λq hq=>k _ _ fq (Same.new hq _) (Is.tup upd_same (hi.mono (Same.new hq _))) λa ha=>.inl (aT _ ha)⟩⟩
  | cst l=>
   cases e1;obtain⟨p,xs,rfl,hp,hi⟩:=i.cst_inv;exact⟨p,xs,rfl,.inl ⟨hp.sq,λq hq=>k _ _ fp (Same.new hq _) (Is.tup upd_same (hi.mono (Same.new hq _))) λa ha=>.inl ha⟩⟩
  | _=>cases e1
 ·cases e
def TQ:List PV->Option PV
 | [l]=>(Qs l).bind λm=>if ZC m=aD then aA (.lst m) else aB
 | _=>aB
theorem Gw:AA K (EB K) TQ:=λH vs ls l fp h e Q k=>by
 unfold TQ at e;split at e
 ·obtain⟨m,e1,e2⟩:=Ze e;split at e2
  ·cases e2;obtain⟨v,rfl,i⟩:=h.one_inv;obtain⟨p,xs,fq,rfl,hp,hi,hs⟩:=U0 (K:=K) i e1;have:=Iss.pure _ _ _ (by assumption) hi;subst this;refine⟨p,xs,rfl,hp,λq hq=>k _ _ [q] (Same.new hq _) (Is.lst upd_same (hi.mono (Same.new hq _))) (by simp) λa ha=>?_⟩;rw[aQ.mp ha];exact⟨hq,by rw[upd_same];exact cE⟩
  ·cases e2
 ·cases e
def YD:List PV->Option (List Int)
 | []=>aA []
 | .int i::r=>(YD r).map (i::·)
 | _=>aB
theorem YQ:∀l:List Int,YD (iL l)=aA l
 | []=>rfl
 | i::r=>by show(YD (iL r)).map (i::·)=_;rw[YQ r];rfl
theorem YR:∀{m:List PV}{l:List Int},YD m=aA l->m=iL l
 | [],l,h=>by cases h;rfl
 | .int i::r,l,h=>by obtain⟨a,e,rfl⟩:=map_some (show(YD r).map (i::·)=aA l from h);rw[YR e];rfl
 | .non::_,_,h=>by cases h
 | .bl _::_,_,h=>by cases h
 | .str _::_,_,h=>by cases h
 | .ty _::_,_,h=>by cases h
 | .exc _::_,_,h=>by cases h
 | .exf _ _::_,_,h=>by cases h
 | .clo _ _::_,_,h=>by cases h
 | .tup _::_,_,h=>by cases h
 | .lst _::_,_,h=>by cases h
 | .cst _::_,_,h=>by cases h
 | .dK _ _::_,_,h=>by cases h
 | .dT _ _::_,_,h=>by cases h
abbrev bL(l:List Bool):List PV:=l.map PV.bl
def Vh:List PV->Option (List Bool)
 | []=>aA []
 | .bl i::r=>(Vh r).map (i::·)
 | _=>aB
theorem Tv:∀l:List Bool,Vh (bL l)=aA l
 | []=>rfl
 | i::r=>by show(Vh (bL r)).map (i::·)=_;rw[Tv r];rfl
theorem WM:∀{m:List PV}{l:List Bool},Vh m=aA l->m=bL l
 | [],l,h=>by cases h;rfl
 | .bl i::r,l,h=>by obtain⟨a,e,rfl⟩:=map_some (show(Vh r).map (i::·)=aA l from h);rw[WM e];rfl
 | .non::_,_,h=>by cases h
 | .int _::_,_,h=>by cases h
 | .str _::_,_,h=>by cases h
 | .ty _::_,_,h=>by cases h
 | .exc _::_,_,h=>by cases h
 | .exf _ _::_,_,h=>by cases h
 | .clo _ _::_,_,h=>by cases h
 | .tup _::_,_,h=>by cases h
 | .lst _::_,_,h=>by cases h
 | .cst _::_,_,h=>by cases h
 | .dK _ _::_,_,h=>by cases h
 | .dT _ _::_,_,h=>by cases h
theorem Iss.bL{H:Hp}:∀{l:List Bool}{xs:List V}{fp:List aM},Iss K H (VL.bL l) xs fp->xs=l.map V.bl/\fp=[]
 | [],xs,fp,h=>by simpa only[VL.bL,da,Iss] using h
 | i::l,xs,fp,h=>by obtain⟨x,r,f1,f2,rfl,h1,h2,rfl⟩:=Iss.inv (show Iss K H (PV.bl i::VL.bL l) xs fp from h);obtain⟨rfl,rfl⟩:=h1.bl_inv;obtain⟨rfl,rfl⟩:=h2.bL;exact⟨rfl,rfl⟩
theorem Gx{H:Hp}{p:aM}{xs:List V}(h:SqL K H p xs\/SqT K H p xs):∃b,Ig b K H p xs:=by
 rcases h with h | h
 ·exact⟨aD,h⟩
 ·exact⟨aC,h⟩
def V3:List PV->Option PV
 | [l]=>(Qs l).bind λm=>(YD m).map λns=>.int ns.sum
 | _=>aB
def OV:List PV->Option PV
 | [l]=>(Qs l).bind λm=>(Vh m).map λbs=>.bl (bs.all id)
 | _=>aB
theorem OW:RC K (λxs H Q=>∃(b:Bool) (p:aM) (ns:List Int),xs=[.ref p]/\Ig b K H p (ns.map V.int)/\Q (.int ns.sum) H) V3:=λH vs ls l fp h e Q k=>by
 unfold V3 at e;split at e
 ·obtain⟨m,e1,e2⟩:=Ze e;obtain⟨ns,e3,rfl⟩:=map_some e2;obtain⟨v,rfl,i⟩:=h.one_inv;obtain⟨p,xs,fq,rfl,hp,hi,hs⟩:=U0 (K:=K) i e1;have em:=YR e3;subst em;obtain⟨rfl,rfl⟩:=hi.iL;obtain⟨b,hb⟩:=Gx hp;exact⟨b,p,ns,rfl,hb,k _ H [] (Same.refl H) (Is.int _) λp hp=>by simp at hp⟩
 ·cases e
theorem Gy:RC K (λxs H Q=>∃(b:Bool) (p:aM) (bs:List Bool),xs=[.ref p]/\Ig b K H p (bs.map V.bl)/\Q (.bl (bs.all id)) H) OV:=λH vs ls l fp h e Q k=>by
 unfold OV at e;split at e
 ·obtain⟨m,e1,e2⟩:=Ze e;obtain⟨ns,e3,rfl⟩:=map_some e2;obtain⟨v,rfl,i⟩:=h.one_inv;obtain⟨p,xs,fq,rfl,hp,hi,hs⟩:=U0 (K:=K) i e1;have em:=WM e3;subst em;obtain⟨rfl,rfl⟩:=hi.bL;obtain⟨b,hb⟩:=Gx hp;exact⟨b,p,ns,rfl,hb,k _ H [] (Same.refl H) (Is.bl _) λp hp=>by simp at hp⟩
 ·cases e
def Uj:List PV->Option PV
 | [.int i,.int j]=>aA (.int (if j<i then j else i))
 | _=>aB
def Tw:List PV->Option PV
 | [.int i,.int j]=>aA (.int (if j>i then j else i))
 | _=>aB
def UA:List PV->Option PV
 | [.int i]=>aA (.int i)
 | [.bl c]=>aA (.int (if c then 1 else 0))
 | _=>aB
theorem OX:RC K (λxs H Q=>∃i j,xs=[.int i,.int j]/\Q (.int (if j<i then j else i)) H) Uj:=λH vs ls l fp h e Q k=>by
 unfold Uj at e;split at e
 ·cases e;obtain⟨v,w,f1,f2,rfl,a,b,rfl⟩:=h.two_inv;exact⟨_,_,by rw[a.int_inv.1,b.int_inv.1],k _ H [] (Same.refl H) (Is.int _) λp hp=>by simp at hp⟩
 ·cases e
theorem Jc:RC K (λxs H Q=>∃i j,xs=[.int i,.int j]/\Q (.int (if j>i then j else i)) H) Tw:=λH vs ls l fp h e Q k=>by
 unfold Tw at e;split at e
 ·cases e;obtain⟨v,w,f1,f2,rfl,a,b,rfl⟩:=h.two_inv;exact⟨_,_,by rw[a.int_inv.1,b.int_inv.1],k _ H [] (Same.refl H) (Is.int _) λp hp=>by simp at hp⟩
 ·cases e
theorem Jd:RC K (λxs H Q=>(∃i,xs=[.int i]/\Q (.int i) H)\/∃k,xs=[.bl k]/\Q (.int (if k then 1 else 0)) H) UA:=λH vs ls l fp h e Q k=>by
 unfold UA at e;split at e
 ·cases e;obtain⟨v,rfl,a⟩:=h.one_inv;exact .inl ⟨_,by rw[a.int_inv.1],k _ H [] (Same.refl H) (Is.int _) λp hp=>by simp at hp⟩
 ·cases e;obtain⟨v,rfl,a⟩:=h.one_inv;exact .inr ⟨_,by rw[a.bl_inv.1],k _ H [] (Same.refl H) (Is.int _) λp hp=>by simp at hp⟩
 ·cases e
section
variable {X:Cx} {e:bK} {es:List bK} {fs:List XE} {p pos:fN}
def Sj:List PV->Option PV
 | [.int _,.ty "int"]=>aA (.bl aD)
 | [.int _,.ty "bool"]=>aA (.bl aC)
 | [.bl _,.ty "bool"]=>aA (.bl aD)
 | [.tup _,.ty "tuple"]=>aA (.bl aD)
 | [.lst _,.ty "list"]=>aA (.bl aD)
 | [.str _,.ty "str"]=>aA (.bl aD)
 | _=>aB
theorem Pw:bM K (.type "bool") (.type "bool")=aA aD:=rfl
theorem OY:RC K (λxs H Q=>∃x T t b,xs=[x,.ty T]/\TyOf K H x t/\bM K t (.type T)=aA b/\Q (.bl b) H) Sj:=λH vs ls l fp h e Q k=>by
  have fin:∀b:Bool,l = .bl b->Q (.bl b) H:=λb z=>by subst z;exact k _ H [] (Same.refl H) (Is.bl _) λp hp=>by simp at hp
  unfold Sj at e
  split at e<;>first
    | (cases e
       obtain⟨v,w,f1,f2,rfl,a,b,rfl⟩:=h.two_inv
       first
         | (obtain⟨rfl,_⟩:=a.int_inv;first
             | exact⟨_,_,_,_,by rw[b.ty_inv.1],TyOf.int _,NQ,fin _ rfl⟩
             | exact⟨_,_,_,_,by rw[b.ty_inv.1],TyOf.int _,OR,fin _ rfl⟩)
         | (obtain⟨rfl,_⟩:=a.bl_inv;exact⟨_,_,_,_,by rw[b.ty_inv.1],TyOf.bl _,Pw,fin _ rfl⟩)
         | (obtain⟨rfl,_⟩:=a.str_inv;exact⟨_,_,_,_,by rw[b.ty_inv.1],TyOf.str _,NS,fin _ rfl⟩)
         | (obtain⟨q,xs,rfl,hp,_⟩:=a.tup_inv;exact⟨_,_,_,_,by rw[b.ty_inv.1],TyOf.tup hp,NR,fin _ rfl⟩)
         | (obtain⟨q,xs,fq,rfl,hp,_⟩:=a.lst_inv
            exact⟨_,_,_,_,by rw[b.ty_inv.1],TyOf.lst hp,Pr,fin _ rfl⟩))
    | cases e
theorem Gz{x:ah}{n:String}(hg:Gl X x)(hm:X.mg x=aB)(hv:dG x=aA (.type n))(hn:x≠"__name__":=by decide)(hd:(x==("__debug__" : ah))=aC:=by decide):VE X (.Name x pos) (eC (.ty n)):=
 EG (F8 hg hm hv (v:=.ty n) rfl hn hd) λ_=>Is.ty n
end
end VL
namespace VL
open PySem PySem.Spec PyProof.Rows L2
variable {K:aI}
open Classical in
instance:DecidableEq PV:=λa b=>propDecidable (a=b)
def Ws:Nat->PV->PV->Bool
 | _+1,.non,.non=>aD
 | _+1,.bl _,.bl _=>aD
 | _+1,.int _,.int _=>aD
 | _+1,.str _,.str _=>aD
 | n+1,.tup l,.tup m=>(l.zip m).all λz=>Ws n z.1 z.2
 | n+1,.lst l,.lst m=>(l.zip m).all λz=>Ws n z.1 z.2
 | _,_,_=>aC
theorem Sk{α β:Type}{p:α×β->Bool}{a:α}{b:β}{l:List α}{m:List β}(h:((a::l).zip (b::m)).all p=aD):p (a,b)=aD/\(l.zip m).all p=aD:=by rw[dt,jx,ak] at h;exact h
theorem Iss.inj'{n:Nat}{H:Hp}(ih:∀a b v fa fb,Ws n a b=aD->Is K H a v fa->Is K H b v fb->a=b):∀{l m:List PV}{xs:List V}{fa fb:List aM},(l.zip m).all (λz=>Ws n z.1 z.2)=aD->Iss K H l xs fa->Iss K H m xs fb->l=m
 | [],m,xs,fa,fb,_,h,h'=>by
  simp only[Iss] at h;rw[h.1] at h';have:=h'.len
  cases m with
  | nil=>rfl
  | cons _ _=>simp at this
 | a::l,m,xs,fa,fb,hc,h,h'=>by
  obtain⟨x,r,f1,f2,rfl,h1,h2,rfl⟩:=h.inv
  cases m with
  | nil=>have:=h'.len;simp at this
  | cons b m=>
   obtain⟨x',r',g1,g2,e,h3,h4,rfl⟩:=h'.inv;cases e;obtain⟨c1,c2⟩:=Sk hc;rw[ih a b x f1 g1 c1 h1 h3,Iss.inj' ih c2 h2 h4]
theorem Is.inj'{H:Hp}:∀(n:Nat)(a b:PV)(v:V)(fa fb:List aM),Ws n a b=aD->Is K H a v fa->Is K H b v fb->a=b
 | 0,a,b,v,fa,fb,hc,_,_=>by unfold Ws at hc;simp at hc
 | n+1,a,b,v,fa,fb,hc,ha,hb=>by
  cases a<;>cases b<;>first
   | (exfalso;revert hc;unfold Ws;simp;done)
   | skip
  ·rfl
  ·rw[ha.bl_inv.1] at hb;have:=hb.bl_inv.1;cases this;rfl
  ·rw[ha.int_inv.1] at hb;have:=hb.int_inv.1;cases this;rfl
  ·rw[ha.str_inv.1] at hb;have:=hb.str_inv.1;cases this;rfl
  ·obtain⟨p,xs,rfl,hp,hi⟩:=ha.tup_inv;obtain⟨p',ys,e,hp',hi'⟩:=hb.tup_inv;cases e;rw[hp] at hp';cases hp';unfold Ws at hc;rw[Iss.inj' (Is.inj' n) hc hi hi']
  ·obtain⟨p,xs,fq,rfl,hp,hi,_⟩:=ha.lst_inv;obtain⟨p',ys,fq',e,hp',hi',_⟩:=hb.lst_inv;cases e;rw[hp] at hp';cases hp';unfold Ws at hc;rw[Iss.inj' (Is.inj' n) hc hi hi']
section
variable {X:Cx} {du:List (aM×dX)} {Z:SO} {H:Hp} {s:aN} {A:bc}
theorem Ls{n:Nat}(ih:∀a b x y fa fb u w,Ws n a b=aD->Is K H a x fa->Is K H b y fb->RelV x u->RelV y w->∃r,ke A s u w r/\(r=aD↔a=b)) :
  ∀{l m:List PV}{xs ys:List V}{fa fb:List aM}{us ws:List aJ},(l.zip m).all (λz=>Ws n z.1 z.2)=aD->Iss K H l xs fa->Iss K H m ys fb->Vals xs us->Vals ys ws->
  ∃e:Nat->Bool,(∀j (h1:j<us.length) (h2:j<ws.length),ke A s us[j] ws[j] (e j))/\((aS (min us.length ws.length)).all e=aD↔l.take (min us.length ws.length)=m.take (min us.length ws.length))
 | [],m,xs,ys,fa,fb,us,ws,_,h,_,r,_=>by simp only[Iss] at h;obtain⟨rfl,_⟩:=h;cases r;exact⟨λ_=>aD,λj h1=>by simp at h1,by simp⟩
 | a::l,[],xs,ys,fa,fb,us,ws,_,_,h,_,r=>by simp only[Iss] at h;obtain⟨rfl,_⟩:=h;cases r;exact⟨λ_=>aD,λj h1 h2=>by simp at h2,by simp⟩
 | a::l,b::m,xs,ys,fa,fb,us,ws,hc,h,h',r,r'=>by
  obtain⟨x,xr,f1,f2,rfl,h1,h2,rfl⟩:=h.inv;obtain⟨y,yr,g1,g2,rfl,h3,h4,rfl⟩:=h'.inv;obtain⟨c1,c2⟩:=Sk hc
  cases r with
  | cons q v=>cases r' with
   | cons q' v'=>
    obtain⟨t,ht,ht'⟩:=ih a b x y f1 g1 _ _ c1 h1 h3 q q';obtain⟨e,he,he'⟩:=Ls ih c2 h2 h4 v v';refine⟨λj=>match j with | 0=>t | k+1=>e k,λj h1 h2=>?_,?_⟩
    ·cases j with
     | zero=>exact ht
     | succ k=>exact he k (by simpa using h1) (by simpa using h2)
    ·simp only[bA,Nat.succ_min_succ,gJ,jx,jS,ak,List.take_succ_cons,List.cons.injEq];exact and_congr ht' he'
theorem Iss.same'{l m:List PV}{xs ys:List V}{fa fb:List aM}{us ws:List aJ}(h:Iss K H l xs fa)(h':Iss K H m ys fb)(r:Vals xs us)(r':Vals ys ws) :
  (l.take (min us.length ws.length)=m.take (min us.length ws.length)/\us.length=ws.length)↔l=m:=by
 have e1:=h.len;have e2:=h'.len;have e3:=r.length;have e4:=r'.length;constructor
 ·rintro⟨a,b⟩;rw[cG (by omega),cG (by omega)] at a;exact a
 ·intro a;subst a;exact⟨rfl,by omega⟩
def D3(A:bc)(s:aN)(u w:aJ)(r:Bool):Prop:=SeqAt.RcAt A s u w r/\SeqAt.RcNeAt A s u w !r
theorem Qt(I:Inv X du Z H s):∀(n:Nat)(A:bc)(a b:PV)(x y:V)(fa fb:List aM)(u w:aJ),A.units+2*n+2<fE->Ws n a b=aD->Is K H a x fa->Is K H b y fb->RelV x u->RelV y w->
  (∃r,ke A s u w r/\(r=aD↔a=b))/\∃r,D3 A s u w r/\(r=aD↔a=b)
 | 0,A,a,b,x,y,fa,fb,u,w,hu,hc,_,_,_,_=>by unfold Ws at hc;simp at hc
 | n+1,A,a,b,x,y,fa,fb,u,w,hu,hc,ha,hb,ru,Rz=>by
  cases a<;>cases b<;>first
   | (exfalso;revert hc;unfold Ws;simp;done)
   | skip
  ·rw[ha.non_inv.1] at ru;rw[hb.non_inv.1] at Rz;cases ru;cases Rz;exact⟨⟨aD,ky _,by simp⟩,aD,⟨SeqAt.RcAt.none_none,SeqAt.RcNeAt.none_none⟩,by simp⟩
  ·rw[ha.bl_inv.1] at ru;rw[hb.bl_inv.1] at Rz;cases ru;cases Rz;exact⟨⟨_,jD _ _,by simp⟩,_,⟨SeqAt.RcAt.bool_bool _ _,SeqAt.RcNeAt.bool_bool _ _⟩,by simp⟩
  ·rw[ha.int_inv.1] at ru;rw[hb.int_inv.1] at Rz;obtain⟨t,rfl⟩:=ru;obtain⟨t',rfl⟩:=Rz;exact⟨⟨_,ke.int_int _ _ _ _,by simp⟩,_,⟨SeqAt.RcAt.int_int _ _ _ _,SeqAt.RcNeAt.int_int _ _ _ _⟩,by simp⟩
  ·rw[ha.str_inv.1] at ru;rw[hb.str_inv.1] at Rz;obtain⟨t,rfl⟩:=ru;obtain⟨t',rfl⟩:=Rz;exact⟨⟨_,ke.str_str _ _ _ _,by simp⟩,_,⟨SeqAt.RcAt.str_str _ _ _ _,SeqAt.RcNeAt.str_str _ _ _ _⟩,by simp⟩
  ·rename_i l1 l2;obtain⟨p,xs,rfl,hp,hi⟩:=id ha.tup_inv;obtain⟨p',ys,rfl,hp',hi'⟩:=id hb.tup_inv;cases ru;cases Rz;have hc':=hc;unfold Ws at hc';obtain⟨us,rv,q,_⟩:=I.tuple (SqT.of hp);obtain⟨ws,rv',q',_⟩:=I.tuple (SqT.of hp');obtain⟨f,hf,hf'⟩:=Ls (A:=A.in1) (λa b x y fa fb u w c i1 i2 r1 r2=>(Qt I n A.in1 a b x y fa fb u w (by show A.units+1+2*n+2<fE;omega) c i1 i2 r1 r2).1) hc' hi hi' rv rv';have rc:=SeqAt.RcAt.tuples (A:=A) (e:=f) (show s.heap.IsTuple p us.toArray from q) (show s.heap.IsTuple p' ws.toArray from q') (by omega) (λj h1 h2=>hf j (by simpa using h1) (by simpa using h2));have rn:=SeqAt.RcNeAt.tuples (A:=A) (e:=f) (show s.heap.IsTuple p us.toArray from q) (show s.heap.IsTuple p' ws.toArray from q') (by omega) (λj h1 h2=>hf j (by simpa using h1) (by simpa using h2));have key:(((aS (min us.toArray.size ws.toArray.size)).all f&&us.toArray.size==ws.toArray.size)=aD)↔PV.tup l1=PV.tup l2:=by simp only[aV,ak,beq_iff_eq,PV.tup.injEq];rw[hf'];exact Iss.same' hi hi' rv rv'
   refine⟨?_,_,⟨rc,rn⟩,key⟩;by_cases e:p=p'
   ·subst e;exact⟨aD,ky _,by simp[Is.inj' (n+1) _ _ _ _ _ hc ha hb]⟩
   ·exact⟨_,m5 e rc,key⟩
  ·rename_i l1 l2;obtain⟨p,xs,fq,rfl,hp,hi,_⟩:=id ha.lst_inv;obtain⟨p',ys,fq',rfl,hp',hi',_⟩:=id hb.lst_inv;cases ru;cases Rz;have hc':=hc;unfold Ws at hc';obtain⟨us,rv,q,_⟩:=I.list (SqL.of hp);obtain⟨ws,rv',q',_⟩:=I.list (SqL.of hp');obtain⟨f,hf,hf'⟩:=Ls (A:=A.in1) (λa b x y fa fb u w c i1 i2 r1 r2=>(Qt I n A.in1 a b x y fa fb u w (by show A.units+1+2*n+2<fE;omega) c i1 i2 r1 r2).1) hc' hi hi' rv rv'
   have fin:∃r,D3 A s (.ref p) (.ref p') r/\(r=aD↔PV.lst l1=PV.lst l2):=by
    have key:=Iss.same' hi hi' rv rv';by_cases hsz:us.length=ws.length
    ·refine⟨_,⟨SeqAt.RcAt.lists (e:=f) q.isList q'.isList (by simpa using hsz) (by omega) (λj h1 h2=>hf j (by simpa using h1) (by simpa using h2)),SeqAt.RcNeAt.lists (e:=f) q.isList q'.isList (by simpa using hsz) (by omega) (λj h1 h2=>hf j (by simpa using h1) (by simpa using h2))⟩,?_⟩;rw[hsz,Nat.min_self] at hf' key;simp only[aV,PV.lst.injEq];rw[hsz,hf',<-key];simp
    ·refine⟨aC,⟨SeqAt.RcAt.lists_lengths q.isList q'.isList (by simpa using hsz) (by omega),SeqAt.RcNeAt.lists_lengths q.isList q'.isList (by simpa using hsz) (by omega)⟩,?_⟩;rw[PV.lst.injEq,<-key];simp[hsz]
   obtain⟨r,hr,hk⟩:=fin;refine⟨?_,r,hr,hk⟩;by_cases e:p=p'
   ·subst e;exact⟨aD,ky _,by simp[Is.inj' (n+1) _ _ _ _ _ hc ha hb]⟩
   ·exact⟨r,m5 e hr.1,hk⟩
end
def C6(K:aI)(neg:Bool):R2:=λx y H Q=>∃a b fa fb,Is K H a x fa/\Is K H b y fb/\Ws 8 a b=aD/\∀r:Bool,(r=aD↔a=b)->Q (.bl (if neg then !r else r)) H
section
variable {X:Cx}
theorem GA(hu:X.A.units+64<fE):Us X (cy .Eq) (C6 X.K aC):=by intro du s Z H x y v u Q I rx ry h;obtain⟨a,b,fa,fb,ha,hb,hc,q⟩:=h;obtain⟨_,r,hr,hk⟩:=Qt I 8 X.A a b x y fa fb v u (by omega) hc ha hb rx ry;exact hr.1 X.prog X.w X.xe _ ⟨.bl r,H,I,rfl,q r hk⟩
theorem C7(hu:X.A.units+64<fE):Us X (cy .NotEq) (C6 X.K aD):=by intro du s Z H x y v u Q I rx ry h;obtain⟨a,b,fa,fb,ha,hb,hc,q⟩:=h;obtain⟨_,r,hr,hk⟩:=Qt I 8 X.A a b x y fa fb v u (by omega) hc ha hb rx ry;exact hr.2 X.prog X.w X.xe _ ⟨.bl !r,H,I,rfl,q r hk⟩
end
def YN(neg:Bool):PV->PV->Option PV:=λa b=>if Ws 8 a b=aD then aA (.bl (if neg then !decide (a=b) else decide (a=b))) else aB
theorem Lu(neg:Bool):RB K (C6 K neg) (YN neg):=λH x y a b l fa fb ha hb e Q k=>by
 unfold YN at e;split at e
 ·cases e;refine⟨a,b,fa,fb,ha,hb,by assumption,λr hr=>?_⟩
  have:r=decide (a=b):=by
   cases r with
   | true=>exact(decide_eq_true (hr.mp rfl)).symm
   | false=>exact(decide_eq_false λz=>aw (hr.mpr z)).symm
  subst this;exact k _ H [] (Same.refl H) (Is.bl _) λp hp=>by simp at hp
 ·cases e
def C8(K:aI)(neg:Bool):R2:=λx y H Q=>∃a b m fa fb,Is K H a x fa/\Is K H b y fb/\Qs b=aA m/\(m.all λz=>Ws 8 z a)=aD/\∀r:Bool,(r=aD↔a∈m)->Q (.bl (if neg then !r else r)) H
section
variable {X:Cx} {du:List (aM×dX)} {Z:SO} {H:Hp} {s:aN}
theorem R1{a:PV}{x:V}{fa:List aM}{u:aJ}{A:bc}(I:Inv X du Z H s)(hu:A.units+18<fE)(ha:Is K H a x fa)(rx:RelV x u):∀{m:List PV}{xs:List V}{fb:List aM}{us:List aJ},(m.all λz=>Ws 8 z a)=aD->Iss K H m xs fb->Vals xs us->
  ∃e:aJ->Bool,(∀y∈us,ke A s y u (e y))/\(us.any e=aD↔a∈m):=λ{m xs fb us} hc h r=>by
 -- each one's answer
 have each:∀y∈us,∃t:Bool,ke A s y u t/\(t=aD↔∃b,b∈m/\b=a/\∃z f,Is K H b z f/\RelV z y):=λy hy=>by obtain⟨j,hj,e⟩:=jC.mp hy;have hl:=r.length;have hxj:xs[j]?=aA xs[j]:=aG (by omega);obtain⟨b,f,hb,ib,_⟩:=h.get' hxj;obtain⟨w,hw,Rz⟩:=r.get hxj;rw[aG hj] at hw;cases hw;rw[e] at Rz;have hbm:b∈m:=bN hb;have cb:=bC.mp hc b hbm;obtain⟨⟨t,ht,hk⟩,_⟩:=Qt I 8 A b a xs[j] x f fa y u (by omega) cb ib ha Rz rx;refine⟨t,ht,hk.trans ⟨λz=>⟨b,hbm,z,xs[j],f,ib,Rz⟩,λ⟨b',hb',e',z,f',i',r'⟩=>?_⟩⟩;have ez:z=xs[j]:=r'.inj Rz;subst ez;have cb':=bC.mp hc b' hb';subst e';exact Is.inj' 8 b b' _ _ _ cb ib i'
 classical
 refine⟨λy=>if hy:y∈us then(each y hy).choose else aC,λy hy=>?_,?_⟩
 ·simp only[dif_pos hy];exact(each y hy).choose_spec.1
 ·rw[gh];constructor
  ·rintro⟨y,hy,e⟩;rw[dif_pos hy] at e;obtain⟨b,hb,rfl,_⟩:=(each y hy).choose_spec.2.mp e;exact hb
  ·intro hm;obtain⟨j,hj,e⟩:=jC.mp hm;obtain⟨z,f,hz,iz,_⟩:=h.get (aG hj);obtain⟨y,hy,ry⟩:=r.get hz;have hyu:y∈us:=bN hy;refine⟨y,hyu,?_⟩;rw[dif_pos hyu];exact(each y hyu).choose_spec.2.mpr ⟨a,hm,rfl,z,f,e▸iz,ry⟩
end
section
variable {X:Cx}
theorem GB(hu:X.A.units+64<fE):Us X (cy .In) (C8 X.K aC):=by
 intro du s Z H x y v u Q I rx ry h;obtain⟨a,b,m,fa,fb,ha,hb,hm,hc,q⟩:=h;obtain⟨p,xs,fq,rfl,hp,hi,_⟩:=U0 (K:=X.K) hb hm;cases ry;rcases hp with hp | hp
 ·obtain⟨us,rv,t,_⟩:=I.list hp;obtain⟨e,he,hk⟩:=R1 (A:=X.A.in1) I (by show X.A.units+1+18<fE;omega) ha rx hc hi rv;refine SeqAt.in_listAt e t.isList (λw hw=>he w (by simpa using hw)) ⟨.bl _,H,I,rfl,?_⟩;rw[show us.toArray.any e=us.any e by simp];exact q _ hk
 ·obtain⟨us,rv,t,_⟩:=I.tuple hp;obtain⟨e,he,hk⟩:=R1 (A:=X.A.in1) I (by show X.A.units+1+18<fE;omega) ha rx hc hi rv;refine SeqAt.in_tupleAt e t (λw hw=>he w (by simpa using hw)) ⟨.bl _,H,I,rfl,?_⟩;rw[show us.toArray.any e=us.any e by simp];exact q _ hk
theorem Il(hu:X.A.units+64<fE):Us X (cy .NotIn) (C8 X.K aD):=by
 intro du s Z H x y v u Q I rx ry h;obtain⟨a,b,m,fa,fb,ha,hb,hm,hc,q⟩:=h;obtain⟨p,xs,fq,rfl,hp,hi,_⟩:=U0 (K:=X.K) hb hm;cases ry;rcases hp with hp | hp
 ·obtain⟨us,rv,t,_⟩:=I.list hp;obtain⟨e,he,hk⟩:=R1 (A:=X.A.in1) I (by show X.A.units+1+18<fE;omega) ha rx hc hi rv;refine SeqAt.notIn_listAt e t.isList (λw hw=>he w (by simpa using hw)) ⟨.bl _,H,I,rfl,?_⟩;rw[show us.toArray.any e=us.any e by simp];exact q _ hk
 ·obtain⟨us,rv,t,_⟩:=I.tuple hp;obtain⟨e,he,hk⟩:=R1 (A:=X.A.in1) I (by show X.A.units+1+18<fE;omega) ha rx hc hi rv;refine SeqAt.notIn_tupleAt e t (λw hw=>he w (by simpa using hw)) ⟨.bl _,H,I,rfl,?_⟩;rw[show us.toArray.any e=us.any e by simp];exact q _ hk
end
def YC(neg:Bool):PV->PV->Option PV:=λa b=>(Qs b).bind λm=>if(m.all λz=>Ws 8 z a)=aD then aA (.bl (if neg then !decide (a∈m) else decide (a∈m))) else aB
theorem Lv(neg:Bool):RB K (C8 K neg) (YC neg):=λH x y a b l fa fb ha hb e Q k=>by
 obtain⟨m,hm,e⟩:=Ze e;split at e
 ·cases e;refine⟨a,b,m,fa,fb,ha,hb,hm,by assumption,λr hr=>?_⟩
  have:r=decide (a∈m):=by
   cases r with
   | true=>exact(decide_eq_true (hr.mp rfl)).symm
   | false=>exact(decide_eq_false λz=>aw (hr.mpr z)).symm
  subst this;exact k _ H [] (Same.refl H) (Is.bl _) λp hp=>by simp at hp
 ·cases e
end VL
namespace VL
open PySem PySem.Spec PyProof.Rows L2
variable {K:aI}
mutual
theorem Is.dom{H:Hp}:∀(l:PV)(v:V)(fp:List aM),Is K H l v fp->∀p∈fp,H p≠aB
 | .non,_,_,h=>by simp only[Is] at h;rw[h.2];simp
 | .bl _,_,_,h=>by simp only[Is] at h;rw[h.2];simp
 | .int _,_,_,h=>by simp only[Is] at h;rw[h.2];simp
 | .str _,_,_,h=>by simp only[Is] at h;rw[h.2];simp
 | .ty _,_,_,h=>by simp only[Is] at h;rw[h.2];simp
 | .exc _,_,_,h=>by simp only[Is] at h;rw[h.2];simp
 | .exf _ _,_,_,h=>by simp only[Is] at h;rw[h.2];simp
 | .clo L l,v,fp,h=>by simp only[Is] at h;obtain⟨u,x,_,_,hi⟩:=h;exact Is.dom l x fp hi
 | .tup l,v,fp,h=>by obtain⟨p,xs,_,_,hi⟩:=h.tup_inv;exact Iss.dom l xs fp hi
 | .lst l,v,fp,h=>by
  obtain⟨p,xs,fq,_,hp,hi,rfl⟩:=h.lst_inv;intro q hq;rcases a9.mp hq with rfl | hq
  ·rw[hp];simp
  ·exact Iss.dom l xs fq hi q hq
 | .cst l,v,fp,h=>by obtain⟨p,xs,_,_,hi⟩:=h.cst_inv;exact Iss.dom l xs fp hi
 | .dK ks l,v,fp,h=>by
  obtain⟨p,oy,fq,_,hp,_,hi,rfl⟩:=h.dK_inv;intro q hq;rcases a9.mp hq with rfl | hq
  ·rcases hp with e | ⟨o,e⟩<;>rw[e]<;>simp
  ·exact Iss.dom l _ fq hi q hq
 | .dT ks l,v,fp,h=>by
  obtain⟨p,oy,fq,_,hp,_,hi,rfl⟩:=h.dT_inv;intro q hq;rcases a9.mp hq with rfl | hq
  ·rcases hp with e | ⟨o,e⟩<;>rw[e]<;>simp
  ·exact Iss.dom l _ fq hi q hq
theorem Iss.dom{H:Hp}:∀(l:List PV)(xs:List V)(fp:List aM),Iss K H l xs fp->∀p∈fp,H p≠aB
 | [],_,_,h=>by simp only[Iss] at h;rw[h.2];simp
 | l::ls,xs,fp,h=>by
  obtain⟨x,r,f1,f2,_,h1,h2,rfl⟩:=h.inv;intro q hq;rcases aq.mp hq with hq | hq
  ·exact Is.dom l x f1 h1 q hq
  ·exact Iss.dom ls r f2 h2 q hq
end
def Ab(Rm:aM->Prop)(H H':Hp):Prop:=∀b o,H b=aA o->¬Rm b->H' b=aA o
theorem Same.ab{Rm:aM->Prop}{H H':Hp}(s:Same H H'):Ab Rm H H':=λb o h _=>s b o h
theorem Ab.tk{Rm:aM->Prop}{H H':Hp}(a:Ab Rm H H')(hd:∀p,Rm p->Vx (H p)):TK2 H H':=⟨λb xs h=>a b _ h λz=>by
 have:=hd b z
 rw[h] at this;exact this,λb o xs h=>a b _ h λz=>by
 have:=hd b z
 rw[h] at this;exact this,λb o x h=>a b _ h λz=>by
 have:=hd b z;rw[h] at this;exact this⟩
theorem Is.ab{Rm:aM->Prop}{H H':Hp}(a:Ab Rm H H')(hd:∀p,Rm p->Vx (H p)){l:PV}{v:V}{fp:List aM}(n:∀p∈fp,¬Rm p)(h:Is K H l v fp):Is K H' l v fp:=
 Is.tr (a.tk hd) l v fp (λp hp=>RdK.of λo q=>a p o q (n p hp)) h
structure JIs(K:aI)(Rm:aM->Prop)(H1:Hp)(J:It)(ls:List PV):Prop where
 stop:∀H',Ab Rm H1 H'->J.stop ls.length H'
 go:∀H' (i:Nat) l,Ab Rm H1 H'->ls[i]?=aA l->J.go i H'
 yld:∀H' (i:Nat) l x H'',Ab Rm H1 H'->ls[i]?=aA l->J.yld i H' x H''->Same H' H''/\∃fp,Is K H'' l x fp/\∀p∈fp,H1 p≠aB/\¬Rm p
abbrev XL:=ZJ->Option (List PV)
def iF(K:aI)(f:XL):TI:=λZ H R=>∃(Rm:aM->Prop) (s:ZJ) (ls:List PV),(∀p,Rm p->Vx (H p))/\EnvIs K Rm H s Z/\f s=aA ls/\∀J H1,Same H H1->JIs K Rm H1 J ls->R J H1
def VI(X:Cx)(tg e:bK)(f:XL):Prop:=PI X tg e (iF X.K f)
section
variable {X:Cx} {tg e:bK} {es:List bK}
theorem PI.imp{t t':TI}(h:PI X tg e t)(i:∀Z H R,t' Z H R->t Z H R):PI X tg e t':=λdu s Z H R I q=>h du s Z H R I (i Z H R q)
def BN:PV->Option (List PV)
 | .lst m=>aA m
 | .cst m=>aA m
 | _=>aB
def YW(f:XE):XL:=λs=>(f s).bind BN
def S7(f:XE):XL:=λs=>match f s with | some (.tup m)=>aA m | _=>aB
theorem GC{a:PV}{m:List PV}(h:BN a=aA m):a = .lst m\/a = .cst m:=by
 unfold BN at h;split at h
 ·cases h;exact .inl rfl
 ·cases h;exact .inr rfl
 ·cases h
theorem Im{f:XE}{s:ZJ}{m:List PV}(h:S7 f s=aA m):f s=aA (.tup m):=by
 unfold S7 at h;split at h
 ·cases h;assumption
 ·cases h
theorem WN{f:XE}(h:VE X e f):VI X tg e (YW f):=PI.imp (Eb h) λZ H R ⟨Rm,s,ls,hd,env,e,k⟩=>by
 obtain⟨l,e1,e2⟩:=Ze e;refine⟨Rm,s,l,hd,env,e1,λv H1 fp s1 i1 n1=>?_⟩;have hd1:∀p,Rm p->Vx (H1 p):=λp hp=>Same.mut s1 (hd p hp)
 have main:∀a xs fq,v = .ref a->SqL X.K H1 a xs->(∀H',Ab Rm H1 H'->SqL X.K H' a xs)->Iss X.K H1 ls xs fq->(∀p∈fq,p∈fp)->∃a,v = .ref a/\(∃xs,SqL X.K H1 a xs)/\R (Itl X.K a) H1:=by
  rintro a xs fq rfl ha keep hi sub;refine⟨a,rfl,⟨xs,ha⟩,k _ H1 s1 ⟨λH' ab=>⟨xs,keep H' ab,by rw[hi.len];exact af _⟩,λH' i l ab hl=>?_,λH' i l x H'' ab hl y=>?_⟩⟩
  ·obtain⟨x,f1,hx,_,_⟩:=hi.get hl;exact⟨xs,x,keep H' ab,hx⟩
  ·obtain⟨rfl,y⟩:=y;obtain⟨x',f1,hx,ix,sub'⟩:=hi.get hl;have:=y xs (keep _ ab);rw[hx] at this;cases this;have n1':∀p∈f1,¬Rm p:=λp hp=>n1 p (sub p (sub' p hp));exact⟨Same.refl _,f1,ix.ab ab hd1 n1',λp hp=>⟨Is.dom _ _ _ ix p hp,n1' p hp⟩⟩
 rcases GC e2 with rfl | rfl
 ·obtain⟨a,xs,fq,rfl,ha,hi,rfl⟩:=i1.lst_inv;exact main a xs fq rfl (SqL.of ha) (λH' ab=>SqL.of (ab a _ ha (n1 a ag))) hi λp hp=>aT _ hp
 ·obtain⟨a,xs,rfl,ha,hi⟩:=i1.cst_inv;exact main a xs fp rfl ha.sq (λH' ab=>(ha.tr (ab.tk hd1)).sq) hi λp hp=>hp
theorem Lw{f:XE}(h:VE X e f):VI X tg e (S7 f):=PI.imp (Cv h) λZ H R ⟨Rm,s,ls,hd,env,e,k⟩=>by
 refine⟨Rm,s,.tup ls,hd,env,Im e,λv H1 fp s1 i1 n1=>?_⟩;obtain⟨a,xs,rfl,ha,hi⟩:=i1.tup_inv;have hd1:∀p,Rm p->Vx (H1 p):=λp hp=>Same.mut s1 (hd p hp);have keep:∀H',Ab Rm H1 H'->SqT X.K H' a xs:=λH' ab=>SqT.of ((ab.tk hd1).tup a xs ha);refine⟨a,rfl,⟨xs,SqT.of ha⟩,k _ H1 s1 ⟨λH' ab=>⟨xs,keep H' ab,by rw[hi.len];exact af _⟩,λH' i l ab hl=>?_,λH' i l x H'' ab hl y=>?_⟩⟩
 ·obtain⟨x,f1,hx,_,_⟩:=hi.get hl;exact⟨xs,x,keep H' ab,hx⟩
 ·obtain⟨rfl,y⟩:=y;obtain⟨x',f1,hx,ix,sub⟩:=hi.get hl;have:=y xs (keep _ ab);rw[hx] at this;cases this;have n1':∀p∈f1,¬Rm p:=λp hp=>n1 p (sub p hp);exact⟨Same.refl _,f1,ix.ab ab hd1 n1',λp hp=>⟨Is.dom _ _ _ ix p hp,n1' p hp⟩⟩
def Wd(n:Nat):List PV:=(aS n).map λ(i:Nat)=>PV.int (i:Int)
def XB(lo:Int)(n:Nat):List PV:=(aS n).map λ(i:Nat)=>PV.int (lo+(i:Int))
def ZG(fs:List XE):XL:=λs=>match T9 fs s with | some [.int j]=>if -1000000<=j/\j<=1000000 then aA (Wd j.toNat) else aB | _=>aB
def Yi(fs:List XE):XL:=λs=>match T9 fs s with | some [.int i,.int j]=>if -1000000<=i/\i<=1000000/\-1000000<=j/\j<=1000000 then aA (XB i (j-i).toNat) else aB | _=>aB
theorem Je{Rm:aM->Prop}{H1:Hp}(lo:Int)(n:Nat):JIs K Rm H1 (B4 lo n) (XB lo n):=by
 refine⟨λH' _=>by unfold XB;rw[aH,dh];exact af n,λH' i l _ hl=>?_,λH' i l x H'' _ hl y=>?_⟩
 ·have:=(aX.mp hl).1;unfold XB at this;rw[aH,dh] at this;exact this
 ·obtain⟨rfl,rfl⟩:=y;have hi:=(aX.mp hl).1;unfold XB at hi hl;rw[aH,dh] at hi;rw[aU,eK hi] at hl;cases hl;exact⟨Same.refl _,[],Is.int _,λp hp=>by simp at hp⟩
theorem EO(n:Nat):Wd n=XB 0 n:=by unfold Wd XB;apply bO;intro i _;rw[Int.zero_add]
theorem YE{a:bK}{fs:List XE}{p pos:fN}(hg:Gl X "range")(hm:X.mg "range" = aB)(ha:VA X [a] fs)(hs:aR [a] X.env=[(aC,eval a X.env)]:=by rfl):VI X tg (.Call (.Name "range" p) [a] [] pos) (ZG fs):=
 PI.imp (J1 hg hm ha hs) λZ H R ⟨Rm,s,ls,hd,env,e,k⟩=>by
 unfold ZG at e;split at e
 ·split at e
  ·cases e;rename_i j he hb;refine⟨Rm,s,_,hd,env,he,λvs H1 fp s1 i1 _=>?_⟩;obtain⟨v,rfl,i⟩:=i1.one_inv;refine⟨j,by rw[i.int_inv.1],by omega,by omega,k _ H1 s1 ?_⟩;rw[EO];exact Je _ _
  ·cases e
 ·cases e
theorem WX{a b:bK}{fs:List XE}{p pos:fN}(hg:Gl X "range")(hm:X.mg "range" = aB)(ha:VA X [a,b] fs)(hs:aR [a,b] X.env=[(aC,eval a X.env),(aC,eval b X.env)]:=by rfl)(hs2:aR [b] X.env=[(aC,eval b X.env)]:=by rfl):VI X tg (.Call (.Name "range" p) [a,b] [] pos) (Yi fs):=
 PI.imp (J2 hg hm ha hs hs2) λZ H R ⟨Rm,s,ls,hd,env,e,k⟩=>by
 unfold Yi at e;split at e
 ·split at e
  ·cases e;rename_i i j he hb;refine⟨Rm,s,_,hd,env,he,λvs H1 fp s1 i1 _=>?_⟩;obtain⟨v,w,f1,f2,rfl,iv,iw,_⟩:=i1.two_inv;exact⟨i,j,by rw[iv.int_inv.1,iw.int_inv.1],⟨by omega,by omega,by omega,by omega⟩,k _ H1 s1 (Je _ _)⟩
  ·cases e
 ·cases e
def Vi(m:List PV):List PV:=m.zipIdx.map λz=>.tup [.int (z.2:Nat),z.1]
theorem Oe{m:List PV}{i:Nat}{l:PV}(h:(Vi m)[i]?=aA l):∃a,m[i]?=aA a/\l = .tup [.int (i:Nat),a]:=by
 unfold Vi at h;rw[aU,l3] at h
 cases q:m[i]? with
 | none=>rw[q] at h;cases h
 | some a=>rw[q] at h;cases h;exact⟨a,rfl,by simp⟩
theorem U1(m:List PV):(Vi m).length=m.length:=by unfold Vi;rw[aH,List.length_zipIdx]
def seqB:Bool->PV->Option (List PV)
 | true,.lst l=>aA l
 | true,.cst l=>aA l
 | false,.tup l=>aA l
 | _,_=>aB
theorem ER{H:Hp}{b:Bool}{l:PV}{v:V}{fp:List aM}{m:List PV}(h:Is K H l v fp)(e:seqB b l=aA m):∃p xs fq,v = .ref p/\Iss K H m xs fq/\(∀q∈fq,q∈fp)/\∀(Rm:aM->Prop) H',Ab Rm H H'->(∀p,Rm p->Vx (H p))->(∀p∈fp,¬Rm p)->Ig b K H' p xs:=by
 cases b with
 | true=>cases l with
  | lst l=>
   cases e;obtain⟨p,xs,fq,rfl,hp,hi,rfl⟩:=h.lst_inv;exact⟨p,xs,fq,rfl,hi,λq hq=>aT _ hq,λRm H' ab _ n=>SqL.of (ab p _ hp (n p ag))⟩
  | cst l=>
   cases e;obtain⟨p,xs,rfl,hp,hi⟩:=h.cst_inv;exact⟨p,xs,fp,rfl,hi,λq hq=>hq,λRm H' ab hd _=>(hp.tr (ab.tk hd)).sq⟩
  | _=>cases e
 | false=>cases l with
  | tup l=>
   cases e;obtain⟨p,xs,rfl,hp,hi⟩:=h.tup_inv;exact⟨p,xs,fp,rfl,hi,λq hq=>hq,λRm H' ab hd _=>SqT.of ((ab.tk hd).tup p xs hp)⟩
  | _=>cases e
def WC(b:Bool)(fs:List XE):XL:=λs=>match T9 fs s with | some [l]=>(seqB b l).map Vi | _=>aB
theorem R3{elts:List bK}{k:Nat}{tpos:fN}(b:Bool){a:bK}{fs:List XE}{p pos:fN}(hg:Gl X "enumerate")(hm:X.mg "enumerate" = aB)(ha:VA X [a] fs)(hs:aR [a] X.env=[(aC,eval a X.env)]:=by rfl) :
  VI X (.Tuple elts k tpos) (.Call (.Name "enumerate" p) [a] [] pos) (WC b fs):=PI.imp (EA b hg hm ha hs) λZ H R ⟨Rm,s,ls,hd,env,e,k⟩=>by
 unfold WC at e;split at e
 ·rename_i l he;obtain⟨m,e1,rfl⟩:=map_some e;refine⟨Rm,s,_,hd,env,he,λvs H1 fp s1 i1 n1=>?_⟩;obtain⟨v,rfl,i⟩:=i1.one_inv;have hd1:∀p,Rm p->Vx (H1 p):=λp hp=>Same.mut s1 (hd p hp);obtain⟨a,xs,fq,rfl,hi,sub,keep⟩:=ER (K:=X.K) i e1;have kp:=λH' ab=>keep Rm H' ab hd1 n1;refine⟨a,rfl,⟨xs,kp H1 (Same.ab (Same.refl H1))⟩,k _ H1 s1 ⟨λH' ab=>⟨xs,kp H' ab,by rw[U1,hi.len]⟩,λH' i l ab hl=>?_,λH' i l x H'' ab hl y=>?_⟩⟩
  ·obtain⟨c,hc,rfl⟩:=Oe hl;obtain⟨x,f1,hx,_,_⟩:=hi.get hc;exact⟨xs,x,kp H' ab,hx⟩
  ·obtain⟨c,hc,rfl⟩:=Oe hl;obtain⟨x',f1,hx,ix,sb⟩:=hi.get hc;obtain⟨q,z,hq,rfl,rfl,y⟩:=y;have:=y xs (kp _ ab);rw[hx] at this;cases this;have n1':∀p∈f1,¬Rm p:=λp hp=>n1 p (sub p (sb p hp));refine⟨Same.new hq _,f1,Is.tup upd_same ?_,λp hp=>⟨Is.dom _ _ _ ix p hp,n1' p hp⟩⟩;exact Iss.cons (f1:=[]) (Is.int _) (Iss.one ((ix.ab ab hd1 n1').mono (Same.new hq _)))
 ·cases e
end
inductive Tgt where
 | one (i:Nat) | many (is:List Nat)
def Tgt.slots:Tgt->List Nat
 | .one i=>[i]
 | .many is=>is
def setAll:List Nat->List PV->ZJ->ZJ
 | i::is,l::ls,s=>setAll is ls (s.set i (aA l))
 | _,_,s=>s
def Xp:List Nat->List V->SO->SO
 | i::is,l::ls,s=>Xp is ls (s.set i (aA l))
 | _,_,s=>s
def Vj:Tgt->PV->ZJ->Option ZJ
 | .one i,l,s=>aA (s.set i (aA l))
 | .many is,.tup ls,s=>if ls.length=is.length then aA (setAll is ls s) else aB
 | _,_,_=>aB
def Lx:List Nat->DP
 | []=>B1
 | i::is=>DQ (RD i) (Lx is)
def gT(K:aI):Tgt->TG
 | .one i=>RD i
 | .many is=>B3 K is.length (Lx is)
theorem Qu:∀{is:List Nat}{vs:List V}{Z:SO}{H:Hp}{Q:SO->Hp->Prop},vs.length=is.length->Q (Xp is vs Z) H->Lx is vs Z H Q
 | [],[],_,_,_,_,q=>⟨rfl,q⟩
 | [],_::_,_,_,_,h,_=>by simp at h
 | _::_,[],_,_,_,h,_=>by simp at h
 | i::is,v::vs,Z,H,Q,h,q=>⟨v,vs,rfl,Qu (is:=is) (vs:=vs) (by simpa using h) q⟩
theorem Ly{T:Tgt}{l:PV}{v:V}{fp:List aM}{s s':ZJ}{H:Hp}(h:Is K H l v fp)(e:Vj T l s=aA s') :
  ∃ls vs fs,s'=setAll T.slots ls s/\Iss K H ls vs fs/\ls.length=T.slots.length/\(∀p∈fs,p∈fp)/\∀Z (Q:SO->Hp->Prop),Q (Xp T.slots vs Z) H->gT K T v Z H Q:=by
 cases T with
 | one i=>
  cases e;exact⟨[l],[v],fp,rfl,Iss.one h,rfl,λp hp=>hp,λZ Q q=>q⟩
 | many is=>
  cases l with
  | tup ls=>
   have e:(if ls.length=is.length then aA (VL.setAll is ls s) else aB)=aA s':=e;split at e
   ·cases e;obtain⟨p,xs,rfl,hp,hi⟩:=h.tup_inv;exact⟨ls,xs,fp,rfl,hi,by assumption,λp hp=>hp,λZ Q q=>⟨p,xs,rfl,SqT.of hp,by rw[hi.len];assumption,Qu (by rw[hi.len];assumption) q⟩⟩
   ·cases e
  | _=>cases e
theorem V4:∀{is:List Nat}{vs:List V}{Z:SO}{n:Nat},(∀i∈is,i<n)->(Xp is vs Z).drop n=Z.drop n
 | [],_,_,_,_=>rfl
 | _::_,[],_,_,_=>rfl
 | i::is,v::vs,Z,n,h=>by show(Xp is vs (Z.set i (aA v))).drop n=_;rw[V4 (λj hj=>h j (aT _ hj))];have:=h i ag;rw[List.drop_set,pC this]
theorem EnvIs.set{Rm:aM->Prop}{H:Hp}{s:ZJ}{Z:SO}{i:Nat}{l:PV}{v:V}{fp:List aM}(h:EnvIs K Rm H s Z)(hl:s.length=Z.length)(hi:Is K H l v fp)(n:∀p∈fp,¬Rm p):EnvIs K Rm H (s.set i (aA l)) (Z.set i (aA v)):=⟨λj a e=>by
 rw[bZ] at e;by_cases hj:i=j
 ·subst hj;rw[pC rfl] at e;split at e
  ·cases e;exact⟨v,fp,by rw[bZ,pC rfl,pC (by omega)],hi,n⟩
  ·cases e
 ·rw[pE hj] at e;obtain⟨w,f,h1,h2,h3⟩:=h.is j a e;exact⟨w,f,by rw[bZ,pE hj];exact h1,h2,h3⟩⟩
theorem EnvIs.setAll{Rm:aM->Prop}{H:Hp}:∀{is:List Nat}{ls:List PV}{vs:List V}{fs:List aM}{s:ZJ}{Z:SO},EnvIs K Rm H s Z->s.length=Z.length->Iss K H ls vs fs->(∀p∈fs,¬Rm p)->EnvIs K Rm H (VL.setAll is ls s) (Xp is vs Z)
 | [],_,_,_,_,_,h,_,_,_=>by unfold VL.setAll Xp;exact h
 | i::is,[],vs,fs,s,Z,h,_,hi,_=>by simp only[Iss] at hi;rw[hi.1];exact h
 | i::is,l::ls,vs,fs,s,Z,h,hl,hi,n=>by obtain⟨x,r,f1,f2,rfl,h1,h2,rfl⟩:=hi.inv;show EnvIs K Rm H (VL.setAll is ls (s.set i (aA l))) (Xp is r (Z.set i (aA x)));exact EnvIs.setAll (h.set hl h1 λp hp=>n p (av _ hp)) (by rw[bU,bU];exact hl) h2 λp hp=>n p (au _ hp)
def compEnv(n:Nat)(ix:List Nat)(s:ZJ):ZJ:=aK n aB++ix.map (λi=>(s[i]?).join)
def W7(T:Tgt)(ft:XT)(fe:XE)(s0:ZJ):List PV->Option (List PV)
 | []=>aA []
 | l::r=>(Vj T l s0).bind λs1=>(ft s1).bind λc=>if c=aD then(fe s1).bind λy=>(W7 T ft fe s0 r).map (y::·) else W7 T ft fe s0 r
def ZA(n:Nat)(ix:List Nat)(fi:XL)(T:Tgt)(ft:XT)(fe:XE):XE:=λs=>(fi s).bind λls=>if ls.length<=10000 then(W7 T ft fe (compEnv n ix s) ls).map .lst else aB
def ZZ:XT:=λ_=>aA aD
theorem join_some{α:Type}{o:Option (Option α)}{a:α}(h:o.join=aA a):o=aA (aA a):=by
 cases o with
 | none=>cases h
 | some b=>cases b with
  | none=>cases h
  | some c=>cases h;rfl
theorem EnvIs.comp{Rm:aM->Prop}{H:Hp}{s:ZJ}{Z:SO}{n:Nat}{ix:List Nat}(h:EnvIs K Rm H s Z):EnvIs K Rm H (compEnv n ix s) (Yt n ix Z):=⟨λi l e=>by
 unfold compEnv at e;unfold Yt;by_cases hi:i<n
 ·rw[bP (by simpa using hi),cI,pC hi] at e;cases e
 ·rw[bX (by simpa using hi),cN,aU] at e;rw[bX (by simpa using hi),cN,aU]
  cases q:ix[i-n]? with
  | none=>rw[q] at e;cases e
  | some j=>
   rw[q] at e;have e:=join_some (bB e);obtain⟨v,fp,a,b,c⟩:=h.is j l e;exact⟨v,fp,by show aA ((Z[j]?).join)=_;rw[a];rfl,b,c⟩⟩
theorem N0(n:Nat)(ix:List Nat)(s:ZJ)(Z:SO):(compEnv n ix s).length=(Yt n ix Z).length:=by unfold compEnv Yt;simp
theorem Qv{T:Tgt}{ft:XT}{fe:XE}{s0:ZJ}{l:PV}{r ys:List PV}(h:W7 T ft fe s0 (l::r)=aA ys):∃s1 c,Vj T l s0=aA s1/\ft s1=aA c/\((c=aD/\∃y zs,fe s1=aA y/\W7 T ft fe s0 r=aA zs/\ys=y::zs)\/(c=aC/\W7 T ft fe s0 r=aA ys)):=by
 unfold W7 at h;obtain⟨s1,e1,h⟩:=Ze h;obtain⟨c,e2,h⟩:=Ze h;refine⟨s1,c,e1,e2,?_⟩
 cases c with
 | true=>
  rw[pC rfl] at h;obtain⟨y,e3,h⟩:=Ze h;obtain⟨zs,e4,rfl⟩:=map_some h;exact .inl ⟨rfl,y,zs,e3,e4,rfl⟩
 | false=>
  rw[pE aw] at h;exact .inr ⟨rfl,h⟩
theorem Qw{α:Type}{l:List α}{i:Nat}{a:α}{r:List α}(h:l.drop i=a::r):l[i]?=aA a/\l.drop (i+1)=r:=by
 constructor
 ·have:=congrArg (λz=>z[0]?) h;simpa [m4] using this
 ·rw[<-List.drop_drop,h];rfl
section
variable {n:Nat} {ix:List Nat} {fi:XL} {T:Tgt} {ft:XT} {fe:XE}
theorem ES(hT:∀i∈T.slots,i<n):∀Z H Q,tF K (ZA n ix fi T ft fe) Z H Q->P7 n ix (iF K fi) (gT K T) (M5 K ft) (tF K fe) Z H Q:=λZ H Q ⟨Rm,s,L,hd,env,e,k⟩=>by
 obtain⟨ls,e1,e⟩:=Ze e;split at e
 case isFalse=>cases e
 rename_i hlen;obtain⟨ys,e2,rfl⟩:=map_some e;refine⟨Rm,s,ls,hd,env,e1,λJ H1 s1 jis=>?_⟩;have hd1:∀p,Rm p->Vx (H1 p):=λp hp=>Same.mut s1 (hd p hp)
 refine⟨λi m vs Hc=>m=ls.length-i/\i<=ls.length/\Same H1 Hc/\∃dn Zt fp,ys=dn++Zt/\dn.length<=i/\W7 T ft fe (compEnv n ix s) (ls.drop i)=aA Zt/\Iss K Hc dn vs fp/\∀p∈fp,¬Rm p,
  ⟨ls.length,by simp,gA _,Same.refl H1,[],ys,[],rfl,af _,e2,Iss.nil,λp hp=>by simp at hp⟩,?_⟩
 rintro i m vs Hc ⟨rfl,hi,sc,dn,Zt,fp,rfl,hdl,ec,iv,nv⟩;refine⟨by rw[iv.len];exact dH (lt_size (by omega)),?_⟩
 cases q:ls.drop i with
 | nil=>
  have hil:i=ls.length:=by have:=congrArg dj q;rw[bq] at this;simp at this;omega
  subst hil;rw[q] at ec;cases ec;refine .inl ⟨jis.stop Hc (Same.ab sc),λp hp=>k _ _ (p::fp) (s1.trans (sc.trans (Same.new hp _))) ?_ λa ha z=>?_⟩
  ·rw[dU];exact Is.lst upd_same (iv.mono (Same.new hp _))
  ·rcases a9.mp ha with rfl | ha
   ·exact Xy (Same.mut (s1.trans sc) (hd a z)) hp
   ·exact nv a ha z
 | cons l r=>
  obtain⟨hl,hr⟩:=Qw q;have hilt:i<ls.length:=(aX.mp hl).1;rw[q] at ec;obtain⟨sb,c,eb,et,alt⟩:=Qv ec
  refine .inr ⟨jis.go Hc i l (Same.ab sc) hl,λvs' H'=>Same H1 H'/\∃dn' p9 fp',dn++Zt=dn'++p9/\dn'.length<=i+1/\W7 T ft fe (compEnv n ix s) (ls.drop (i+1))=aA p9/\Iss K H' dn' vs' fp'/\∀p∈fp',¬Rm p,
   λvs' H' h'=>⟨ls.length-(i+1),by omega,rfl,hilt,h'.1,h'.2⟩,λx H2 y=>?_⟩
  obtain⟨s2,fx,ix',nx⟩:=jis.yld Hc i l x H2 (Same.ab sc) hl y;have hd2:∀p,Rm p->Vx (H2 p):=λp hp=>Same.mut (sc.trans s2) (hd1 p hp);obtain⟨bl,bv,bf,rfl,bi,_,bsub,buse⟩:=Ly (K:=K) ix' eb;have env2:EnvIs K Rm H2 (compEnv n ix s) (Yt n ix Z):=(env.mono (s1.trans (sc.trans s2))).comp;have env3:=env2.setAll (is:=T.slots) (N0 n ix s Z) bi λp hp=>(nx p (bsub p hp)).2;refine buse _ _ ⟨V4 hT,Rm,_,c,hd2,env3,et,λH3 s3=>?_⟩;have hd3:∀p,Rm p->Vx (H3 p):=λp hp=>Same.mut s3 (hd2 p hp);rcases alt with⟨rfl,y',zs,ey,ez,rfl⟩ | ⟨rfl,ez⟩
  ·refine Ao ?_;refine⟨Rm,_,y',hd3,env3.mono s3,ey,λv H4 f4 s4 i4 n4=>?_⟩;refine⟨sc.trans (s2.trans (s3.trans s4)),dn++[y'],zs,fp++f4,by rw[fF];rfl,by rw[aY];simp;exact hdl,by rw[hr];exact ez,(iv.mono (s2.trans (s3.trans s4))).append (Iss.one i4),λp hp=>?_⟩;rcases aq.mp hp with h | h
   ·exact nv p h
   ·exact n4 p h
  ·refine An ?_;exact⟨sc.trans (s2.trans s3),dn,Zt,fp,rfl,nA hdl,by rw[hr];exact ez,iv.mono (s2.trans s3),nv⟩
theorem Jf(hT:∀i∈T.slots,i<n):∀Z H Q,tM K (ZA n ix fi T ft fe) Z H Q->P7 n ix (iF K fi) (gT K T) (M5 K ft) (tM K fe) Z H Q:=λZ H Q ⟨s,L,env,e,k⟩=>by
 obtain⟨ls,e1,e⟩:=Ze e;split at e
 case isFalse=>cases e
 rename_i hlen;obtain⟨ys,e2,rfl⟩:=map_some e;have hd:∀(H:Hp) p,(λ_=>False:aM->Prop) p->Vx (H p):=λ_ _ z=>z.elim;refine⟨λ_=>False,s,ls,hd H,env,e1,λJ H1 s1 jis=>?_⟩
 refine⟨λi m vs Hc=>m=ls.length-i/\i<=ls.length/\Same H1 Hc/\∃dn Zt fp,ys=dn++Zt/\dn.length<=i/\W7 T ft fe (compEnv n ix s) (ls.drop i)=aA Zt/\Iss K Hc dn vs fp/\fp.Nodup/\∀p∈fp,H1 p=aB/\Vx (Hc p),
  ⟨ls.length,by simp,gA _,Same.refl H1,[],ys,[],rfl,af _,e2,Iss.nil,cM,λp hp=>by simp at hp⟩,?_⟩
 rintro i m vs Hc ⟨rfl,hi,sc,dn,Zt,fp,rfl,hdl,ec,iv,dv,nv⟩;refine⟨by rw[iv.len];exact dH (lt_size (by omega)),?_⟩
 cases q:ls.drop i with
 | nil=>
  have hil:i=ls.length:=by have:=congrArg dj q;rw[bq] at this;simp at this;omega
  subst hil;rw[q] at ec;cases ec;refine .inl ⟨jis.stop Hc (Same.ab sc),λp hp=>k _ _ (p::fp) (s1.trans (sc.trans (Same.new hp _))) ?_ (az.mpr ⟨λz=>Xy (nv p z).2 hp,dv⟩) λa ha=>?_⟩
  ·rw[dU];exact Is.lst upd_same (iv.mono (Same.new hp _))
  ·rcases a9.mp ha with rfl | ha
   ·exact⟨Same.off (s1.trans sc) hp,by rw[upd_same];exact cE⟩
   ·exact⟨Same.off s1 (nv a ha).1,Same.mut (Same.new hp _) (nv a ha).2⟩
 | cons l r=>
  obtain⟨hl,hr⟩:=Qw q;have hilt:i<ls.length:=(aX.mp hl).1;rw[q] at ec;obtain⟨sb,c,eb,et,alt⟩:=Qv ec
  refine .inr ⟨jis.go Hc i l (Same.ab sc) hl,λvs' H'=>Same H1 H'/\∃dn' p9 fp',dn++Zt=dn'++p9/\dn'.length<=i+1/\W7 T ft fe (compEnv n ix s) (ls.drop (i+1))=aA p9/\Iss K H' dn' vs' fp'/\fp'.Nodup/\∀p∈fp',H1 p=aB/\Vx (H' p),
   λvs' H' h'=>⟨ls.length-(i+1),by omega,rfl,hilt,h'.1,h'.2⟩,λx H2 y=>?_⟩
  obtain⟨s2,fx,ix',nx⟩:=jis.yld Hc i l x H2 (Same.ab sc) hl y;obtain⟨bl,bv,bf,rfl,bi,_,bsub,buse⟩:=Ly (K:=K) ix' eb;have env2:EnvIs K (λ_=>False) H2 (compEnv n ix s) (Yt n ix Z):=(env.mono (s1.trans (sc.trans s2))).comp;have env3:=env2.setAll (is:=T.slots) (N0 n ix s Z) bi λp hp=>(nx p (bsub p hp)).2;refine buse _ _ ⟨V4 hT,λ_=>False,_,c,hd H2,env3,et,λH3 s3=>?_⟩;rcases alt with⟨rfl,y',zs,ey,ez,rfl⟩ | ⟨rfl,ez⟩
  ·refine Ao ?_;refine⟨_,y',env3.mono s3,ey,λv H4 f4 s4 i4 d4 n4=>?_⟩;refine⟨sc.trans (s2.trans (s3.trans s4)),dn++[y'],zs,fp++f4,by rw[fF];rfl,by rw[aY];simp;exact hdl,by rw[hr];exact ez,(iv.mono (s2.trans (s3.trans s4))).append (Iss.one i4),cW.mpr ⟨dv,d4,λa ha b hb z=>?_⟩,λp hp=>?_⟩
   ·subst z;exact Xy (Same.mut (s2.trans s3) (nv a ha).2) (n4 a hb).1
   ·rcases aq.mp hp with h | h
    ·exact⟨(nv p h).1,Same.mut (s2.trans (s3.trans s4)) (nv p h).2⟩
    ·exact⟨Same.off (sc.trans (s2.trans s3)) (n4 p h).1,(n4 p h).2⟩
  ·refine An ?_;exact⟨sc.trans (s2.trans s3),dn,Zt,fp,rfl,nA hdl,by rw[hr];exact ez,iv.mono (s2.trans s3),dv,λp hp=>⟨(nv p hp).1,Same.mut (s2.trans s3) (nv p hp).2⟩⟩
end
def AB(X:Cx)(ifs:List bK)(f:XT):Prop:=Gj X ifs (M5 X.K f)
section
variable {X:Cx} {tg elt iter c:bK} {ifs:List bK} {scope:gk} {pos:fN} {fi:XL} {T:Tgt} {ft:XT} {fe:XE}
theorem Wm:AB X [] ZZ:=λdu s Z H Q I ⟨Rm,s',c,hd,env,e,k⟩=>by cases e;exact Ew du s Z H Q I (k H (Same.refl H))
theorem OZ(h:VT X c ft):AB X [c] ft:=Ex h
theorem WO(own fr:List ah)(ix:List Nat)(hcalm:X.calm=aD)(hi:VI X tg iter fi)(S:TM X.N X.env.scope scope own fr ix=aD)
  (hg:∀cl C s H ex,PG (ZR X (own++fr) scope cl C s H ex) tg (gT X.K T)) (ht:∀cl C s H ex,AB (ZR X (own++fr) scope cl C s H ex) ifs ft) (he:∀cl C s H ex,VE (ZR X (own++fr) scope cl C s H ex) elt fe)
  (hT:∀i∈T.slots,i<own.length:=by decide) (hs:∀x,dM iter X.env x=pure x:=by intro _;rfl):VE X (.ListComp elt [⟨tg,iter,ifs,0⟩] scope pos) (ZA own.length ix fi T ft fe):=
 PE.imp (NT own fr ix hcalm hi S hg (λcl C s H ex=>(show Gj (ZR X (own++fr) scope cl C s H ex) ifs (M5 X.K ft) from ht cl C s H ex)) (λcl C s H ex=>(show PE (ZR X (own++fr) scope cl C s H ex) elt (tF X.K fe) from he cl C s H ex)) hs) (ES hT)
theorem Jg(own fr:List ah)(ix:List Nat)(hcalm:X.calm=aD)(hi:VI X tg iter fi)(S:TM X.N X.env.scope scope own fr ix=aD)
  (hg:∀cl C s H ex,PG (ZR X (own++fr) scope cl C s H ex) tg (gT X.K T)) (ht:∀cl C s H ex,AB (ZR X (own++fr) scope cl C s H ex) ifs ft) (he:∀cl C s H ex,VM (ZR X (own++fr) scope cl C s H ex) elt fe)
  (hT:∀i∈T.slots,i<own.length:=by decide) (hs:∀x,dM iter X.env x=pure x:=by intro _;rfl):VM X (.ListComp elt [⟨tg,iter,ifs,0⟩] scope pos) (ZA own.length ix fi T ft fe):=
 PE.imp (NT own fr ix hcalm hi S hg (λcl C s H ex=>(show Gj (ZR X (own++fr) scope cl C s H ex) ifs (M5 X.K ft) from ht cl C s H ex)) (λcl C s H ex=>(show PE (ZR X (own++fr) scope cl C s H ex) elt (tM X.K fe) from he cl C s H ex)) hs) (Jf hT)
end
def V5(xs:List PV)(lo hi:Option Int):List PV:=(xs.drop (HT.sIx xs.length 0 lo)).take (HT.sIx xs.length xs.length hi-HT.sIx xs.length 0 lo)
theorem Iss.cut{H:Hp}{l:List PV}{xs:List V}{fp:List aM}(lo hi:Option Int)(h:Iss K H l xs fp):∃f1,Iss K H (V5 l lo hi) (NN xs lo hi) f1/\∀p∈f1,p∈fp:=by unfold V5 NN;rw[h.len];obtain⟨f1,a,b⟩:=h.drop (HT.sIx l.length 0 lo);obtain⟨f2,c,d⟩:=a.take (HT.sIx l.length l.length hi-HT.sIx l.length 0 lo);exact⟨f2,c,λp hp=>b p (d p hp)⟩
abbrev XO:=ZJ->Option (Option Int)
def tFO(K:aI)(f:XO):TO:=λZ H Q=>∃(Rm:aM->Prop) (s:ZJ) (i:Option Int),(∀p,Rm p->Vx (H p))/\EnvIs K Rm H s Z/\f s=aA i/\∀H',Same H H'->Q i H'
def VO(X:Cx)(e:Option bK)(f:XO):Prop:=PO X e (tFO X.K f)
def UB:XO:=λ_=>aA aB
def VR(f:XE):XO:=λs=>match f s with | some (.int i)=>aA (aA i) | _=>aB
def O0(x:PV)(lo hi:Option Int):Option PV:=match x with | .lst l=>aA (.lst (V5 l lo hi)) | .cst l=>aA (.lst (V5 l lo hi)) | _=>aB
def Xq(x:PV)(lo hi:Option Int):Option PV:=match x with | .tup l=>if HT.sIx l.length 0 lo=0/\HT.sIx l.length l.length hi=l.length then aB else aA (.tup (V5 l lo hi)) | _=>aB
def Up(g:PV->Option Int->Option Int->Option PV)(a:XE)(lo hi:XO):XE:=λs=>(a s).bind λx=>(lo s).bind λl=>(hi s).bind λu=>g x l u
theorem Io{l:List PV}(lo hi:Option Int)(h:ZC l=aD):ZC (V5 l lo hi)=aD:=by rw[WV,bC] at *;intro x hx;unfold V5 at hx;exact h x (fH (dA hx))
section
variable {X:Cx} {e:bK} {lo hi:Option bK} {p2 pos:fN} {fa:XE} {fl fh:XO}
theorem U2:VO X aB UB:=λdu s Z H Q I ⟨Rm,s',i,hd,env,e,k⟩=>by cases e;exact El du s Z H Q I (k H (Same.refl H))
theorem Vk{e:bK}(h:VE X e fa):VO X (aA e) (VR fa):=λdu s Z H Q I ⟨Rm,s',i,hd,env,e,k⟩=>by
 unfold VR at e;split at e
 ·cases e;rename_i j hj;exact Em h du s Z H Q I ⟨Rm,s',.int j,hd,env,hj,λv H' fp sm i n=>⟨j,i.int_inv.1,k H' sm⟩⟩
 ·cases e
theorem Of(ha:VE X e fa)(hl:VO X lo fl)(hh:VO X hi fh):VE X (.Subscript e (.Slice lo hi aB p2) pos) (Up O0 fa fl fh):=PE.imp (NM Ep ha hl hh) λZ H Q ⟨Rm,s,l,hd,env,e,k⟩=>by
 obtain⟨x,e1,e⟩:=Ze e;obtain⟨a,e2,e⟩:=Ze e;obtain⟨b,e3,e⟩:=Ze e;refine⟨Rm,s,x,hd,env,e1,λv H1 fp s1 i1 n1=>⟨Rm,s,a,λp hp=>Same.mut s1 (hd p hp),env.mono s1,e2,λH2 s2=>⟨Rm,s,b,λp hp=>Same.mut (s1.trans s2) (hd p hp),env.mono (s1.trans s2),e3,λH3 s3=>?_⟩⟩⟩
 cases x with
 | lst l=>
  cases e;obtain⟨p,xs,fq,rfl,hp,hi,rfl⟩:=(i1.mono (s2.trans s3)).lst_inv;obtain⟨f1,c,d⟩:=hi.cut a b;refine⟨p,xs,rfl,SqL.of hp,λq hq=>k _ _ (q::f1) (s1.trans (s2.trans (s3.trans (Same.new hq _)))) (Is.lst upd_same (c.mono (Same.new hq _))) λr hr z=>?_⟩;rcases a9.mp hr with rfl | hr
  ·exact Xy (Same.mut (s1.trans (s2.trans s3)) (hd r z)) hq
  ·exact n1 r (aT _ (d r hr)) z
 | cst l=>
  cases e;obtain⟨p,xs,rfl,hp,hi⟩:=(i1.mono (s2.trans s3)).cst_inv;obtain⟨f1,c,d⟩:=hi.cut a b;refine⟨p,xs,rfl,hp.sq,λq hq=>k _ _ (q::f1) (s1.trans (s2.trans (s3.trans (Same.new hq _)))) (Is.lst upd_same (c.mono (Same.new hq _))) λr hr z=>?_⟩;rcases a9.mp hr with rfl | hr
  ·exact Xy (Same.mut (s1.trans (s2.trans s3)) (hd r z)) hq
  ·exact n1 r (d r hr) z
 | _=>cases e
theorem VC(ha:VE X e fa)(hl:VO X lo fl)(hh:VO X hi fh):VE X (.Subscript e (.Slice lo hi aB p2) pos) (Up Xq fa fl fh):=PE.imp (NM CM ha hl hh) λZ H Q ⟨Rm,s,l,hd,env,e,k⟩=>by
 obtain⟨x,e1,e⟩:=Ze e;obtain⟨a,e2,e⟩:=Ze e;obtain⟨b,e3,e⟩:=Ze e;refine⟨Rm,s,x,hd,env,e1,λv H1 fp s1 i1 n1=>⟨Rm,s,a,λp hp=>Same.mut s1 (hd p hp),env.mono s1,e2,λH2 s2=>⟨Rm,s,b,λp hp=>Same.mut (s1.trans s2) (hd p hp),env.mono (s1.trans s2),e3,λH3 s3=>?_⟩⟩⟩
 cases x with
 | tup l=>
  unfold Xq at e;simp only at e;split at e
  ·cases e
  ·rename_i hne;cases e;obtain⟨p,xs,rfl,hp,hi⟩:=(i1.mono (s2.trans s3)).tup_inv;obtain⟨f1,c,d⟩:=hi.cut a b;refine⟨p,xs,rfl,SqT.of hp,by rw[hi.len];exact hne,λq hq=>k _ _ f1 (s1.trans (s2.trans (s3.trans (Same.new hq _)))) (Is.tup upd_same (c.mono (Same.new hq _))) λr hr=>n1 r (d r hr)⟩
 | _=>cases e
end
end VL
namespace VL
open PySem PySem.Spec PyProof.Rows L2
variable {K:aI}
structure Rel(K:aI)(O:List Nat)(H0:Hp)(fps:Nat->List aM)(s:ZJ)(Z:SO)(H:Hp):Prop where
 same:Same H0 H
 len:s.length=Z.length
 is:∀(i:Nat) l,s[i]?=aA (aA l)->∃v,Z[i]?=aA (aA v)/\Is K H l v (fps i)
 emp:∀(i:Nat),(∀l,s[i]?≠aA (aA l))->fps i=[]
 nd:∀i∈O,(fps i).Nodup
 own:∀i∈O,∀p∈fps i,H0 p=aB/\Vx (H p)
 dis:∀i∈O,∀j,j≠i->∀p∈fps i,p∉fps j
def Ow(O:List Nat)(fps:Nat->List aM)(p:aM):Prop:=∃i∈O,p∈fps i
def Z2(O:List Nat)(s:ZJ):ZJ:=O.foldl (λs i=>s.set i aB) s
theorem Qx:∀{O:List Nat}{s:ZJ}{i:Nat}{l:PV},(Z2 O s)[i]?=aA (aA l)->i∉O/\s[i]?=aA (aA l)
 | [],s,i,l,h=>⟨by simp,h⟩
 | o::O,s,i,l,h=>by
  obtain⟨h1,h2⟩:=Qx (O:=O) (s:=s.set o aB) h;rw[bZ] at h2;by_cases e:o=i
  ·rw[pC e] at h2;split at h2<;>cases h2
  ·rw[pE e] at h2;exact⟨by simp only[a9,not_or];exact⟨λz=>e z.symm,h1⟩,h2⟩
section
variable {O:List Nat} {H0 H H':Hp} {fps:Nat->List aM} {s:ZJ} {Z:SO}
theorem Rel.at(r:Rel K O H0 fps s Z H)(i:Nat){p:aM}(hp:p∈fps i):∃l v,s[i]?=aA (aA l)/\Z[i]?=aA (aA v)/\Is K H l v (fps i):=by
 cases q:s[i]? with
 | none=>rw[r.emp i (λl z=>by rw[q] at z;cases z)] at hp;simp at hp
 | some o=>cases o with
  | none=>rw[r.emp i (λl z=>by rw[q] at z;cases z)] at hp;simp at hp
  | some l=>
   obtain⟨v,a,b⟩:=r.is i l q;exact⟨l,v,rfl,a,b⟩
theorem Rel.dom(r:Rel K O H0 fps s Z H)(i:Nat):∀p∈fps i,H p≠aB:=λp hp=>by obtain⟨l,v,_,_,b⟩:=r.at i hp;exact Is.dom _ _ _ b p hp
theorem Rel.env(r:Rel K O H0 fps s Z H):EnvIs K (λ_=>False) H s Z:=⟨λi l e=>by
 obtain⟨v,a,b⟩:=r.is i l e;exact⟨v,_,a,b,λ_ _ z=>z⟩⟩
theorem Rel.envO(r:Rel K O H0 fps s Z H):EnvIs K (Ow O fps) H (Z2 O s) Z:=⟨λi l e=>by
 obtain⟨n,e⟩:=Qx e;obtain⟨v,a,b⟩:=r.is i l e;exact⟨v,_,a,b,λp hp ⟨j,hj,hpj⟩=>r.dis j hj i (λz=>n (z▸hj)) p hpj hp⟩⟩
theorem Rel.owMut(r:Rel K O H0 fps s Z H):∀p,Ow O fps p->Vx (H p):=λp ⟨i,hi,hp⟩=>(r.own i hi p hp).2
theorem Rel.grow(r:Rel K O H0 fps s Z H)(e:Same H H'):Rel K O H0 fps s Z H':=
 ⟨r.same.trans e,r.len,λi l q=>by obtain⟨v,a,b⟩:=r.is i l q;exact⟨v,a,b.mono e⟩,r.emp,r.nd,λi hi p hp=>⟨(r.own i hi p hp).1,Same.mut e (r.own i hi p hp).2⟩,r.dis⟩
theorem Rel.less{F:Hp}(r:Rel K O F fps s Z H)(e:Same H0 F):Rel K O H0 fps s Z H:=
 ⟨e.trans r.same,r.len,r.is,r.emp,r.nd,λi hi p hp=>⟨Same.off e (r.own i hi p hp).1,(r.own i hi p hp).2⟩,r.dis⟩
open Classical in
def Wt(H:Hp)(Rm:aM->Prop):Hp:=λb=>if Rm b then aB else H b
theorem Og{Rm:aM->Prop}:Same (Wt H Rm) H:=λb o h=>by
 unfold Wt at h;split at h
 ·cases h
 ·exact h
theorem Rel.frame(r:Rel K O H0 fps s Z H):Rel K O (Wt H (Ow O fps)) fps s Z H:=
 ⟨Og,r.len,r.is,r.emp,r.nd,λi hi p hp=>⟨by unfold Wt;rw[pC ⟨i,hi,hp⟩],(r.own i hi p hp).2⟩,r.dis⟩
theorem Rel.under(r:Rel K O H0 fps s Z H):Same H0 (Wt H (Ow O fps)):=λb o h=>by unfold Wt;rw[pE (λ⟨i,hi,hp⟩=>by rw[(r.own i hi b hp).1] at h;cases h)];exact r.same b o h
open Classical in
def S8(fps:Nat->List aM)(n:Nat)(i:Nat)(fp:List aM):Nat->List aM:=λj=>if j=i/\i<n then fp else fps j
theorem Yn{n i j:Nat}{fp:List aM}(h:j≠i):S8 fps n i fp j=fps j:=by unfold S8;rw[pE (λz=>h z.1)]
theorem Jh{n i:Nat}{fp:List aM}(h:i<n):S8 fps n i fp i=fp:=by unfold S8;rw[pC ⟨rfl,h⟩]
theorem Rel.set(r:Rel K O H0 fps s Z H){i:Nat}{l:PV}{v:V}{fp:List aM}(hi:Is K H l v fp)(ho:i∈O->fp.Nodup/\∀p∈fp,H0 p=aB/\Vx (H p))
  (hd:∀j,j≠i->(j∈O\/i∈O)->∀p∈fp,p∉fps j):Rel K O H0 (S8 fps s.length i fp) (s.set i (aA l)) (Z.set i (aA v)) H:=by
 by_cases hlt:i<s.length
 ·have e1:S8 fps s.length i fp i=fp:=Jh hlt;refine⟨r.same,by rw[bU,bU];exact r.len,λj a e=>?_,λj h=>?_,λj hj=>?_,λj hj p hp=>?_,λj hj k hk p hp=>?_⟩
  ·rw[bZ] at e;by_cases hj:i=j
   ·subst hj;rw[pC rfl,pC hlt] at e;cases e;rw[e1];exact⟨v,by rw[bZ,pC rfl,pC (by rw[<-r.len];exact hlt)],hi⟩
   ·rw[pE hj] at e;obtain⟨w,h1,h2⟩:=r.is j a e;rw[Yn (cY hj)];exact⟨w,by rw[bZ,pE hj];exact h1,h2⟩
  ·by_cases hj:i=j
   ·subst hj;exact absurd (by rw[bZ,pC rfl,pC hlt]) (h l)
   ·rw[Yn (cY hj)];exact r.emp j λa z=>h a (by rw[bZ,pE hj];exact z)
  ·by_cases e:j=i
   ·subst e;rw[e1];exact(ho hj).1
   ·rw[Yn e];exact r.nd j hj
  ·by_cases e:j=i
   ·subst e;rw[e1] at hp;exact(ho hj).2 p hp
   ·rw[Yn e] at hp;exact r.own j hj p hp
  ·by_cases e:j=i
   ·subst e;rw[e1] at hp;rw[Yn hk];exact hd k hk (.inr hj) p hp
   ·rw[Yn e] at hp;by_cases e2:k=i
    ·subst e2;rw[e1];exact λz=>hd j e (.inl hj) p z hp
    ·rw[Yn e2];exact r.dis j hj k hk p hp
 ·have e1:s.set i (aA l)=s:=jy (by omega);have e2:Z.set i (aA v)=Z:=jy (by rw[<-r.len];omega);have e3:S8 fps s.length i fp=fps:=by funext j;unfold S8;rw[pE (λz=>hlt z.2)]
  rw[e1,e2,e3];exact r
theorem Rel.mutate(r:Rel K O H0 fps s Z H){i:Nat}(hi:i∈O){p:aM}(hp:p∈fps i){o:HO}{l':PV}{v:V}{fp':List aM}(hv:Z[i]?=aA (aA v))(hlt:i<s.length)
  (h':Is K (upd H p o) l' v fp') (nd:fp'.Nodup) (hm:∀q∈fp',H0 q=aB/\Vx (upd H p o q)) (hd:∀j,j≠i->∀q∈fp',q∉fps j) (hmo:Vx (aA o)):Rel K O H0 (S8 fps s.length i fp') (s.set i (aA l')) Z (upd H p o):=by
 have mu:=(r.own i hi p hp).2;have pn:H0 p=aB:=(r.own i hi p hp).1;have e1:S8 fps s.length i fp' i=fp':=Jh hlt
 have tk:TK2 H (upd H p o):=⟨λb xs h=>by
  rw[upd_ne (λz=>by rw[z] at h;rw[h] at mu;exact mu)];exact h,λb o xs h=>by
  rw[upd_ne (λz=>by rw[z] at h;rw[h] at mu;exact mu)];exact h,λb o x h=>by
  rw[upd_ne (λz=>by rw[z] at h;rw[h] at mu;exact mu)];exact h⟩
 refine⟨λb u h=>by rw[upd_ne (Zp h pn)];exact r.same b u h,by rw[bU];exact r.len,λj a e=>?_,λj h=>?_,λj hj=>?_,λj hj q hq=>?_,λj hj k hk q hq=>?_⟩
 ·rw[bZ] at e;by_cases hj:i=j
  ·subst hj;rw[pC rfl,pC hlt] at e;cases e;rw[e1];exact⟨v,hv,h'⟩
  ·rw[pE hj] at e;obtain⟨w,h1,h2⟩:=r.is j a e;rw[Yn (cY hj)];refine⟨w,h1,Is.tr tk _ _ _ (λq hq=>RdK.of λu hu=>?_) h2⟩;have ne:q≠p:=λz=>r.dis i hi j (cY hj) p hp (z▸hq);rw[upd_ne ne];exact hu
 ·by_cases hj:i=j
  ·subst hj;exact absurd (by rw[bZ,pC rfl,pC hlt]) (h l')
  ·rw[Yn (cY hj)];exact r.emp j λa z=>h a (by rw[bZ,pE hj];exact z)
 ·by_cases e:j=i
  ·subst e;rw[e1];exact nd
  ·rw[Yn e];exact r.nd j hj
 ·by_cases e:j=i
  ·subst e;rw[e1] at hq;exact hm q hq
  ·rw[Yn e] at hq;refine⟨(r.own j hj q hq).1,?_⟩;have ne:q≠p:=λz=>r.dis j hj i (cY e) q hq (z▸hp);rw[upd_ne ne];exact(r.own j hj q hq).2
 ·by_cases e:j=i
  ·subst e;rw[e1] at hq;rw[Yn hk];exact hd k hk q hq
  ·rw[Yn e] at hq;by_cases e2:k=i
   ·subst e2;rw[e1];exact λz=>hd j e q z hq
   ·rw[Yn e2];exact r.dis j hj k hk q hq
end
def Kep(a b:List aM):Prop:=a=b\/a=[]
theorem Kep.refl(a:List aM):Kep a a:=.inl rfl
theorem Kep.trans{a b c:List aM}(h:Kep a b)(k:Kep b c):Kep a c:=by
 rcases h with rfl | h
 ·exact k
 ·exact .inr h
inductive Out where
 | nx (s:ZJ) | rt (l:PV) | bk (s:ZJ) | ct (s:ZJ)
abbrev XS:=ZJ->Option Out
def OutOk(K:aI)(O W:List Nat)(H0:Hp)(fps:Nat->List aM)(Z:SO)(D:Uo):Out->Prop
 | .nx s'=>∀p7 Z' H',Rel K O H0 p7 s' Z' H'->(∀j,j∉W->Z'[j]?=Z[j]?/\Kep (p7 j) (fps j))->D.nx Z' H'
 | .bk s'=>∀p7 Z' H',Rel K O H0 p7 s' Z' H'->(∀j,j∉W->Z'[j]?=Z[j]?/\Kep (p7 j) (fps j))->D.bk Z' H'
 | .ct s'=>∀p7 Z' H',Rel K O H0 p7 s' Z' H'->(∀j,j∉W->Z'[j]?=Z[j]?/\Kep (p7 j) (fps j))->D.ct Z' H'
 | .rt l=>∀v fp H',Same H0 H'->Is K H' l v fp->fp.Nodup->(∀p∈fp,H0 p=aB/\Vx (H' p))->D.rt v H'
def F5(K:aI)(O W:List Nat)(f:XS):TS:=λD Z H=>∃H0 fps s out,Rel K O H0 fps s Z H/\f s=aA out/\OutOk K O W H0 fps Z D out
def VS(X:Cx)(O W:List Nat)(st:cO)(f:XS):Prop:=PS X st (F5 X.K O W f)
def Ip(X:Cx)(O W:List Nat)(st:List cO)(f:XS):Prop:=PSs X st (F5 X.K O W f)
theorem OutOk.same{O W W':List Nat}{H0:Hp}{fps fps1:Nat->List aM}{Z Z1:SO}{D:Uo}{out:Out}(h:OutOk K O W' H0 fps Z D out)(k:∀j,j∉W'->Z1[j]?=Z[j]?/\Kep (fps1 j) (fps j))(hs:∀j,j∉W'->j∉W):OutOk K O W H0 fps1 Z1 D out:=by
 cases out with
 | nx s'=>exact λp7 Z' H' r q=>h p7 Z' H' r λj hj=>⟨(q j (hs j hj)).1.trans (k j hj).1,(q j (hs j hj)).2.trans (k j hj).2⟩
 | bk s'=>exact λp7 Z' H' r q=>h p7 Z' H' r λj hj=>⟨(q j (hs j hj)).1.trans (k j hj).1,(q j (hs j hj)).2.trans (k j hj).2⟩
 | ct s'=>exact λp7 Z' H' r q=>h p7 Z' H' r λj hj=>⟨(q j (hs j hj)).1.trans (k j hj).1,(q j (hs j hj)).2.trans (k j hj).2⟩
 | rt l=>exact h
theorem OutOk.less{O W:List Nat}{H0 F:Hp}{fps:Nat->List aM}{Z:SO}{D:Uo}{out:Out}(h:OutOk K O W H0 fps Z D out)(e:Same H0 F):OutOk K O W F fps Z D out:=by
 cases out with
 | nx s'=>exact λp7 Z' H' r q=>h p7 Z' H' (r.less e) q
 | bk s'=>exact λp7 Z' H' r q=>h p7 Z' H' (r.less e) q
 | ct s'=>exact λp7 Z' H' r q=>h p7 Z' H' (r.less e) q
 | rt l=>exact λv fp H' sm i d n=>h v fp H' (e.trans sm) i d λp hp=>⟨Same.off e (n p hp).1,(n p hp).2⟩
def ZI:XS:=λs=>aA (.nx s)
def Zk(f g:XS):XS:=λs=>(f s).bind λo=>match o with | .nx s'=>g s' | r=>aA r
def Wb(c:XT)(f g:XS):XS:=λs=>(c s).bind λk=>if k=aD then f s else g s
def Ya(f:XE):XS:=λs=>(f s).map .rt
def Zl(i:Nat)(f:XE):XS:=λs=>(f s).map λl=>.nx (s.set i (aA l))
section
variable {X:Cx} {O W W1 W2:List Nat} {st:cO} {Zt:List cO} {f g:XS} {pos:fN}
theorem PS.imp{t t':TS}(h:PS X st t)(i:∀D Z H,t' D Z H->t D Z H):PS X st t':=λdu s Z H D I q=>h du s Z H D I (i D Z H q)
theorem PSs.imp{t t':TS}(h:PSs X Zt t)(i:∀D Z H,t' D Z H->t D Z H):PSs X Zt t':=λdu s Z H D I q=>h du s Z H D I (i D Z H q)
theorem GD:∀D Z H,F5 K O W ZI D Z H->DN D Z H:=λD Z H ⟨H0,fps,s,out,r,e,k⟩=>by cases e;exact k fps Z H r λj _=>⟨rfl,Kep.refl _⟩
theorem Z5:Ip X O [] [] ZI:=PSs.imp Ea GD
theorem Zj(h:VS X O W st f):Ip X O W [st] f:=KO h
theorem Zg(h1:VS X O W1 st f)(h2:Ip X O W2 Zt g):Ip X O (W1++W2) (st::Zt) (Zk f g):=PSs.imp (NI h1 h2) λD Z H ⟨H0,fps,s,out,r,e,k⟩=>by
 obtain⟨o1,e1,e⟩:=Ze e;have sub1:∀j,j∉W1++W2->j∉W1:=λj hj z=>hj (av _ z);have sub2:∀j,j∉W1++W2->j∉W2:=λj hj z=>hj (au _ z);refine⟨H0,fps,s,o1,r,e1,?_⟩
 cases o1 with
 | nx s1=>
  intro fps1 Z1 H1 r1 q1;exact⟨H0,fps1,s1,out,r1,e,k.same (λj hj=>q1 j (sub1 j hj)) sub2⟩
 | bk s1=>cases e;exact λp7 Z' H' r' q'=>k p7 Z' H' r' λj hj=>q' j (sub1 j hj)
 | ct s1=>cases e;exact λp7 Z' H' r' q'=>k p7 Z' H' r' λj hj=>q' j (sub1 j hj)
 | rt l=>cases e;exact k
theorem Xh{c:bK}{a b:List cO}{fc:XT}(hc:VT X c fc)(ha:Ip X O W1 a f)(hb:Ip X O W2 b g):VS X O (W1++W2) (.If c a b pos) (Wb fc f g):=PS.imp (DO hc ha hb) λD Z H ⟨H0,fps,s,out,r,e,k⟩=>by
 obtain⟨c,e1,e⟩:=Ze e;have sub1:∀j,j∉W1++W2->j∉W1:=λj hj z=>hj (av _ z);have sub2:∀j,j∉W1++W2->j∉W2:=λj hj z=>hj (au _ z);refine⟨λ_=>False,s,c,λ_ z=>z.elim,r.env,e1,λH1 s1=>?_⟩
 cases c with
 | true=>
  rw[pC rfl] at e ⊢;exact⟨H0,fps,s,out,r.grow s1,e,k.same (λj _=>⟨rfl,Kep.refl _⟩) sub1⟩
 | false=>
  rw[pE aw] at e ⊢;exact⟨H0,fps,s,out,r.grow s1,e,k.same (λj _=>⟨rfl,Kep.refl _⟩) sub2⟩
theorem ZS{e:bK}{fe:XE}(he:VM X e fe):VS X O [] (.Return (aA e) pos) (Ya fe):=PS.imp (M7 he) λD Z H ⟨H0,fps,s,out,r,e,k⟩=>by obtain⟨l,e1,rfl⟩:=map_some e;exact⟨s,l,r.env,e1,λv H' fp sm i d n=>k v fp H' (r.same.trans sm) i d λp hp=>⟨Same.off r.same (n p hp).1,(n p hp).2⟩⟩
theorem U3{e:bK}{i:Nat}(he:PE X e (Sb i))(hi:i∈O:=by decide):VS X O [] (.Return (aA e) pos) (Ya (Za i)):=PS.imp (M7 he) λD Z H ⟨H0,fps,s,out,r,e,k⟩=>by obtain⟨l,e1,rfl⟩:=map_some e;obtain⟨v,a,b⟩:=r.is i l (S3 e1);exact⟨v,a,k v _ H r.same b (r.nd i hi) (r.own i hi)⟩
theorem Ji{t:TE}{i:Nat}{fe:XE}(ht:∀Z H Q,tM K fe Z H Q->t Z H Q):∀D Z H,F5 K O [i] (Zl i fe) D Z H->M8 t (RD i) D Z H:=λD Z H ⟨H0,fps,s,out,r,e,k⟩=>by
 obtain⟨l,e1,rfl⟩:=map_some e;refine ht Z H _ ⟨s,l,r.env,e1,λv H' fp sm is d n=>?_⟩;refine k _ _ H' ((r.grow sm).set (i:=i) is (λ_=>⟨d,λp hp=>⟨Same.off r.same (n p hp).1,(n p hp).2⟩⟩) λj _ _ p hp z=>r.dom j p z (n p hp).1) λj hj=>?_;have:j≠i:=by simpa using hj
 exact⟨by rw[bZ,pE (cY this)],.inl (Yn this)⟩
theorem Zo{i:Nat}{x:ah}{e:bK}{fe:XE}{pos':fN}(hN:X.N.Nodup)(hi:X.N[i]?=aA x)(hx:BU X.env.scope x)(he:VM X e fe)(hs:g8 e (aA (.Name x pos')) pos.line X.env=pure aC:=by rfl)(hf:X.fn x=aD\/X.env.scope.names.lookup x=aA .local:=by first | exact .inl rfl | exact .inr rfl | assumption) :
  VS X O [i] (.Assign [.Name x pos'] e pos) (Zl i fe):=PS.imp (Ct hN hi hx he hs hf) (Ji λ_ _ _ h=>h)
end
def Y8(T:Tgt)(fb:XS):List PV->ZJ->Option Out
 | [],s=>aA (.nx s)
 | l::r,s=>(Vj T l s).bind λs1=>(fb s1).bind λo=>match o with | .nx s2=>Y8 T fb r s2 | .ct s2=>Y8 T fb r s2 | .bk s2=>aA (.nx s2) | .rt v=>aA (.rt v)
def Z3(O:List Nat)(fi:XL)(T:Tgt)(fb:XS):XS:=λs=>(fi (Z2 O s)).bind λls=>Y8 T fb ls s
theorem Rel.setAll{O:List Nat}{H0 H:Hp}:∀{is:List Nat}{ls:List PV}{vs:List V}{fs:List aM}{fps:Nat->List aM}{s:ZJ}{Z:SO},Rel K O H0 fps s Z H->Iss K H ls vs fs->ls.length=is.length->(∀i∈is,i∉O)->(∀i∈O,∀p∈fps i,p∉fs)->
  ∃p7,Rel K O H0 p7 (VL.setAll is ls s) (Xp is vs Z) H/\∀j,j∉is->(Xp is vs Z)[j]?=Z[j]?/\Kep (p7 j) (fps j)
 | [],ls,vs,fs,fps,s,Z,r,_,_,_,_=>⟨fps,by unfold VL.setAll Xp;exact r,λj _=>⟨by unfold Xp;rfl,Kep.refl _⟩⟩
 | i::is,[],vs,fs,fps,s,Z,r,_,hl,_,_=>by simp at hl
 | i::is,l::ls,vs,fs,fps,s,Z,r,hi,hl,hO,hd=>by
  obtain⟨x,rr,f1,f2,rfl,h1,h2,rfl⟩:=hi.inv;have hiO:=hO i ag
  have r1:=r.set (i:=i) h1 (λz=>absurd z hiO) λj hj hjo p hp z=>by
   rcases hjo with hjo | hjo
   ·exact hd j hjo p z (av _ hp)
   ·exact absurd hjo hiO
  obtain⟨p7,r2,q2⟩:=Rel.setAll (is:=is) r1 h2 (by simpa using hl) (λj hj=>hO j (aT _ hj)) λj hj p hp z=>by have hji:j≠i:=λe=>hiO (by rw[<-e];exact hj);rw[Yn hji] at hp;exact hd j hj p hp (au _ z)
  refine⟨p7,r2,λj hj=>?_⟩;have hji:j≠i:=λe=>hj (e▸ag);obtain⟨a,b⟩:=q2 j (λz=>hj (aT _ z));exact⟨a.trans (by rw[bZ,pE (cY hji)]),b.trans (.inl (Yn hji))⟩
section
variable {O W:List Nat} {T:Tgt} {fb:XS}
theorem Qy{H1:Hp}{fps:Nat->List aM}{s:ZJ}{Z:SO}{D:Uo}{J:It}{ls:List PV}{out:Out}(r:Rel K O (Wt H1 (Ow O fps)) fps s Z H1)(jis:JIs K (Ow O fps) H1 J ls)(e:Y8 T fb ls s=aA out)(hT:∀i∈T.slots,i∉O)
  (k:OutOk K O (T.slots++W) (Wt H1 (Ow O fps)) fps Z D out):C0 (gT K T) (F5 K O W fb) D Z J H1:=by
 have subT:∀j,j∉T.slots++W->j∉T.slots:=λj hj z=>hj (av _ z);have subW:∀j,j∉T.slots++W->j∉W:=λj hj z=>hj (au _ z)
 refine⟨λi m Z' H'=>m=ls.length-i/\i<=ls.length/\∃p7 s',Rel K O (Wt H1 (Ow O fps)) p7 s' Z' H'/\Y8 T fb (ls.drop i) s'=aA out/\∀j,j∉T.slots++W->Z'[j]?=Z[j]?/\Kep (p7 j) (fps j),
  ⟨ls.length,by simp,gA _,fps,s,r,e,λj _=>⟨rfl,Kep.refl _⟩⟩,?_⟩
 rintro i m Z' H' ⟨rfl,hi,p7,s',r',e',q'⟩;have ab:Ab (Ow O fps) H1 H':=λb o h n=>r'.same b o (by unfold Wt;rw[pE n];exact h)
 cases q:ls.drop i with
 | nil=>
  have hil:i=ls.length:=by have:=congrArg dj q;rw[bq] at this;simp at this;omega
  subst hil;rw[q] at e';cases e';exact .inl ⟨jis.stop H' ab,k p7 Z' H' r' q'⟩
 | cons l rr=>
  obtain⟨hl,hr⟩:=Qw q;have hilt:i<ls.length:=(aX.mp hl).1;rw[q] at e';unfold Y8 at e';obtain⟨sb,eb,e'⟩:=Ze e';obtain⟨o,eo,e'⟩:=Ze e'
  refine .inr ⟨jis.go H' i l ab hl,λZ2 H2=>∃fps2 s2,Rel K O (Wt H1 (Ow O fps)) fps2 s2 Z2 H2/\Y8 T fb (ls.drop (i+1)) s2=aA out/\∀j,j∉T.slots++W->Z2[j]?=Z[j]?/\Kep (fps2 j) (fps j),
   λZ2 H2 h2=>⟨ls.length-(i+1),by omega,rfl,hilt,h2⟩,λx H2 y=>?_⟩
  obtain⟨s2,fx,ix,nx⟩:=jis.yld H' i l x H2 ab hl y;obtain⟨bl,bv,bf,rfl,bi,blen,bsub,buse⟩:=Ly (K:=K) ix eb;obtain⟨fps3,r3,q3⟩:=Rel.setAll (is:=T.slots) (r'.grow s2) bi blen hT λj hj p hp z=>by obtain⟨n1,n2⟩:=nx p (bsub p z);have:=(r'.own j hj p hp).1;unfold Wt at this;rw[pE n2] at this;exact n1 this
  refine buse _ _ ⟨_,fps3,_,o,r3,eo,?_⟩;have keep:∀j,j∉T.slots++W->(Xp T.slots bv Z')[j]?=Z[j]?/\Kep (fps3 j) (fps j):=λj hj=>⟨(q3 j (subT j hj)).1.trans (q' j hj).1,(q3 j (subT j hj)).2.trans (q' j hj).2⟩
  cases o with
  | nx s4=>exact λfps4 Z4 H4 r4 q4=>⟨fps4,s4,r4,by rw[hr];exact e',λj hj=>⟨(q4 j (subW j hj)).1.trans (keep j hj).1,(q4 j (subW j hj)).2.trans (keep j hj).2⟩⟩
  | ct s4=>exact λfps4 Z4 H4 r4 q4=>⟨fps4,s4,r4,by rw[hr];exact e',λj hj=>⟨(q4 j (subW j hj)).1.trans (keep j hj).1,(q4 j (subW j hj)).2.trans (keep j hj).2⟩⟩
  | bk s4=>
   cases e';exact λfps4 Z4 H4 r4 q4=>k fps4 Z4 H4 r4 λj hj=>⟨(q4 j (subW j hj)).1.trans (keep j hj).1,(q4 j (subW j hj)).2.trans (keep j hj).2⟩
  | rt v=>
   cases e';exact k
end
section
variable {X:Cx} {O W:List Nat} {tg iter:bK} {body:List cO} {fi:XL} {T:Tgt} {fb:XS} {pos:fN}
theorem YF(hp:nF (model X.prog X.w) X.A X.env X.xe)(hc:X.calm=aD)(hi:VI X tg iter fi)(hg:PG X tg (gT X.K T))(hb:Ip X O W body fb)(hT:∀i∈T.slots,i∉O:=by decide)
  (hs:∀x,dM iter X.env x=pure x:=by intro _;rfl):VS X O (T.slots++W) (.For tg iter body [] pos) (Z3 O fi T fb):=PS.imp (OI hp hc hi hg hb hs) λD Z H ⟨H0,fps,s,out,r,e,k⟩=>by
 obtain⟨ls,e1,e⟩:=Ze e;refine⟨Ow O fps,Z2 O s,ls,r.owMut,r.envO,e1,λJ H1 s1 jis=>?_⟩;exact Qy (r.grow s1).frame jis e hT (k.less (r.grow s1).under)
end
def YG(c:XT)(fb:XS):Nat->ZJ->Option Out
 | 0,_=>aB
 | n+1,s=>(c s).bind λk=>if k=aD then(fb s).bind λo=>match o with | .nx s2=>YG c fb n s2 | .ct s2=>YG c fb n s2 | .bk s2=>aA (.nx s2) | .rt v=>aA (.rt v) else aA (.nx s)
theorem UC{c:XT}{fb:XS}:∀{n:Nat}{s:ZJ}{o:Out},YG c fb n s=aA o->YG c fb (n+1) s=aA o
 | 0,_,_,h=>by cases h
 | n+1,s,o,h=>by
  unfold YG at h ⊢;obtain⟨k,e1,h⟩:=Ze h;rw[e1]
  cases k with
  | false=>exact h
  | true=>
   rw[pC rfl] at h;obtain⟨o1,e2,h⟩:=Ze h;simp only[aE,if_true,e2]
   cases o1 with
   | nx s2=>exact UC h
   | ct s2=>exact UC h
   | bk s2=>exact h
   | rt v=>exact h
theorem Oh{c:XT}{fb:XS}{n m:Nat}{s:ZJ}{o:Out}(h:YG c fb n s=aA o)(hm:n<=m):YG c fb m s=aA o:=by
 induction m with
 | zero=>
  have:n=0:=by omega
  subst this;exact h
 | succ m ih=>
  by_cases e:n=m+1
  ·subst e;exact h
  ·exact UC (ih (by omega))
open Classical in
def Vu(c:XT)(fb:XS):XS:=λs=>if h:∃n,(YG c fb n s).isSome=aD then YG c fb h.choose s else aB
theorem Oi{c:XT}{fb:XS}{n:Nat}{s:ZJ}{o:Out}(h:YG c fb n s=aA o):Vu c fb s=aA o:=by
 have ex:∃n,(YG c fb n s).isSome=aD:=⟨n,by rw[h];rfl⟩;unfold Vu;rw[dif_pos ex];obtain⟨o',e⟩:=cj.mp ex.choose_spec;rw[e];rcases Nat.le_total n ex.choose with hl | hl
 ·rw[Oh h hl] at e;exact e.symm
 ·rw[Oh e hl] at h;exact h
section
variable {X:Cx} {O W:List Nat} {c:bK} {body:List cO} {fc:XT} {fb:XS} {pos:fN}
theorem Qz(hp:nF (model X.prog X.w) X.A X.env X.xe)(hc:VT X c fc)(hb:Ip X O W body fb):VS X O W (.While c body [] pos) (Vu fc fb):=PS.imp (HY hp hc hb) λD Z H ⟨H0,fps,s,out,r,e,k⟩=>by
 unfold Vu at e;split at e
 case isFalse=>cases e
 rename_i ex;generalize ex.choose=n at e;refine⟨λm Z' H'=>∃p7 s',Rel X.K O H0 p7 s' Z' H'/\YG fc fb m s'=aA out/\∀j,j∉W->Z'[j]?=Z[j]?/\Kep (p7 j) (fps j),⟨n,fps,s,r,e,λj _=>⟨rfl,Kep.refl _⟩⟩,?_⟩;rintro m Z' H' ⟨p7,s',r',e',q'⟩
 cases m with
 | zero=>cases e'
 | succ m=>
  unfold YG at e';obtain⟨b,e1,e'⟩:=Ze e';refine⟨λ_=>False,s',b,λ_ z=>z.elim,r'.env,e1,λH2 s2=>?_⟩
  cases b with
  | false=>
   rw[pE aw] at e' ⊢;cases e';exact k p7 Z' H2 (r'.grow s2) q'
  | true=>
   rw[pC rfl] at e' ⊢;obtain⟨o,eo,e'⟩:=Ze e';refine⟨λZ2 H2=>∃fps2 s2,Rel X.K O H0 fps2 s2 Z2 H2/\YG fc fb m s2=aA out/\∀j,j∉W->Z2[j]?=Z[j]?/\Kep (fps2 j) (fps j),λZ2 H2 h2=>⟨m,gg m,h2⟩,H0,p7,s',o,r'.grow s2,eo,?_⟩
   cases o with
   | nx s4=>exact λfps4 Z4 H4 r4 q4=>⟨fps4,s4,r4,e',λj hj=>⟨(q4 j hj).1.trans (q' j hj).1,(q4 j hj).2.trans (q' j hj).2⟩⟩
   | ct s4=>exact λfps4 Z4 H4 r4 q4=>⟨fps4,s4,r4,e',λj hj=>⟨(q4 j hj).1.trans (q' j hj).1,(q4 j hj).2.trans (q' j hj).2⟩⟩
   | bk s4=>
    cases e';exact λfps4 Z4 H4 r4 q4=>k fps4 Z4 H4 r4 λj hj=>⟨(q4 j hj).1.trans (q' j hj).1,(q4 j hj).2.trans (q' j hj).2⟩
   | rt v=>cases e';exact k
end
end VL
namespace VL
open PySem PySem.Spec PyProof.Rows L2
variable {K:aI}
section
variable {O:List Nat} {H0 H H':Hp} {fps:Nat->List aM} {s:ZJ} {Z:SO}
theorem Rel.lst_at(r:Rel K O H0 fps s Z H){i:Nat}(hi:i∈O){m:List PV}(e:s[i]?=aA (aA (.lst m))):∃p xs fq,Z[i]?=aA (aA (.ref p))/\H p=aA (.lst xs)/\Iss K H m xs fq/\fps i=p::fq:=by obtain⟨v,a,b⟩:=r.is i _ e;obtain⟨p,xs,fq,rfl,hp,hm,ef⟩:=b.lst_inv;exact⟨p,xs,fq,a,hp,hm,ef⟩
theorem Rel.dT_at(r:Rel K O H0 fps s Z H){i:Nat}(hi:i∈O){ks:List (List YM)}{m:List PV}(e:s[i]?=aA (aA (.dT ks m))):∃p oy fq,Z[i]?=aA (aA (.ref p))/\H p=aA (.dT oy)/\oy.map (·.1)=ks/\Iss K H m (oy.map (·.2)) fq/\fps i=p::fq:=by
 obtain⟨v,a,b⟩:=r.is i _ e;obtain⟨p,xs,fq,rfl,hp,hk,hm,ef⟩:=b.dT_inv;refine⟨p,xs,fq,a,?_,hk,hm,ef⟩;have mu:=(r.own i hi p (by rw[ef];exact ag)).2;rcases hp with hp | ⟨o,hp⟩
 ·exact hp
 ·rw[hp] at mu;exact mu.elim
theorem Rel.dK_at(r:Rel K O H0 fps s Z H){i:Nat}(hi:i∈O){ks:List YM}{m:List PV}(e:s[i]?=aA (aA (.dK ks m))):∃p oy fq,Z[i]?=aA (aA (.ref p))/\H p=aA (.dK oy)/\oy.map (·.1)=ks/\Iss K H m (oy.map (·.2)) fq/\fps i=p::fq:=by
 obtain⟨v,a,b⟩:=r.is i _ e;obtain⟨p,xs,fq,rfl,hp,hk,hm,ef⟩:=b.dK_inv;refine⟨p,xs,fq,a,?_,hk,hm,ef⟩;have mu:=(r.own i hi p (by rw[ef];exact ag)).2;rcases hp with hp | ⟨o,hp⟩
 ·exact hp
 ·rw[hp] at mu;exact mu.elim
theorem U4{α:Type}{l:List α}{i:Nat}{a:α}(h:l[i]?=aA a):i<l.length:=(aX.mp h).1
theorem TK.upd'{p:aM}{o:HO}(mu:Vx (H p)):TK2 H (L2.upd H p o):=⟨λb xs h=>by
 rw[upd_ne (λz=>by rw[z] at h;rw[h] at mu;exact mu)];exact h,λb o xs h=>by
 rw[upd_ne (λz=>by rw[z] at h;rw[h] at mu;exact mu)];exact h,λb o x h=>by
 rw[upd_ne (λz=>by rw[z] at h;rw[h] at mu;exact mu)];exact h⟩
theorem RdK.upd_ne{p q:aM}{o:HO}(ne:q≠p):RdK H (L2.upd H p o) q:=RdK.of λu hu=>by rw[L2.upd_ne ne];exact hu
theorem Rel.relist(r:Rel K O H0 fps s Z H){i:Nat}(hi:i∈O){m m':List PV}(e:s[i]?=aA (aA (.lst m))){p:aM}{fq fq':List aM}{xs':List V}(ef:fps i=p::fq)(hv:Z[i]?=aA (aA (.ref p)))
  (h':Iss K H m' xs' fq') (nd:(p::fq').Nodup) (hf:∀q∈fq',q∈fq\/((H0 q=aB/\Vx (H q))/\∀j,q∉fps j)):Rel K O H0 (S8 fps s.length i (p::fq')) (s.set i (aA (.lst m'))) Z (L2.upd H p (.lst xs')):=by
 have hp:p∈fps i:=by rw[ef];exact ag
 have mu:=(r.own i hi p hp).2;have np:p∉fq':=(az.mp nd).1;refine r.mutate hi hp hv (U4 e) (Is.lst upd_same (Iss.tr (TK.upd' mu) _ _ _ (λq hq=>RdK.upd_ne λz=>np (z▸hq)) h')) nd (λq hq=>?_) (λj hj q hq z=>?_) cE
 ·rcases a9.mp hq with rfl | hq
  ·exact⟨(r.own i hi q hp).1,by rw[upd_same];exact cE⟩
  ·have ne:q≠p:=λz=>np (z▸hq);rw[L2.upd_ne ne];rcases hf q hq with h | h
   ·exact r.own i hi q (by rw[ef];exact aT _ h)
   ·exact h.1
 ·rcases a9.mp hq with rfl | hq
  ·exact r.dis i hi j hj q hp z
  ·rcases hf q hq with h | h
   ·exact r.dis i hi j hj q (by rw[ef];exact aT _ h) z
   ·exact h.2 j z
end
def Iq(s:ZJ)(i:Nat):Option (List PV):=match s[i]? with | some (aA (.lst m))=>aA m | _=>aB
def Ir:PV->Option Int
 | .int k=>aA k
 | _=>aB
def AD:PV->Option (List PV)
 | .lst k=>aA k
 | _=>aB
theorem UD{s:ZJ}{i:Nat}{m:List PV}(h:Iq s i=aA m):s[i]?=aA (aA (.lst m)):=by
 unfold Iq at h;split at h
 ·cases h;assumption
 ·cases h
theorem UE{a:PV}{k:Int}(h:Ir a=aA k):a = .int k:=by
 unfold Ir at h;split at h
 ·cases h;rfl
 ·cases h
theorem N1{a:PV}{k:List PV}(h:AD a=aA k):a = .lst k:=by
 unfold AD at h;split at h
 ·cases h;rfl
 ·cases h
def gd(c:Bool):Option Unit:=if c=aD then aA () else aB
theorem V6{c:Bool}{u:Unit}(h:gd c=aA u):c=aD:=by
 unfold gd at h;split at h
 ·assumption
 ·cases h
def Zy(i:Nat)(f:XE):XS:=λs=>(f s).bind λl=>(Iq s i).bind λm=>(gd (decide (m.length<=10000))).bind λ_=>aA (.nx (s.set i (aA (.lst (m++[l])))))
def Xz(i:Nat)(f:XE):XS:=λs=>(f s).bind λl=>(AD l).bind λn=>(Iq s i).bind λm=>(gd (decide (m.length+n.length<=10000))).bind λ_=>aA (.nx (s.set i (aA (.lst (m++n)))))
def WQ(i:Nat)(fk:XE)(f:XE):XS:=λs=>(fk s).bind λk=>(f s).bind λl=>(Ir k).bind λk=>(Iq s i).bind λm=>(gd (ZC m&&ZY l&&decide (0<=k/\k<=1000000/\m.length<=10000))).bind λ_=>aA (.nx (s.set i (aA (.lst (m.take k.toNat++l::m.drop k.toNat)))))
def Xu(i:Nat)(fk:XE)(f:XE):XS:=λs=>(f s).bind λl=>(fk s).bind λk=>(Ir k).bind λk=>(Iq s i).bind λm=>(gd (ZC m&&ZY l)).bind λ_=>(M4 m.length k).map λj=>.nx (s.set i (aA (.lst (m.set j l))))
section
variable {X:Cx} {O:List Nat} {i:Nat} {st:cO} {f fk:XE}
theorem tyL{H:Hp}{p:aM}{xs:List V}(h:H p=aA (.lst xs)):tyV K "list" (.ref p) H:=.inl ⟨rfl,_,SqL.of h⟩
theorem QA{s:ZJ}{Z:SO}{fps:Nat->List aM}{fp:List aM}:∀j,j∉[i]->Z[j]?=Z[j]?/\Kep (S8 fps s.length i fp j) (fps j):=λj hj=>⟨rfl,.inl (Yn (by simpa using hj))⟩
theorem Y1(h:PS X st (KP (A8 X.K "list" K0 (Sb i) (RE (tM X.K f) J6))))(hi:i∈O:=by decide):VS X O [i] st (Zy i f):=PS.imp h λD Z H ⟨H0,fps,s,out,r,e,k⟩=>by
 obtain⟨l,e1,e⟩:=Ze e;obtain⟨m,em,e⟩:=Ze e;obtain⟨_,eg,e⟩:=Ze e;have em:=UD em;have hlen:=of_decide_eq_true (V6 eg);cases e;obtain⟨p,xs,fq,hv,hp,hm,ef⟩:=r.lst_at hi em;refine⟨.ref p,hv,tyL hp,s,l,r.env,e1,λy H2 fe s2 i2 d2 n2=>?_⟩;refine⟨p,xs,y,rfl,rfl,s2 _ _ hp,by rw[hm.len];exact lt_size (by omega),?_⟩;have r2:=r.grow s2;have fr:∀q∈fe,∀j,q∉fps j:=λq hq j z=>r.dom j q z (n2 q hq).1;refine k _ _ _ (r2.relist hi em ef hv ((hm.mono s2).append (Iss.one i2)) ?_ λq hq=>?_) QA
 ·have nd:=r.nd i hi;rw[ef] at nd;rw[<-i0];exact cW.mpr ⟨nd,d2,λa ha b hb z=>fr b hb i (by rw[ef,<-z];exact ha)⟩
 ·rcases aq.mp hq with h | h
  ·exact .inl h
  ·exact .inr ⟨⟨Same.off r.same (n2 q h).1,(n2 q h).2⟩,fr q h⟩
theorem Iu(h:PS X st (KP (A8 X.K "list" K1 (Sb i) (RE (tM X.K f) J6))))(hi:i∈O:=by decide):VS X O [i] st (Xz i f):=PS.imp h λD Z H ⟨H0,fps,s,out,r,e,k⟩=>by
 obtain⟨l,e1,e⟩:=Ze e;obtain⟨n,en,e⟩:=Ze e;obtain⟨m,em,e⟩:=Ze e;obtain⟨_,eg,e⟩:=Ze e;rw[N1 en] at e1;have em:=UD em;have hlen:=of_decide_eq_true (V6 eg);cases e;obtain⟨p,xs,fq,hv,hp,hm,ef⟩:=r.lst_at hi em;refine⟨.ref p,hv,tyL hp,s,_,r.env,e1,λy H2 fe s2 i2 d2 n2=>?_⟩;obtain⟨b,zs,fb,rfl,hb,hz,rfl⟩:=i2.lst_inv;have hb':H2 b=aA (.lst zs):=hb;refine⟨p,b,xs,zs,rfl,rfl,s2 _ _ hp,hb',by rw[hm.len,hz.len];exact dH (lt_size (by omega)),?_⟩;have r2:=r.grow s2;have fr:∀q∈fb,∀j,q∉fps j:=λq hq j z=>r.dom j q z (n2 q (aT _ hq)).1;refine k _ _ _ (r2.relist hi em ef hv ((hm.mono s2).append hz) ?_ λq hq=>?_) QA
 ·have nd:=r.nd i hi;rw[ef] at nd;rw[<-i0];exact cW.mpr ⟨nd,(az.mp d2).2,λa ha b hb z=>fr b hb i (by rw[ef,<-z];exact ha)⟩
 ·rcases aq.mp hq with h | h
  ·exact .inl h
  ·exact .inr ⟨⟨Same.off r.same (n2 q (aT _ h)).1,(n2 q (aT _ h)).2⟩,fr q h⟩
theorem Iss.pureEq{H:Hp}{l:List PV}{xs:List V}{fp:List aM}(h:Iss K H l xs fp)(hp:ZC l=aD):Iss K H l xs []:=by have:=Iss.pure _ _ _ hp h;subst this;exact h
theorem Lz{l:List PV}(n:Nat)(h:ZC l=aD):ZC (l.take n)=aD:=by rw[WV,bC] at *;exact λx hx=>h x (dA hx)
theorem LA{l:List PV}(n:Nat)(h:ZC l=aD):ZC (l.drop n)=aD:=by rw[WV,bC] at *;exact λx hx=>h x (fH hx)
theorem Oj(h:PS X st (KP (A8 X.K "list" K8 (Sb i) (RE (tF X.K fk) (RE (tF X.K f) J6)))))(hi:i∈O:=by decide):VS X O [i] st (WQ i fk f):=PS.imp h λD Z H ⟨H0,fps,s,out,r,e,k⟩=>by obtain⟨kk,e0,e⟩:=Ze e;obtain⟨l,e1,e⟩:=Ze e;obtain⟨ki,ek,e⟩:=Ze e;obtain⟨m,em,e⟩:=Ze e;obtain⟨_,eg,e⟩:=Ze e;rw[UE ek] at e0;have em:=UD em;have hc:=V6 eg;simp only[ak,decide_eq_true_eq] at hc;obtain⟨⟨pm,pl⟩,k0,k1,hlen⟩:=hc;cases e;obtain⟨p,xs,fq,hv,hp,hm,ef⟩:=r.lst_at hi em;refine⟨.ref p,hv,tyL hp,λ_=>False,s,_,λ_ z=>z.elim,r.env,e0,λz H1 fz s1 i1 _=>⟨λ_=>False,s,l,λ_ z=>z.elim,r.env.mono s1,e1,λy H2 fe s2 i2 _=>?_⟩⟩;have s12:=s1.trans s2;obtain⟨rfl,_⟩:=i1.int_inv;have:=Is.pure _ _ _ pl i2;subst this;refine⟨p,xs,ki,y,rfl,rfl,s12 _ _ hp,k0,by omega,by rw[hm.len];exact lt_size (by omega),?_⟩;have hm':=(hm.mono s12).pureEq pm;obtain⟨f1,a1,_⟩:=hm'.take ki.toNat;obtain⟨f2,a2,_⟩:=hm'.drop ki.toNat;have a1:=a1.pureEq (Lz _ pm);have a2:=a2.pureEq (LA _ pm);exact k _ _ _ ((r.grow s12).relist hi em ef hv (a1.append (Iss.cons i2 a2)) (by simp) λq hq=>by simp at hq) QA
theorem UG(h:PS X st (M8 (tF X.K f) (Cs (Sb i) (tF X.K fk) Gf)))(hi:i∈O:=by decide):VS X O [i] st (Xu i fk f):=PS.imp h λD Z H ⟨H0,fps,s,out,r,e,k⟩=>by obtain⟨l,e0,e⟩:=Ze e;obtain⟨kk,e1,e⟩:=Ze e;obtain⟨ki,ek,e⟩:=Ze e;obtain⟨m,em,e⟩:=Ze e;obtain⟨_,eg,e⟩:=Ze e;rw[UE ek] at e1;have em:=UD em;have hc:=V6 eg;simp only[ak] at hc;obtain⟨pm,pl⟩:=hc;obtain⟨j,ej,rfl⟩:=map_some e;obtain⟨p,xs,fq,hv,hp,hm,ef⟩:=r.lst_at hi em;refine⟨λ_=>False,s,l,λ_ z=>z.elim,r.env,e0,λy H1 fy s1 i1 _=>?_⟩;refine⟨.ref p,hv,λ_=>False,s,_,λ_ z=>z.elim,r.env.mono s1,e1,λz H2 fz s2 i2 _=>?_⟩;have s12:=s1.trans s2;obtain⟨rfl,_⟩:=i2.int_inv;have:=Is.pure _ _ _ pl i1;subst this;refine⟨p,xs,ki,j,rfl,rfl,s12 _ _ hp,by rw[hm.len];exact ej,?_⟩;exact k _ _ _ ((r.grow s12).relist hi em ef hv (Iss.setP j pm pl ((hm.mono s12).pureEq pm) (i1.mono s2)) (by simp) λq hq=>by simp at hq) QA
end
theorem Iss.setRow{H:Hp}{o:List V}:∀{m:List PV}{xs:List V}{fq:List aM}{j:Nat}{n n':List PV}{q:aM},Iss K H m xs fq->m[j]?=aA (.lst n)->xs[j]?=aA (.ref q)->fq.Nodup->Vx (H q)->ZC n=aD->Iss K (L2.upd H q (.lst o)) n' o []->
  Iss K (L2.upd H q (.lst o)) (m.set j (.lst n')) xs fq
 | [],_,_,_,_,_,_,_,e,_,_,_,_,_=>by simp at e
 | a::m,xs,fq,0,n,n',q,h,e,ex,nd,mu,pn,h'=>by obtain⟨x,r,f1,f2,rfl,h1,h2,rfl⟩:=h.inv;simp at e ex;subst e ex;obtain⟨p',zs,fz,e,hp,hz,rfl⟩:=h1.lst_inv;cases e;have:=Iss.pure _ _ _ pn hz;subst this;have nq:q∉f2:=(az.mp nd).1;exact Iss.cons (Is.lst upd_same h') (Iss.tr (TK.upd' mu) _ _ _ (λz hz=>RdK.upd_ne λe=>nq (e▸hz)) h2)
 | a::m,xs,fq,j+1,n,n',q,h,e,ex,nd,mu,pn,h'=>by obtain⟨x,r,f1,f2,rfl,h1,h2,rfl⟩:=h.inv;simp at e ex;obtain⟨nd1,nd2,nd3⟩:=cW.mp nd;obtain⟨y,fy,hy,iy,suby⟩:=h2.get e;rw[ex] at hy;cases hy;obtain⟨p',zs,fz,e',_,_,rfl⟩:=iy.lst_inv;cases e';have nq:q∉f1:=λz=>nd3 q z q (suby q ag) rfl;exact Iss.cons (Is.tr (TK.upd' mu) _ _ _ (λz hz=>RdK.upd_ne λe=>nq (e▸hz)) h1) (Iss.setRow h2 e ex nd2 mu pn h')
def Vl(i:Nat)(fa fb:XE)(f:XE):XS:=λs=>(f s).bind λl=>(fa s).bind λa=>(fb s).bind λb=>(Ir a).bind λa=>(Ir b).bind λb=>(Iq s i).bind λm=>(M4 m.length a).bind λj=>(m[j]?).bind λr=>(AD r).bind λn=>
 (gd (ZC n&&ZY l)).bind λ_=>(M4 n.length b).map λc=>.nx (s.set i (aA (.lst (m.set j (.lst (n.set c l))))))
theorem Ol{X:Cx}{O:List Nat}{i:Nat}{st:cO}{f fa fb:XE}(h:PS X st (M8 (tF X.K f) (Cs (Cw (Eo X.K) (Sb i) (tF X.K fa)) (tF X.K fb) Gf)))(hi:i∈O:=by decide):VS X O [i] st (Vl i fa fb f):=PS.imp h λD Z H ⟨H0,fps,s,out,r,e,k⟩=>by
 obtain⟨l,e0,e⟩:=Ze e;obtain⟨a,e1,e⟩:=Ze e;obtain⟨b,e2,e⟩:=Ze e;obtain⟨ai,ea,e⟩:=Ze e;obtain⟨bi,eb,e⟩:=Ze e;obtain⟨m,em,e⟩:=Ze e;obtain⟨j,ej,e⟩:=Ze e;obtain⟨Rz,en,e⟩:=Ze e;obtain⟨n,er,e⟩:=Ze e;obtain⟨_,eg,e⟩:=Ze e;rw[UE ea] at e1;rw[UE eb] at e2;rw[N1 er] at en;have em:=UD em;have hc:=V6 eg;simp only[ak] at hc;obtain⟨pn,pl⟩:=hc;obtain⟨c,ec,rfl⟩:=map_some e;obtain⟨p,xs,fq,hv,hp,hm,ef⟩:=r.lst_at hi em;refine⟨λ_=>False,s,l,λ_ z=>z.elim,r.env,e0,λy H1 fy s1 i1 _=>?_⟩;refine⟨.ref p,hv,λ_=>False,s,_,λ_ z=>z.elim,r.env.mono s1,e1,λz H2 fz s2 i2 _=>?_⟩;obtain⟨rfl,_⟩:=i2.int_inv;have s12:=s1.trans s2;obtain⟨q,f1,hq,iq,subq⟩:=(hm.mono s12).get en;obtain⟨qa,zs,fz',rfl,hqa,hz,rfl⟩:=id iq.lst_inv;refine⟨p,xs,ai,.ref qa,rfl,rfl,SqL.of (s12 _ _ hp),?_,λ_=>False,s,_,λ_ z=>z.elim,r.env.mono s12,e2,λw H3 fw s3 i3 _=>?_⟩
 ·unfold Ts;rw[hm.len,ej];exact hq
 obtain⟨rfl,_⟩:=i3.int_inv;have s123:=s12.trans s3;have r3:=r.grow s123;have hqf:qa∈fps i:=by rw[ef];exact aT _ (subq qa ag)
 have mu:=(r3.own i hi qa hqf).2;have hqa3:H3 qa=aA (.lst zs):=s3 _ _ hqa;have:=Is.pure _ _ _ pl i1;subst this;refine⟨qa,zs,bi,c,rfl,rfl,hqa3,by rw[hz.len];exact ec,?_⟩;have nd:=r.nd i hi;rw[ef] at nd;have hqp:qa≠p:=λz=>(az.mp nd).1 (z▸subq qa ag);have newrow:Iss X.K (L2.upd H3 qa (.lst (zs.set c y))) (n.set c l) (zs.set c y) []:=Iss.tr (TK.upd' mu) _ _ _ (λq hq=>by simp at hq) (Iss.setP c pn pl ((hz.mono s3).pureEq pn) (i1.mono (s2.trans s3)));have rows:=Iss.setRow (hm.mono s123) en hq (az.mp nd).2 mu pn newrow;refine k _ _ _ (r3.mutate (o:=.lst (zs.set c y)) (l':=.lst (m.set j (.lst (n.set c l)))) (fp':=p::fq) hi hqf hv (U4 em) (Is.lst (by rw[L2.upd_ne (cY hqp)];exact s123 _ _ hp) rows) nd (λq hq=>?_) (λj hj q hq z=>r.dis i hi j hj q (by rw[ef];exact hq) z) cE) QA;refine⟨(r.own i hi q (by rw[ef];exact hq)).1,?_⟩;by_cases e:q=qa
 ·subst e;rw[upd_same];exact cE
 ·rw[L2.upd_ne e];exact(r3.own i hi q (by rw[ef];exact hq)).2
end VL
namespace VL
open PySem PySem.Spec PyProof.Rows L2
variable {K:aI}
def QB:PV->Option YM
 | .int i=>aA (.inl i)
 | .str x=>aA (.inr x)
 | _=>aB
def N2:List PV->Option (List YM)
 | []=>aA []
 | a::r=>(QB a).bind λk=>(N2 r).map (k::·)
def QC:PV->Option (List YM)
 | .tup l=>N2 l
 | _=>aB
def kP:YM->PV
 | .inl i=>.int i
 | .inr x=>.str x
theorem O1{H:Hp}{a:PV}{k:YM}{v:V}{fp:List aM}(e:QB a=aA k)(h:Is K H a v fp):v=kV k/\fp=[]:=by
 cases a with
 | int i=>cases e;exact h.int_inv
 | str x=>cases e;exact h.str_inv
 | _=>cases e
theorem N3{H:Hp}:∀{l:List PV}{ks:List YM}{xs:List V}{fp:List aM},N2 l=aA ks->Iss K H l xs fp->xs=ks.map kV/\fp=[]
 | [],ks,xs,fp,e,h=>by cases e;simpa only[da,Iss] using h
 | a::r,ks,xs,fp,e,h=>by obtain⟨k,e1,e⟩:=Ze (show(QB a).bind (λk=>(N2 r).map (k::·))=aA ks from e);obtain⟨kr,e2,rfl⟩:=map_some e;obtain⟨x,rr,f1,f2,rfl,h1,h2,rfl⟩:=h.inv;obtain⟨rfl,rfl⟩:=O1 e1 h1;obtain⟨rfl,rfl⟩:=N3 e2 h2;exact⟨rfl,rfl⟩
theorem Jj{H:Hp}{a:PV}{k:List YM}{v:V}{fp:List aM}(e:QC a=aA k)(h:Is K H a v fp):∃b,v = .ref b/\H b=aA (.tup (k.map kV)):=by
 cases a with
 | tup l=>
  obtain⟨p,xs,rfl,hp,hi⟩:=h.tup_inv;obtain⟨rfl,_⟩:=N3 (show N2 l=aA k from e) hi;exact⟨p,rfl,hp⟩
 | _=>cases e
theorem AE{H:Hp}(k:YM):Is K H (kP k) (kV k) []:=by
 cases k with
 | inl i=>exact Is.int i
 | inr x=>exact Is.str x
theorem GF{H:Hp}:∀(ks:List YM),Iss K H (ks.map kP) (ks.map kV) []
 | []=>Iss.nil
 | k::r=>Iss.cons (f1:=[]) (AE k) (GF r)
section
variable {κ:Type} [DecidableEq κ]
def Vf(ks:List κ)(vs:List PV)(k:κ):Option PV:=((ks.zip vs).find? λz=>decide (z.1=k)).map (·.2)
def UH(ks:List κ)(k:κ):List κ:=if k∈ks then ks else ks++[k]
def UI(ks:List κ)(vs:List PV)(k:κ)(v:PV):List PV:=if k∈ks then(ks.zip vs).map λz=>if z.1=k then v else z.2 else vs++[v]
theorem QD{H:Hp}:∀{oy:List (κ×V)}{l:List PV}{fq:List aM}(k:κ),Iss K H l (oy.map (·.2)) fq->
  (Vf (oy.map (·.1)) l k=aB/\Uw oy k=aB)\/∃a x f,Vf (oy.map (·.1)) l k=aA a/\Uw oy k=aA x/\Is K H a x f/\∀p∈f,p∈fq
 | [],l,fq,k,h=>.inl ⟨by unfold Vf;simp,rfl⟩
 | kv::r,[],fq,k,h=>by have:=h.len;simp at this
 | kv::r,a::l,fq,k,h=>by
  obtain⟨x,rr,f1,f2,e,h1,h2,rfl⟩:=h.inv;cases e;by_cases hk:kv.1=k
  ·refine .inr ⟨a,kv.2,f1,?_,Sd hk,h1,λp hp=>av _ hp⟩;unfold Vf;rw[aZ,dt,cf];simp[hk]
  ·have e1:Vf ((kv::r).map (·.1)) (a::l) k=Vf (r.map (·.1)) l k:=by unfold Vf;rw[aZ,dt,cf];simp[hk]
   rw[e1,Se hk];rcases QD (l:=l) k h2 with z | ⟨b,y,f,z1,z2,z3,z4⟩
   ·exact .inl z
   ·exact .inr ⟨b,y,f,z1,z2,z3,λp hp=>au _ (z4 p hp)⟩
theorem any_mem{oy:List (κ×V)}{k:κ}:(oy.any λkv=>decide (kv.1=k))=aD↔k∈oy.map (·.1):=by
 rw[gh,aa];constructor
 ·rintro⟨x,hx,e⟩;exact⟨x,hx,of_decide_eq_true e⟩
 ·rintro⟨x,hx,e⟩;exact⟨x,hx,decide_eq_true e⟩
theorem Jk{oy:List (κ×V)}{k:κ}{x:V}:(Vy oy k x).map (·.1)=UH (oy.map (·.1)) k:=by
 unfold Vy UH;by_cases h:k∈oy.map (·.1)
 ·rw[pC (any_mem.mpr h),pC h,bQ];apply bO;intro z _;show(if z.1=k then(z.1,x) else z).1=z.1;split<;>rfl
 ·rw[pE (λz=>h (any_mem.mp z)),pE h,bV];rfl
theorem Jl{H:Hp}{oy:List (κ×V)}{l:List PV}{k:κ}{a:PV}{x:V}(h:Iss K H l (oy.map (·.2)) [])(hp:ZC l=aD)(ha:Is K H a x [])(pa:ZY a=aD):Iss K H (UI (oy.map (·.1)) l k a) ((Vy oy k x).map (·.2)) []:=by
 unfold Vy UI;by_cases hk:k∈oy.map (·.1)
 ·rw[pC (any_mem.mpr hk),pC hk];clear hk
  induction oy generalizing l with
  | nil=>
   have:=h.len
   cases l with
   | nil=>exact Iss.nil
   | cons _ _=>simp at this
  | cons kv r ih=>
   cases l with
   | nil=>have:=h.len;simp at this
   | cons b l=>
    obtain⟨y,rr,f1,f2,e,h1,h2,e2⟩:=h.inv;cases e;simp only[ZC,ak] at hp;have z1:=Is.pure _ _ _ hp.1 h1;have z2:=Iss.pure _ _ _ hp.2 h2;subst z1 z2;have ih:=ih h2 hp.2;rw[aZ,dt,aZ,aZ,aZ];by_cases e:kv.1=k
    ·rw[pC e,pC e];exact Iss.cons (f1:=[]) ha ih
    ·rw[pE e,pE e];exact Iss.cons (f1:=[]) h1 ih
 ·rw[pE (λz=>hk (any_mem.mp z)),pE hk,bV];exact h.append (Iss.one ha)
end
def W8:PV->PV->Option PV
 | .dK ks vs,k=>(QB k).bind λk=>Vf ks vs k
 | .dT ks vs,k=>(QC k).bind λk=>Vf ks vs k
 | _,_=>aB
def dIn:PV->PV->Option Bool
 | .dK ks vs,k=>(QB k).map λk=>(Vf ks vs k).isSome
 | .dT ks vs,k=>(QC k).map λk=>(Vf ks vs k).isSome
 | _,_=>aB
theorem Jm{H:Hp}{d k:PV}{x y:V}{fd fk:List aM}(hd:Is K H d x fd)(hk:Is K H k y fk){b:Bool}(e:dIn d k=aA b):∃a o,x = .ref a/\J9 H a y o/\o.isSome=b/\((W8 d k=aB/\o=aB)\/∃c v f,W8 d k=aA c/\o=aA v/\Is K H c v f/\∀p∈f,p∈fd):=by
 cases d with
 | dK ks vs=>
  obtain⟨kk,e1,rfl⟩:=map_some (show(QB k).map (λk=>(Vf ks vs k).isSome)=aA b from e);obtain⟨p,oy,fq,rfl,hp,rfl,hi,rfl⟩:=hd.dK_inv;obtain⟨rfl,_⟩:=O1 e1 hk;refine⟨p,Uw oy kk,rfl,.inl ⟨oy,kk,hp,rfl,rfl⟩,?_,?_⟩
  ·rcases QD kk hi with⟨z1,z2⟩ | ⟨a,v,f,z1,z2,_⟩<;>rw[z1,z2]<;>rfl
  ·show(W8 (.dK _ vs) k=aB/\_)\/_;have eg:W8 (.dK (oy.map (·.1)) vs) k=Vf (oy.map (·.1)) vs kk:=by show(QB k).bind _=_;rw[e1];rfl
   rw[eg];rcases QD kk hi with z | ⟨a,v,f,z1,z2,z3,z4⟩
   ·exact .inl z
   ·exact .inr ⟨a,v,f,z1,z2,z3,λq hq=>aT _ (z4 q hq)⟩
 | dT ks vs=>
  obtain⟨kk,e1,rfl⟩:=map_some (show(QC k).map (λk=>(Vf ks vs k).isSome)=aA b from e);obtain⟨p,oy,fq,rfl,hp,rfl,hi,rfl⟩:=hd.dT_inv;obtain⟨b,rfl,hb⟩:=Jj e1 hk;refine⟨p,Uw oy kk,rfl,.inr ⟨oy,kk,b,hp,rfl,hb,rfl⟩,?_,?_⟩
  ·rcases QD kk hi with⟨z1,z2⟩ | ⟨a,v,f,z1,z2,_⟩<;>rw[z1,z2]<;>rfl
  ·have eg:W8 (.dT (oy.map (·.1)) vs) k=Vf (oy.map (·.1)) vs kk:=by show(QC k).bind _=_;rw[e1];rfl
   rw[eg];rcases QD kk hi with z | ⟨a,v,f,z1,z2,z3,z4⟩
   ·exact .inl z
   ·exact .inr ⟨a,v,f,z1,z2,z3,λq hq=>aT _ (z4 q hq)⟩
 | _=>cases e
theorem ET{d k c:PV}(h:W8 d k=aA c):dIn d k=aA aD:=by
 cases d with
 | dK ks vs=>
  obtain⟨kk,e1,e2⟩:=Ze (show(QB k).bind (λk=>Vf ks vs k)=aA c from h);show(QB k).map _=_;rw[e1];show aA ((Vf ks vs kk).isSome)=_;rw[e2];rfl
 | dT ks vs=>
  obtain⟨kk,e1,e2⟩:=Ze (show(QC k).bind (λk=>Vf ks vs k)=aA c from h);show(QC k).map _=_;rw[e1];show aA ((Vf ks vs kk).isSome)=_;rw[e2];rfl
 | _=>cases h
section
variable {X:Cx} {o i e f:bK} {fd fk fx:XE} {pos apos p6:fN}
theorem GG:∀Z H Q,tF K (Zf W8 fd fk) Z H Q->DW (tF K fd) (tF K fk) Z H Q:=λZ H Q ⟨Rm,s,l,hd,env,e,k⟩=>by
 obtain⟨d,kk,e1,e2,e3⟩:=Vz e;refine⟨Rm,s,d,hd,env,e1,λx H1 f1 s1 i1 n1=>⟨Rm,s,kk,λp hp=>Same.mut s1 (hd p hp),env.mono s1,e2,λy H2 f2 s2 i2 n2=>?_⟩⟩;obtain⟨a,ov,rfl,dg,_,alt⟩:=Jm (i1.mono s2) i2 (ET e3);rcases alt with⟨z,_⟩ | ⟨c,v,fv,z1,rfl,z3,z4⟩
 ·rw[z] at e3;cases e3
 ·rw[z1] at e3;cases e3;exact⟨a,v,rfl,dg,k v H2 fv (s1.trans s2) z3 λp hp=>n1 p (z4 p hp)⟩
theorem O2(hu:X.A.units+1<fE)(ho:VE X o fd)(hi:VE X i fk)(hs:CU i:=by exact λ_ _=>rfl):VE X (.Subscript o i pos) (Zf W8 fd fk):=PE.imp (Eu hu ho hi hs) GG
def LB(neg:Bool)(fk fd:XE):XE:=λs=>(fk s).bind λk=>(fd s).bind λd=>(dIn d k).map λb=>.bl (if neg then !b else b)
theorem LC:∀Z H Q,tF K (LB aD fk fd) Z H Q->K6 (tF K fk) (tF K fd) Z H Q:=λZ H Q ⟨Rm,s,l,hd,env,e,k⟩=>by obtain⟨kk,e1,e⟩:=Ze e;obtain⟨d,e2,e⟩:=Ze e;obtain⟨b,e3,rfl⟩:=map_some e;refine⟨Rm,s,kk,hd,env,e1,λy H1 f1 s1 i1 n1=>⟨Rm,s,d,λp hp=>Same.mut s1 (hd p hp),env.mono s1,e2,λx H2 f2 s2 i2 n2=>?_⟩⟩;obtain⟨a,ov,rfl,dg,rfl,_⟩:=Jm i2 (i1.mono s2) e3;exact⟨a,ov,rfl,dg,k _ H2 [] (s1.trans s2) (Is.bl _) λp hp=>by simp at hp⟩
theorem Iv(hu:X.A.units+1<fE)(hi:VE X i fk)(ho:VE X o fd)(hm:cg .NotIn o=aC:=by with_unfolding_all rfl):VT X (.Compare i [.NotIn] [o] pos) (xB (LB aD fk fd)):=PT.imp (HW (Ic hu hi ho) hm) λZ H Q h=>Jb LC Z H Q (DZ Z H Q h)
end
def EU(d k v:PV):Option PV:=match d with
 | .dT ks vs=>(gd (ZC vs&&ZY v&&decide (ks.length<=10000))).bind λ_=>(QC k).map λk=>.dT (UH ks k) (UI ks vs k v)
 | .dK ks vs=>(gd (ZC vs&&ZY v&&decide (ks.length<=10000))).bind λ_=>(QB k).map λk=>.dK (UH ks k) (UI ks vs k v)
 | _=>aB
def sDPut(i:Nat)(fk fv:XE):XS:=λs=>(fv s).bind λv=>(fk s).bind λk=>((s[i]?).join).bind λd=>(EU d k v).map λd=>.nx (s.set i (aA d))
theorem R4{X:Cx}{O:List Nat}{i:Nat}{st:cO}{fk fv:XE}(h:PS X st (L2.sDPut (Sb i) (tF X.K fk) (tF X.K fv)))(hi:i∈O:=by decide):VS X O [i] st (sDPut i fk fv):=PS.imp h λD Z H ⟨H0,fps,s,out,r,e,k⟩=>by
 obtain⟨v,e1,e⟩:=Ze e;obtain⟨kk,e2,e⟩:=Ze e;obtain⟨d,em,e⟩:=Ze e;obtain⟨d',ed,rfl⟩:=map_some e;have em:=join_some em
 cases d with
 | dT ks vs=>
  obtain⟨_,eg,ed⟩:=Ze (show(gd (ZC vs&&ZY v&&decide (ks.length<=10000))).bind (λ_=>(QC kk).map λk=>PV.dT (UH ks k) (UI ks vs k v))=aA d' from ed);have hc:=V6 eg;simp only[ak,decide_eq_true_eq] at hc;obtain⟨⟨pm,pl⟩,hlen⟩:=hc;obtain⟨kt,e3,rfl⟩:=map_some ed;obtain⟨p,oy,fq,hv,hp,rfl,hm,ef⟩:=r.dT_at hi em;refine⟨λ_=>False,s,v,λ_ z=>z.elim,r.env,e1,λy H1 fy s1 i1 _=>⟨.ref p,hv,λ_=>False,s,kk,λ_ z=>z.elim,r.env.mono s1,e2,λz H2 fz s2 i2 _=>?_⟩⟩;have s12:=s1.trans s2;obtain⟨b,rfl,hb⟩:=Jj e3 i2;have z1:=Is.pure _ _ _ pl i1;subst z1;have hm':=(hm.mono s12).pureEq pm;have z2:=Iss.pure _ _ _ pm hm;subst z2;have r2:=r.grow s12;have hpf:p∈fps i:=by rw[ef];exact ag
  have mu:=(r2.own i hi p hpf).2;refine⟨p,_,rfl,.inr ⟨oy,kt,b,s12 _ _ hp,rfl,hb,by rw[<-aH (·.1)];exact lt_size hlen,rfl⟩,?_⟩;refine k _ _ _ (r2.mutate (o:=.dT (Vy oy kt y)) (l':=.dT (UH (oy.map (·.1)) kt) (UI (oy.map (·.1)) vs kt v)) (fp':=[p]) hi hpf hv (U4 em) (Is.dT upd_same Jk (Iss.tr (TK.upd' mu) _ _ _ (λq hq=>by simp at hq) (Jl hm' pm (i1.mono s2) pl))) (by simp) (λq hq=>?_) (λj hj q hq z=>r.dis i hi j hj q (by rw[ef];exact hq) z) cE) QA;rw[aQ.mp hq];exact⟨(r.own i hi p hpf).1,by rw[upd_same];exact cE⟩
 | dK ks vs=>
  obtain⟨_,eg,ed⟩:=Ze (show(gd (ZC vs&&ZY v&&decide (ks.length<=10000))).bind (λ_=>(QB kk).map λk=>PV.dK (UH ks k) (UI ks vs k v))=aA d' from ed);have hc:=V6 eg;simp only[ak,decide_eq_true_eq] at hc;obtain⟨⟨pm,pl⟩,hlen⟩:=hc;obtain⟨kt,e3,rfl⟩:=map_some ed;obtain⟨p,oy,fq,hv,hp,rfl,hm,ef⟩:=r.dK_at hi em;refine⟨λ_=>False,s,v,λ_ z=>z.elim,r.env,e1,λy H1 fy s1 i1 _=>⟨.ref p,hv,λ_=>False,s,kk,λ_ z=>z.elim,r.env.mono s1,e2,λz H2 fz s2 i2 _=>?_⟩⟩;have s12:=s1.trans s2;obtain⟨rfl,_⟩:=O1 e3 i2;have z1:=Is.pure _ _ _ pl i1;subst z1;have hm':=(hm.mono s12).pureEq pm;have z2:=Iss.pure _ _ _ pm hm;subst z2;have r2:=r.grow s12;have hpf:p∈fps i:=by rw[ef];exact ag
  have mu:=(r2.own i hi p hpf).2;refine⟨p,_,rfl,.inl ⟨oy,kt,s12 _ _ hp,rfl,by rw[<-aH (·.1)];exact lt_size hlen,rfl⟩,?_⟩;refine k _ _ _ (r2.mutate (o:=.dK (Vy oy kt y)) (l':=.dK (UH (oy.map (·.1)) kt) (UI (oy.map (·.1)) vs kt v)) (fp':=[p]) hi hpf hv (U4 em) (Is.dK upd_same Jk (Iss.tr (TK.upd' mu) _ _ _ (λq hq=>by simp at hq) (Jl hm' pm (i1.mono s2) pl))) (by simp) (λq hq=>?_) (λj hj q hq z=>r.dis i hi j hj q (by rw[ef];exact hq) z) cE) QA;rw[aQ.mp hq];exact⟨(r.own i hi p hpf).1,by rw[upd_same];exact cE⟩
 | _=>cases ed
end VL
namespace VL
open PySem PySem.Spec PyProof.Rows L2
variable {K:aI}
section
variable {X:Cx} {a b c d:bK} {fa fb fc fd:XE} {pos:fN}
theorem Tx(hu:X.A.units+64<fE)(ha:VE X a fa)(hb:VE X b fb):VE X (.Compare a [.Eq] [b] pos) (Zf (YN aC) fa fb):=Ln (GA hu) (Lu aC) ha hb (SR _)
theorem Jn(hu:X.A.units+64<fE)(ha:VE X a fa)(hb:VE X b fb):VT X (.Compare a [.Eq] [b] pos) (xB (Zf (YN aC) fa fb)):=S5 (GA hu) (Lu aC) ha hb (SR _)
theorem RJ(hu:X.A.units+64<fE)(ha:VE X a fa)(hb:VE X b fb):VT X (.Compare a [.NotEq] [b] pos) (xB (Zf (YN aD) fa fb)):=S5 (C7 hu) (Lu aD) ha hb (SR _)
theorem Om(hu:X.A.units+64<fE)(ha:VE X a fa)(hb:VE X b fb)(hm:cg .In b=aC:=by with_unfolding_all rfl):VE X (.Compare a [.In] [b] pos) (Zf (YC aC) fa fb):=Ln (GB hu) (Lv aC) ha hb hm
theorem N4(hu:X.A.units+64<fE)(ha:VE X a fa)(hb:VE X b fb)(hm:cg .In b=aC:=by with_unfolding_all rfl):VT X (.Compare a [.In] [b] pos) (xB (Zf (YC aC) fa fb)):=S5 (GB hu) (Lv aC) ha hb hm
theorem VD(hu:X.A.units+64<fE)(ha:VE X a fa)(hb:VE X b fb)(hm:cg .NotIn b=aC:=by with_unfolding_all rfl):VT X (.Compare a [.NotIn] [b] pos) (xB (Zf (YC aD) fa fb)):=S5 (Il hu) (Lv aD) ha hb hm
def Jo:PV->Option Bool
 | .bl c=>aA c
 | _=>aB
theorem GH{a:PV}{k:Bool}(h:Jo a=aA k):a = .bl k:=by
 unfold Jo at h;split at h
 ·cases h;rfl
 ·cases h
def HN(g h:PV->PV->Option PV)(a b c:XE):XE:=λs=>(a s).bind λx=>(b s).bind λy=>((g x y).bind Jo).bind λk=>if k=aD then(c s).bind λz=>h y z else aA (.bl aC)
theorem N5{r r':R2}{g h:PV->PV->Option PV}(hr:RB K r g)(hr':RB K r' h):∀Z H Q,tF K (HN g h fa fb fc) Z H Q->Lc r r' (tF K fa) (tF K fb) (tF K fc) Z H Q:=λZ H Q ⟨Rm,s,l,hd,env,e,k⟩=>by
 obtain⟨x',e1,e⟩:=Ze e;obtain⟨y',e2,e⟩:=Ze e;obtain⟨b,e3,e⟩:=Ze e;obtain⟨z',e3,eb⟩:=Ze e3;rw[GH eb] at e3;refine⟨Rm,s,x',hd,env,e1,λx H1 f1 s1 i1 n1=>⟨Rm,s,y',λp hp=>Same.mut s1 (hd p hp),env.mono s1,e2,λy H2 f2 s2 i2 n2=>?_⟩⟩;refine hr H2 x y x' y' _ f1 f2 (i1.mono s2) i2 e3 _ λv H3 fp s3 i3 n3=>⟨b,i3.bl_inv.1,?_⟩;have s123:=s1.trans (s2.trans s3)
 cases b with
 | false=>
  rw[pE aw] at e ⊢;cases e;exact k _ H3 [] s123 (Is.bl _) λp hp=>by simp at hp
 | true=>
  rw[pC rfl] at e ⊢;obtain⟨w',e4,e⟩:=Ze e;refine⟨Rm,s,w',λp hp=>Same.mut s123 (hd p hp),env.mono s123,e4,λw H4 f4 s4 i4 n4=>?_⟩;refine hr' H4 y w y' w' l f2 f4 (i2.mono (s3.trans s4)) i4 e Q λv H5 fp5 s5 i5 n5=>k v H5 fp5 (s123.trans (s4.trans s5)) i5 λp hp z=>?_;rcases n5 p hp with q | q | q
  ·exact n2 p q z
  ·exact n4 p q z
  ·exact Xy (Same.mut (s123.trans s4) (hd p z)) q
theorem GI{op op':kq}{r r':R2}{g h:PV->PV->Option PV}(ho:Us X (cy op) r)(ho':Us X (cy op') r')(hr:RB X.K r g)(hr':RB X.K r' h)(ha:VE X a fa)(hb:VE X b fb)(hc:VE X c fc)
  (hm:nG [op,op'] [b,c]=aC:=by with_unfolding_all rfl):VE X (.Compare a [op,op'] [b,c] pos) (HN g h fa fb fc):=PE.imp (Ga ho ho' ha hb hc hm) (N5 hr hr')
theorem GJ{op op':kq}{r r':R2}{g h:PV->PV->Option PV}(ho:Us X (cy op) r)(ho':Us X (cy op') r')(hr:RB X.K r g)(hr':RB X.K r' h)(ha:VE X a fa)(hb:VE X b fb)(hc:VE X c fc)
  (hm:nG [op,op'] [b,c]=aC:=by with_unfolding_all rfl):VT X (.Compare a [op,op'] [b,c] pos) (xB (HN g h fa fb fc)):=PT.imp (Gb ho ho' ha hb hc hm) λZ H Q q=>Qn (N5 hr hr') Z H Q (NV Z H Q q)
end
section
variable {X:Cx} {a b:bK} {fa fb:XE} {pos:fN}
def gCat:PV->PV->Option PV
 | .lst m,.lst n=>if m.length+n.length<=10000 then aA (.lst (m++n)) else aB
 | _,_=>aB
def Vm:PV->PV->Option PV
 | .lst m,.lst n=>if m.length+n.length<=10000/\ZC m=aD/\ZC n=aD then aA (.lst (m++n)) else aB
 | _,_=>aB
theorem R5(ha:VE X a fa)(hb:VE X b fb):VM X (.BinOp a .Add b pos) (Zf Vm fa fb):=PE.imp (HZ CQ ha hb) λZ H Q ⟨s,l,env,e,k⟩=>by
 obtain⟨x',y',e1,e2,e⟩:=Vz e;refine⟨λ_=>False,s,x',λ_ z=>z.elim,env,e1,λx H1 f1 s1 i1 _=>⟨λ_=>False,s,y',λ_ z=>z.elim,env.mono s1,e2,λy H2 f2 s2 i2 _=>?_⟩⟩
 cases x' with
 | lst m=>cases y' with
  | lst n=>
   have e:(if m.length+n.length<=10000/\ZC m=aD/\ZC n=aD then aA (PV.lst (m++n)) else aB)=aA l:=e;split at e
   case isFalse=>cases e
   rename_i hl;cases e;obtain⟨p,xs,fq,rfl,hp,hi,rfl⟩:=i1.lst_inv;obtain⟨p',ys,fq',rfl,hp',hi',rfl⟩:=i2.lst_inv;refine⟨p,p',xs,ys,rfl,rfl,s2 _ _ hp,hp',by rw[hi.len,hi'.len];exact dH (lt_size hl.1),λq hq=>?_⟩;refine k _ _ [q] (s1.trans (s2.trans (Same.new hq _))) (Is.lst upd_same ((((hi.mono s2).pureEq hl.2.1).append (hi'.pureEq hl.2.2)).mono (Same.new hq _))) (by simp) λr hr=>?_;rw[aQ.mp hr];exact⟨Same.off (s1.trans s2) hq,by rw[upd_same];exact cE⟩
  | _=>cases e
 | _=>cases e
def W9:PV->PV->Option PV
 | .lst m,.int k=>if ZC m=aD/\-1000000<=k/\k<=1000000/\m.length*k.toNat<=10000 then aA (.lst (aK k.toNat m).flatten) else aB
 | _,_=>aB
theorem Iss.rep{H:Hp}{m:List PV}{xs:List V}(h:Iss K H m xs []):∀k:Nat,Iss K H (aK k m).flatten (aK k xs).flatten []
 | 0=>Iss.nil
 | k+1=>by rw[cQ,cQ,de,de];exact h.append (Iss.rep h k)
theorem O3(ha:VE X a fa)(hb:VE X b fb):VM X (.BinOp a .Mult b pos) (Zf W9 fa fb):=PE.imp (HZ CS ha hb) λZ H Q ⟨s,l,env,e,k⟩=>by
 obtain⟨x',y',e1,e2,e⟩:=Vz e;refine⟨λ_=>False,s,x',λ_ z=>z.elim,env,e1,λx H1 f1 s1 i1 _=>⟨λ_=>False,s,y',λ_ z=>z.elim,env.mono s1,e2,λy H2 f2 s2 i2 _=>?_⟩⟩
 cases x' with
 | lst m=>cases y' with
  | int n=>
   have e:(if ZC m=aD/\-1000000<=n/\n<=1000000/\m.length*n.toNat<=10000 then aA (PV.lst (aK n.toNat m).flatten) else aB)=aA l:=e;split at e
   case isFalse=>cases e
   rename_i hl;cases e;obtain⟨p,xs,fq,rfl,hp,hi,rfl⟩:=i1.lst_inv;refine⟨p,n,xs,rfl,i2.int_inv.1,s2 _ _ hp,by omega,by omega,by rw[hi.len];exact dH (lt_size hl.2.2.2),λq hq=>?_⟩;refine k _ _ [q] (s1.trans (s2.trans (Same.new hq _))) (Is.lst upd_same ((Iss.rep ((hi.mono s2).pureEq hl.1) n.toNat).mono (Same.new hq _))) (by simp) λr hr=>?_;rw[aQ.mp hr];exact⟨Same.off (s1.trans s2) hq,by rw[upd_same];exact cE⟩
  | _=>cases e
 | _=>cases e
end
theorem Iss.fps{H:Hp}:∀{ls:List PV}{vs:List V}{fp:List aM},Iss K H ls vs fp->∃fps:Nat->List aM,(∀(i:Nat) l,ls[i]?=aA l->∃v,vs[i]?=aA v/\Is K H l v (fps i))/\∀i,ls.length<=i->fps i=[]
 | [],vs,fp,h=>⟨λ_=>[],λi l e=>by simp at e,λ_ _=>rfl⟩
 | a::ls,vs,fp,h=>by
  obtain⟨x,r,f1,f2,rfl,h1,h2,rfl⟩:=h.inv;obtain⟨fps,p1,p2⟩:=h2.fps;refine⟨λi=>match i with | 0=>f1 | k+1=>fps k,λi l e=>?_,λi hi=>?_⟩
  ·cases i with
   | zero=>simp at e;subst e;exact⟨x,rfl,h1⟩
   | succ k=>
    obtain⟨v,a,b⟩:=p1 k l (by simpa using e);exact⟨v,by simpa using a,b⟩
  ·cases i with
   | zero=>simp at hi
   | succ k=>exact p2 k (by simpa using hi)
def Y9(m:Nat)(ls:List PV):ZJ:=ls.map aA++aK (m-ls.length) aB
def Xa:Out->Option PV
 | .rt v=>aA v
 | .nx _=>aA .non
 | _=>aB
def Xi(m:Nat)(f:XS):List PV->Option PV:=λls=>(f (Y9 m ls)).bind Xa
theorem O4{N:List ah}{n:Nat}{O W:List Nat}{f:XS}{vs:List V}{H:Hp}{Q:VK}{E:XK}(hO:∀i∈O,n<=i)(h:YY K (Xi N.length f) n vs H Q E):F5 K O W f { nx:=λ_ H'=>Q .non H',rt:=Q } (L2.start N vs) H:=by
 obtain⟨hl,ls,fp,l,hi,e,q⟩:=h;obtain⟨out,e1,e2⟩:=Ze e;obtain⟨fps,p1,p2⟩:=hi.fps;have hlen:=hi.len
 have hout:∀i:Nat,ls.length<=i->∀l,(Y9 N.length ls)[i]?≠aA (aA l):=λi hi l z=>by
  unfold Y9 at z;rw[bX (by simpa using hi),cI] at z;split at z<;>cases z
 have rel:Rel K O H fps (Y9 N.length ls) (L2.start N vs) H:=by
  refine⟨Same.refl H,?_,λi a z=>?_,λi hne=>?_,λi hi=>?_,λi hi p hp=>?_,λi hi j hj p hp=>?_⟩
  ·unfold Y9 L2.start;simp[hlen]
  ·by_cases hil:i<ls.length
   ·unfold Y9 at z;rw[bP (by simpa using hil),aU] at z
    cases q:ls[i]? with
    | none=>rw[q] at z;cases z
    | some b=>
     rw[q] at z;cases z;obtain⟨v,a1,b1⟩:=p1 i a q;refine⟨v,?_,b1⟩;unfold L2.start;rw[bP (by simpa [hlen] using hil),aU,a1];rfl
   ·exact absurd z (hout i (by omega) a)
  ·by_cases hil:i<ls.length
   ·exact absurd (by unfold Y9;rw[bP (by simpa using hil),aU,aG hil];rfl) (hne ls[i])
   ·exact p2 i (by omega)
  ·rw[p2 i (by have:=hO i hi;omega)];exact cM
  ·rw[p2 i (by have:=hO i hi;omega)] at hp;simp at hp
  ·rw[p2 i (by have:=hO i hi;omega)] at hp;simp at hp
 refine⟨H,fps,Y9 N.length ls,out,rel,e1,?_⟩
 cases out with
 | nx s'=>
  cases e2;exact λp7 Z' H' r' _=>q .non H' [] r'.same Is.non cM λp hp=>by simp at hp
 | rt v=>
  cases e2;exact λv fp H' sm i d n=>q v H' fp sm i d n
 | bk s'=>cases e2
 | ct s'=>cases e2
section
variable {P:bE} {w:bg} {mg:ah->Option aJ} {base:bw}
theorem Z6{x:ah}{st:cO}{N ps:List ah}{k n:Nat}{O W:List Nat}(m:Nat)(f:XS)(D:Def K mg x st)(S:Zz N ps (Zm st))
  (hb:∀(kV doc pm:aJ)(an:Option aM)(cdv ct:aJ)(us:List aJ),us.length=ps.length->kN (dw x x (XY st) (YV st) (Zm st) .none kV doc pm an cdv ct) ⟨us,[]⟩=pure (ps.zip us))
  (hn:ps.length=n) (hm:N.length=m) (hO:∀i∈O,n<=i)
  (hbody:∀(fa:aM)(cdv:aJ)(A:bc)(outer:List lP)(s:aN)(H:Hp)(E:XK),Room k (A.deeper (jL x (Zm st) s.heap.objs.size fa cdv))->Ip (Qe Lk P w K mg base N x (Zm st) fa cdv A outer s H E).nox O W (YV st) f) :
  Xf P w K mg base x ps (YY K (Xi m f) n) (k+1):=by
 subst hm;refine D.cal S hb (λvs H Q E h=>by rw[hn];exact h.1) λfa cdv A outer s H vs Q E hr h=>⟨_,hbody fa cdv A outer s H E hr,O4 hO h⟩
end
end VL
namespace VL
open PySem PySem.Spec PyProof.Rows L2
variable {K:aI}
theorem Inv.thaw{X:Cx}{du:List (aM×dX)}{Z:SO}{H:Hp}{s:aN}{d:aM}{oy:List (List YM×V)}{o:dX}(I:L2.Inv X du Z H s)(hd:H d=aA (.frz o (.dT oy)))(h0:∀o u,X.H₀ d≠aA (.frz o u)) :
  L2.Inv X du Z (upd H d (.dT oy)) s:=by
 have ne:∀b u,H b=aA u->(∀o v,u≠.frz o v)->b≠d:=λb u q n z=>by rw[z,hd] at q;exact n _ _ (bB q).symm
 have nn:∀b,H b=aB->b≠d:=λb q z=>by rw[z,hd] at q;cases q
 have hok:HOk X.prog X.w (upd H d (.dT oy)) s.heap:=λb u q=>by
  have hown:∀c y,H c=aA (.own y)->upd H d (.dT oy) c=aA (.own y):=λc y z=>by rw[upd_ne (ne c _ z λ_ _ z=>nomatch z)];exact z
  have htup:∀c xs,H c=aA (.tup xs)->upd H d (.dT oy) c=aA (.tup xs):=λc y z=>by rw[upd_ne (ne c _ z λ_ _ z=>nomatch z)];exact z
  by_cases hb:b=d
  ·subst hb;rw[upd_same] at q;cases q;obtain⟨_,x⟩:=(show ObjOk X.prog X.w H s.heap b (.frz o (.dT oy)) from I.hok b _ hd);exact ObjOk.stay x (λ_ _ _ z=>z) (λc z=>hown c _ z) htup λc u z=>by rw[upd_ne (λy=>by rw[y,hd] at z;cases z)];exact z
  ·rw[upd_ne hb] at q;exact(I.hok b u q).stay (λ_ _ _ z=>z) (λc z=>hown c _ z) htup λc u z=>by rw[upd_ne (λy=>by rw[y,hd] at z;cases z)];exact z
 refine⟨I.ok,I.os,I.bare,⟨I.base.keep,I.base.slot,λb o q n hx=>?_,I.base.there,λb xs q=>?_,λb o u q=>?_,λb ps q=>?_⟩,I.loc,I.cell,?_,λx c e=>?_,λp hp=>?_,hok,I.len⟩
 ·have z:=I.base.free b o q n hx;rw[upd_ne (nn b z)];exact z
 ·have z:=I.base.tups b xs q;rw[upd_ne (ne b _ z λ_ _ z=>nomatch z)];exact z
 ·have z:=I.base.frzs b o u q;have hb:b≠d:=λe=>h0 o u (by rw[<-e];exact q);rw[upd_ne hb];exact z
 ·obtain⟨more,z⟩:=I.base.tbls b ps q;exact⟨more,by rw[upd_ne (ne b _ z λ_ _ z=>nomatch z)];exact z⟩
 ·rw[upd_ne (nn _ I.free)];exact I.free
 ·rw[upd_ne (nn _ (I.freeC x c e))];exact I.freeC x c e
 ·obtain⟨a,b,c⟩:=I.pin p hp;exact⟨a,by rw[upd_ne (nn _ b)];exact b,c⟩
def thaw(d:aM)(oy:List (List YM×V))(D:Uo):Uo where
 nx:=λZ H=>(∃o,H d=aA (.frz o (.dT oy)))/\D.nx Z (upd H d (.dT oy))
 bk:=λZ H=>(∃o,H d=aA (.frz o (.dT oy)))/\D.bk Z (upd H d (.dT oy))
 ct:=λZ H=>(∃o,H d=aA (.frz o (.dT oy)))/\D.ct Z (upd H d (.dT oy))
 rt:=λv H=>(∃o,H d=aA (.frz o (.dT oy)))/\D.rt v (upd H d (.dT oy))
def D4(i:Nat)(g:TG)(tb:TS):TS:=λD Z H=>∃d oy,Z[i]?=aA (aA (.ref d))/\
 ((H d=aA (.dT oy)/\∀o,C0 g tb (thaw d oy D) Z (CY d o oy) (upd H d (.frz o (.dT oy))))\/∃o,H d=aA (.frz o (.dT oy))/\C0 g tb D Z (CY d o oy) H)
theorem Jp{X:Cx}{st:cO}{i:Nat}{g:TG}{tb:TS}(h:PS X st (Ec (K7 (Sb i)) g tb)):PS X st (D4 i g tb):=by
 intro du s Z H D I hq;obtain⟨d,oy,hv,alt⟩:=hq;rcases alt with⟨hd,q⟩ | ⟨o,hd,q⟩
 ·have h0:∀o u,X.H₀ d≠aA (.frz o u):=λo u z=>by have:=I.base.frzs d o u z;rw[hd] at this;cases this
  have main:=h du s Z H (thaw d oy D) I ⟨.ref d,hv,d,oy,rfl,.inl ⟨hd,q⟩⟩;refine Yo main λf s' hsp=>?_
  cases f with
  | next=>
   obtain⟨Z',H',I',⟨o,ho⟩,q'⟩:=hsp;exact⟨Z',_,Inv.thaw I' ho h0,q'⟩
  | brk=>
   obtain⟨Z',H',I',⟨o,ho⟩,q'⟩:=hsp;exact⟨Z',_,Inv.thaw I' ho h0,q'⟩
  | cont=>
   obtain⟨Z',H',I',⟨o,ho⟩,q'⟩:=hsp;exact⟨Z',_,Inv.thaw I' ho h0,q'⟩
  | ret u=>
   obtain⟨v,Z',H',I',r',⟨o,ho⟩,q'⟩:=hsp;exact⟨v,Z',_,Inv.thaw I' ho h0,r',q'⟩
 ·exact h du s Z H D I ⟨.ref d,hv,d,oy,rfl,.inr ⟨o,hd,q⟩⟩
def EV(k:List YM):PV:=.tup (k.map kP)
theorem N6{Rm:aM->Prop}{H1:Hp}{d:aM}{o:dX}{oy:List (List YM×V)}(hd:H1 d=aA (.frz o (.dT oy)))(hn:¬Rm d):JIs K Rm H1 (CY d o oy) ((oy.map (·.1)).map EV):=by refine⟨λH' ab=>⟨ab d _ hd hn,by simp⟩,λH' i l ab hl=>⟨ab d _ hd hn,by have:=(aX.mp hl).1;simpa using this⟩,λH' i l x H'' ab hl y=>?_⟩;obtain⟨rfl,b,k,v,hk,rfl,hb⟩:=y;rw[aU,aU,hk] at hl;cases hl;exact⟨Same.refl _,[],Is.tup hb (GF k),λp hp=>by simp at hp⟩
def Oo:PV->Option (List PV)
 | .dT ks _=>aA (ks.map EV)
 | _=>aB
def QE(i:Nat)(T:Tgt)(fb:XS):XS:=λs=>((s[i]?).join.bind Oo).bind λls=>Y8 T fb ls s
theorem Rd.dT_inj{H:Hp}{p:aM}{xs ys:List (List YM×V)}(a:Rd H p (.dT xs))(b:Rd H p (.dT ys)):xs=ys:=by rcases a with a | ⟨o,a⟩<;>rcases b with b | ⟨o',b⟩<;>rw[a] at b<;>cases b<;>rfl
theorem RdK.swap{H H':Hp}{d:aM}{oy:List (List YM×V)}(h:Rd H d (.dT oy))(h':Rd H' d (.dT oy))(hs:∀b,b≠d->H' b=H b)(p:aM):RdK H H' p:=by
 by_cases hp:p=d
 ·subst hp;refine⟨λxs z=>?_,λk z=>?_,λk z=>?_⟩
  ·rcases h with h | ⟨o,h⟩<;>rw[h] at z<;>cases z
  ·rcases h with h | ⟨o,h⟩<;>rcases z with z | ⟨o',z⟩<;>rw[h] at z<;>cases z
  ·rw[<-Rd.dT_inj h z];exact h'
 ·exact RdK.of λo z=>by rw[hs p hp];exact z
theorem TK2.swap{H H':Hp}{d:aM}{oy:List (List YM×V)}(h:Rd H d (.dT oy))(hs:∀b,b≠d->H' b=H b):TK2 H H':=by
 have ne:∀b u,H b=aA u->(∀k,u≠.dT k)->(∀o k,u≠.frz o (.dT k))->b≠d:=λb u q n n' z=>by
  rw[z] at q;rcases h with h | ⟨o,h⟩<;>rw[h] at q<;>cases q
  ·exact n _ rfl
  ·exact n' _ _ rfl
 exact⟨λb xs z=>by rw[hs b (ne b _ z (λ_ z=>nomatch z) λ_ _ z=>nomatch z)];exact z,λb o xs z=>by rw[hs b (ne b _ z (λ_ z=>nomatch z) λo k z=>by cases z)];exact z,λb o xs z=>by rw[hs b (ne b _ z (λ_ z=>nomatch z) λo k z=>by cases z)];exact z⟩
section
variable {O W:List Nat} {T:Tgt} {fb:XS} {i:Nat}
theorem Oq{O':List Nat}{H0 H:Hp}{fps:Nat->List aM}{s:ZJ}{Z:SO}{D:Uo}{out:Out}{ks:List (List YM)}{vs:List PV}(r:Rel K O H0 fps s Z H)(hO':∀j∈O',j∈O/\j≠i)(e:s[i]?=aA (aA (.dT ks vs)))
  (ef:Y8 T fb (ks.map EV) s=aA out) (hT:∀j∈T.slots,j∉O')
  (k:∀(F:Hp)(th:Hp->Hp),(∀b,H b≠aB->¬Ow O' fps b->F b≠aB)->Same H0 (th F)->(∀H',Same F H'->Same (th F) (th H')/\TK2 H' (th H')/\(∀p,RdK H' (th H') p)/\(∀p,F p=aB->th H' p=H' p)/\(∀p,p∈fps i->¬Ow O' fps p->H p=th H' p))->(∀p,F p=aB->H0 p=aB)->
   ∀out',out=out'->match out' with
    | .nx s'=>∀p7 Z' H',Rel K O' F p7 s' Z' H'->(∀j,j∉T.slots++W->Z'[j]?=Z[j]?/\Kep (p7 j) (fps j))->D.nx Z' (th H')
    | .rt l=>∀v fp H',Same F H'->Is K H' l v fp->fp.Nodup->(∀p∈fp,F p=aB/\Vx (H' p))->D.rt v (th H')
    | _=>True):D4 i (gT K T) (F5 K O' W fb) D Z H:=by
 obtain⟨v,hv,iv⟩:=r.is i _ e;obtain⟨d,oy,fq,rfl,hd,rfl,hi,efp⟩:=iv.dT_inv;have dO:¬Ow O' fps d:=λ⟨j,hj,hp⟩=>r.dis j (hO' j hj).1 i (cY (hO' j hj).2) d hp (by rw[efp];exact ag);have owm:∀p,Ow O' fps p->H0 p=aB/\Vx (H p):=λp ⟨j,hj,hp⟩=>r.own j (hO' j hj).1 p hp
 -- the frame and the relation at the loop's start,in a heap that differs from H at d alone
 have start:∀H2:Hp,Rd H2 d (.dT oy)->(∀b,b≠d->H2 b=H b)->Rel K O' (Wt H2 (Ow O' fps)) fps s Z H2:=λH2 h2 hs=>by
  refine⟨Og,r.len,λj l q=>?_,r.emp,λj hj=>r.nd j (hO' j hj).1,λj hj p hp=>⟨by unfold Wt;rw[pC ⟨j,hj,hp⟩],?_⟩,λj hj=>r.dis j (hO' j hj).1⟩
  ·obtain⟨w,a,b⟩:=r.is j l q;exact⟨w,a,Is.tr (TK2.swap hd hs) _ _ _ (λp _=>RdK.swap hd h2 hs p) b⟩
  ·have pd:p≠d:=λz=>dO ⟨j,hj,z▸hp⟩;rw[hs p pd];exact(r.own j (hO' j hj).1 p hp).2
 have outk:∀(F:Hp)(th:Hp->Hp)(D':Uo),(∀Z' H',Same F H'->D.nx Z' (th H')->D'.nx Z' H')->(∀v H',Same F H'->D.rt v (th H')->D'.rt v H')->(∀b,H b≠aB->¬Ow O' fps b->F b≠aB)->Same H0 (th F)->(∀H',Same F H'->Same (th F) (th H')/\TK2 H' (th H')/\(∀p,RdK H' (th H') p)/\(∀p,F p=aB->th H' p=H' p)/\(∀p,p∈fps i->¬Ow O' fps p->H p=th H' p))->(∀p,F p=aB->H0 p=aB)->(∀s',out≠.bk s')->(∀s',out≠.ct s')->OutOk K O' (T.slots++W) F fps Z D' out:=λF th D' h1 h2 h3 h4 h5 h6 hb hc=>by
  have kk:=k F th h3 h4 h5 h6 out rfl
  cases out with
  | nx s'=>exact λp7 Z' H' r' q'=>h1 Z' H' r'.same (kk p7 Z' H' r' q')
  | rt l=>exact λv fp H' sm i d n=>h2 v H' sm (kk v fp H' sm i d n)
  | bk s'=>exact absurd rfl (hb s')
  | ct s'=>exact absurd rfl (hc s')
 have nobc:(∀s',out≠.bk s')/\(∀s',out≠.ct s'):=by
  have:∀(ls:List PV)(s:ZJ)(o:Out),Y8 T fb ls s=aA o->(∀s',o≠.bk s')/\(∀s',o≠.ct s'):=by
   intro ls
   induction ls with
   | nil=>intro s o h;cases h;exact⟨λ_ z=>(nomatch z),λ_ z=>(nomatch z)⟩
   | cons l rr ih=>
    intro s o h;unfold Y8 at h;obtain⟨s1,_,h⟩:=Ze h;obtain⟨o1,_,h⟩:=Ze h
    cases o1 with
    | nx s2=>exact ih s2 o h
    | ct s2=>exact ih s2 o h
    | bk s2=>cases h;exact⟨λ_ z=>(nomatch z),λ_ z=>(nomatch z)⟩
    | rt v=>cases h;exact⟨λ_ z=>(nomatch z),λ_ z=>(nomatch z)⟩
  exact this _ _ _ ef
 rcases hd with hd | ⟨o,hd⟩
 ·refine⟨d,oy,hv,.inl ⟨hd,λo=>?_⟩⟩;have h2:upd H d (.frz o (.dT oy)) d=aA (.frz o (.dT oy)):=upd_same;have hs:∀b,b≠d->upd H d (.frz o (.dT oy)) b=H b:=λb hb=>upd_ne hb;have Fd:Wt (upd H d (.frz o (.dT oy))) (Ow O' fps) d=aA (.frz o (.dT oy)):=by unfold Wt;rw[pE dO];exact h2
  refine Qy (K:=K) (start _ (.inr ⟨o,h2⟩) hs) (N6 h2 dO) ef hT (outk _ (λHx=>upd Hx d (.dT oy)) (thaw d oy D) (λZ' H' sm q=>⟨⟨o,sm d _ Fd⟩,q⟩) (λv H' sm q=>⟨⟨o,sm d _ Fd⟩,q⟩) (λb hb nb=>?_) (λb u h=>?_) (λH' sm=>⟨?_,?_,λp=>?_,λp hp=>?_,λp hp np=>?_⟩) (λp hp=>?_) nobc.1 nobc.2)
  ·unfold Wt;rw[pE nb];by_cases e:b=d
   ·subst e;rw[h2];simp
   ·rw[hs b e];exact hb
  ·by_cases e:b=d
   ·subst e;have:=r.same b u h;rw[hd] at this;cases this;exact upd_same
   ·rw[upd_ne e];unfold Wt;rw[pE (λz=>by rw[(owm b z).1] at h;cases h),hs b e];exact r.same b u h
  ·intro b u h;by_cases e:b=d
   ·subst e;rw[upd_same] at h ⊢;exact h
   ·rw[upd_ne e] at h ⊢;exact sm b u h
  ·exact TK2.swap (d:=d) (oy:=oy) (.inr ⟨o,sm d _ Fd⟩) λb hb=>upd_ne hb
  ·exact RdK.swap (d:=d) (oy:=oy) (.inr ⟨o,sm d _ Fd⟩) (.inl upd_same) (λb hb=>upd_ne hb) p
  ·exact upd_ne λe=>by rw[e,Fd] at hp;cases hp
  ·by_cases e:p=d
   ·subst e;rw[hd];exact upd_same.symm
   ·show H p=upd H' d (.dT oy) p;rw[upd_ne e];have hpn:=r.dom i p hp
    cases q:H p with
    | none=>exact absurd q hpn
    | some u=>exact(sm p u (by unfold Wt;rw[pE np,hs p e];exact q)).symm
  ·cases q:H0 p with
   | none=>rfl
   | some u=>
    exfalso;have hpd:p≠d:=λe=>by rw[e,Fd] at hp;cases hp
    unfold Wt at hp;rw[pE (λz=>by rw[(owm p z).1] at q;cases q),hs p hpd,r.same p u q] at hp;cases hp
 ·refine⟨d,oy,hv,.inr ⟨o,hd,?_⟩⟩;have Fd:Wt H (Ow O' fps) d=aA (.frz o (.dT oy)):=by unfold Wt;rw[pE dO];exact hd
  refine Qy (K:=K) (start H (.inr ⟨o,hd⟩) λ_ _=>rfl) (N6 hd dO) ef hT (outk _ (λHx=>Hx) D (λZ' H' sm q=>q) (λv H' sm q=>q) (λb hb nb=>by unfold Wt;rw[pE nb];exact hb) (λb u h=>?_) (λH' sm=>⟨sm,Same.tk2 (Same.refl _),λp=>RdK.of λ_ z=>z,λp _=>rfl,λp hp np=>?_⟩) (λp hp=>?_) nobc.1 nobc.2)
  ·unfold Wt;rw[pE (λz=>by rw[(owm b z).1] at h;cases h)];exact r.same b u h
  ·have hpn:=r.dom i p hp
   cases q:H p with
   | none=>exact absurd q hpn
   | some u=>exact(sm p u (by unfold Wt;rw[pE np];exact q)).symm
  ·cases q:H0 p with
   | none=>rfl
   | some u=>
    exfalso;unfold Wt at hp;rw[pE (λz=>by rw[(owm p z).1] at q;cases q),r.same p u q] at hp;cases hp
end
section
variable {X:Cx} {O O' W:List Nat} {T:Tgt} {fb:XS} {i:Nat} {st:cO}
theorem Jq(h:PS X st (Ec (K7 (Sb i)) (gT X.K T) (F5 X.K O W fb)))(hi:i∉O:=by decide)(hT:∀j∈T.slots,j∉O:=by decide):VS X O (T.slots++W) st (QE i T fb):=PS.imp (Jp h) λD Z H ⟨H0,fps,s,out,r,e,k⟩=>by
 obtain⟨ls,e1,e⟩:=Ze e;obtain⟨d,e2,e3⟩:=Ze e1;have e2:=join_some e2
 cases d with
 | dT ks vs=>
  cases e3;refine Oq (O':=O) r (λj hj=>⟨hj,λz=>hi (z▸hj)⟩) e2 e hT λF th _ h4 h5 h6 out' eo=>?_;subst eo
  cases out with
  | nx s'=>
   intro p7 Z' H' r' q';obtain⟨t1,t2,t3,t4,_⟩:=h5 H' r'.same;refine k p7 Z' (th H') ⟨h4.trans t1,r'.len,λj l q=>?_,r'.emp,r'.nd,λj hj p hp=>⟨h6 p (r'.own j hj p hp).1,by rw[t4 p (r'.own j hj p hp).1];exact(r'.own j hj p hp).2⟩,r'.dis⟩ q';obtain⟨v,a,b⟩:=r'.is j l q;exact⟨v,a,Is.tr t2 _ _ _ (λp _=>t3 p) b⟩
  | rt l=>
   intro v fp H' sm is nd fr;obtain⟨t1,t2,t3,t4,_⟩:=h5 H' sm;exact k v fp (th H') (h4.trans t1) (Is.tr t2 _ _ _ (λp _=>t3 p) is) nd λp hp=>⟨h6 p (fr p hp).1,by rw[t4 p (fr p hp).1];exact(fr p hp).2⟩
  | bk s'=>trivial
  | ct s'=>trivial
 | _=>cases e3
def X1(O:List Nat):Nat->ZJ->ZJ
 | _,[]=>[]
 | k,o::r=>(if k∈O then o else match o with | some l=>if ZY l=aD then aA l else aB | none=>aB)::X1 O (k+1) r
theorem TR{O:List Nat}:∀{s:ZJ}{k j:Nat}{l:PV},(X1 O k s)[j]?=aA (aA l)->s[j]?=aA (aA l)/\(k+j∈O\/ZY l=aD)
 | [],k,j,l,h=>by simp[X1] at h
 | o::r,k,0,l,h=>by
  unfold X1 at h;simp only[kS,gR] at h;by_cases hk:k∈O
  ·rw[pC hk] at h;exact⟨by simp[h],.inl hk⟩
  ·rw[pE hk] at h
   cases o with
   | none=>cases h
   | some a=>
    simp only at h;split at h
    ·cases h;exact⟨rfl,.inr (by assumption)⟩
    ·cases h
 | o::r,k,j+1,l,h=>by unfold X1 at h;rw[List.getElem?_cons_succ] at h;obtain⟨a,b⟩:=TR h;exact⟨by simpa using a,by rw[show k+(j+1)=k+1+j by omega];exact b⟩
theorem QF{O:List Nat}:∀{s:ZJ}{k:Nat},(X1 O k s).length=s.length
 | [],_=>rfl
 | o::r,k=>by unfold X1;rw[bA,bA,QF]
def LD(O:List Nat):Out->Out
 | .nx s=>.nx (X1 O 0 s)
 | o=>o
def TU(O:List Nat)(i:Nat)(T:Tgt)(fb:XS):XS:=λs=>((s[i]?).join.bind Oo).bind λls=>(Y8 T fb ls s).map (LD O)
open Classical in
theorem GK(h:PS X st (Ec (K7 (Sb i)) (gT X.K T) (F5 X.K O' W fb)))(hi:i∈O:=by decide)(hO:∀j,j∈O'↔(j∈O/\j≠i))(hT:∀j∈T.slots,j∉O:=by decide)(hW:i∉T.slots++W:=by decide):VS X O (T.slots++W) st (TU O i T fb):=PS.imp (Jp h) λD Z H ⟨H0,fps,s,out,r,e,k⟩=>by
 obtain⟨ls,e1,e⟩:=Ze e;obtain⟨d,e2,e3⟩:=Ze e1;obtain⟨out0,e5,rfl⟩:=map_some e;have e2:=join_some e2
 cases d with
 | dT ks vs=>
  cases e3;refine Oq (O':=O') r (λj hj=>(hO j).mp hj) e2 e5 (λj hj z=>hT j hj ((hO j).mp z).1) λF th h3 h4 h5 h6 out' eo=>?_;subst eo
  cases out0 with
  | nx s'=>
   intro p7 Z' H' r' q';obtain⟨t1,t2,t3,t4,t5⟩:=h5 H' r'.same;have ki:=q' i hW;have fi:∀p∈fps i,¬Ow O' fps p:=λp hp ⟨j,hj,z⟩=>r.dis i hi j ((hO j).mp hj).2 p hp z;have Fi:∀p∈fps i,F p≠aB:=λp hp=>h3 p (r.dom i p hp) (fi p hp)
   have sub:∀p,p∈p7 i->p∈fps i:=λp hp=>by
    rcases ki.2 with z | z
    ·rw[<-z];exact hp
    ·rw[z] at hp;simp at hp
   have ow':∀j∈O',∀p∈p7 j,F p=aB:=λj hj p hp=>(r'.own j hj p hp).1;have inO:∀j∈O,j≠i->j∈O':=λj hj n=>(hO j).mpr ⟨hj,n⟩
   have get:∀j p,p∈(if(X1 O 0 s')[j]?=s'[j]? then p7 j else [])->p∈p7 j/\(X1 O 0 s')[j]?=s'[j]?:=λj p hp=>by
    split at hp
    ·exact⟨hp,by assumption⟩
    ·simp at hp
   refine k (λj=>if(X1 O 0 s')[j]?=s'[j]? then p7 j else []) Z' (th H') ⟨h4.trans t1,by rw[QF];exact r'.len,λj l q=>?_,λj hne=>?_,λj hj=>?_,λj hj p hp=>?_,λj hj m hm p hp z=>?_⟩ λj hj=>⟨(q' j hj).1,?_⟩
   ·obtain⟨q1,_⟩:=TR q;obtain⟨v,a,b⟩:=r'.is j l q1;rw[pC (q.trans q1.symm)];exact⟨v,a,Is.tr t2 _ _ _ (λp _=>t3 p) b⟩
   ·show(if(X1 O 0 s')[j]?=s'[j]? then p7 j else [])=[];split
    ·rename_i h;exact r'.emp j λl z=>hne l (by rw[h];exact z)
    ·rfl
   ·show(if(X1 O 0 s')[j]?=s'[j]? then p7 j else []).Nodup;split
    ·by_cases e:j=i
     ·subst e;rcases ki.2 with z | z
      ·rw[z];exact r.nd j hi
      ·rw[z];exact cM
     ·exact r'.nd j (inO j hj e)
    ·exact cM
   ·obtain⟨hp,_⟩:=get j p hp;by_cases e:j=i
    ·subst e;have hp:=sub p hp;exact⟨(r.own j hi p hp).1,by rw[<-t5 p hp (fi p hp)];exact(r.own j hi p hp).2⟩
    ·have o:=r'.own j (inO j hj e) p hp;exact⟨h6 p o.1,by rw[t4 p o.1];exact o.2⟩
   ·obtain⟨hp,_⟩:=get j p hp;obtain⟨zp,zc⟩:=get m p z;by_cases e:j=i
    ·subst e;have hpi:=sub p hp;by_cases hmO:m∈O'
     ·exact Fi p hpi (ow' m hmO p zp)
     ·obtain⟨l,v,ql,_,b⟩:=r'.at m zp;rw[ql] at zc;obtain⟨_,alt⟩:=TR zc;rcases alt with alt | alt
      ·rw[Nat.zero_add] at alt;exact hmO (inO m alt hm)
      ·rw[Is.pure _ _ _ alt b] at zp;simp at zp
    ·exact r'.dis j (inO j hj e) m hm p hp zp
   ·show Kep (if(X1 O 0 s')[j]?=s'[j]? then p7 j else []) (fps j);split
    ·exact(q' j hj).2
    ·exact .inr rfl
  | rt l=>
   intro v fp H' sm is nd fr;obtain⟨t1,t2,t3,t4,_⟩:=h5 H' sm;exact k v fp (th H') (h4.trans t1) (Is.tr t2 _ _ _ (λp _=>t3 p) is) nd λp hp=>⟨h6 p (fr p hp).1,by rw[t4 p (fr p hp).1];exact(fr p hp).2⟩
  | bk s'=>trivial
  | ct s'=>trivial
 | _=>cases e3
end
end VL
namespace VL
open PySem PySem.Spec PyProof.Rows L2
variable {K:aI}
section
variable {X:Cx} {O:List Nat} {tg elt iter:bK} {ifs:List bK} {scope:gk} {pos:fN} {fi:XL} {T:Tgt} {ft:XT} {fe:XE}
theorem Jr(own fr:List ah)(ix:List Nat){i:Nat}{y:ah}{py spos:fN}(hN:X.N.Nodup)(hy:X.N[i]?=aA y)(hloc:X.env.scope.names.lookup y=aA .local)(hcalm:X.calm=aD)(hi:VI X tg iter fi)(S:TM X.N X.env.scope scope own fr ix=aD)
  (hg:∀cl C s H ex,PG (ZR X (own++fr) scope cl C s H ex) tg (gT X.K T)) (ht:∀cl C s H ex,AB (ZR X (own++fr) scope cl C s H ex) ifs ft) (he:∀cl C s H ex,VM (ZR X (own++fr) scope cl C s H ex) elt fe)
  (hT:∀i∈T.slots,i<own.length:=by decide)
  (hsw:g8 (.ListComp elt [⟨tg,iter,ifs,0⟩] scope pos) (aA (.Name y py)) spos.line X.env=pure aD:=by rfl)
  (hs:∀x,dM iter X.env x=pure x:=by intro _;rfl):VS X O [i] (.Assign [.Name y py] (.ListComp elt [⟨tg,iter,ifs,0⟩] scope pos) spos) (Zl i (ZA own.length ix fi T ft fe)):=
 PS.imp (Gm own fr ix hN hy hloc hcalm hi S hg (λcl C s H ex=>(show Gj (ZR X (own++fr) scope cl C s H ex) ifs (M5 X.K ft) from ht cl C s H ex)) (λcl C s H ex=>(show PE (ZR X (own++fr) scope cl C s H ex) elt (tM X.K fe) from he cl C s H ex)) hsw hs) (Ji (Jf hT))
end
def O5(i:Nat)(fk:XE):XS:=λs=>(Za i s).bind λa=>((fk s).bind Ir).bind λk=>if k=0 then aA (.rt .non) else if k=1 then aA (.rt a) else aB
theorem Iw{X:Cx}{O:List Nat}{e:bK}{i:Nat}{fk:XE}{pos:fN}(he:PE X e (Cw (Eo X.K) (Ae (RE (tC .non) (RE (Sb i) J6))) (tF X.K fk)))(hi:i∈O:=by decide):VS X O [] (.Return (aA e) pos) (O5 i fk):=PS.imp (M7 he) λD Z H ⟨H0,fps,s,out,r,e,k⟩=>by
 obtain⟨a,e0,e⟩:=Ze e;obtain⟨n,e1,e⟩:=Ze e;obtain⟨l,e1,e2⟩:=Ze e1;rw[UE e2] at e1;obtain⟨v,hv,iv⟩:=r.is i a (S3 e0);refine⟨v,hv,(by show 2<=sizeLine;decide),λp hp=>?_⟩;have sn:Same H (upd H p (.lst [V.non,v])):=Same.new hp _;refine⟨λ_=>False,s,_,λ_ z=>z.elim,r.env.mono sn,e1,λy H2 fy s2 i2 _=>?_⟩;have hp2:H2 p=aA (.lst [V.non,v]):=s2 _ _ upd_same;by_cases h0:n=0
 ·rw[pC h0] at e;cases e;exact⟨p,[V.non,v],n,V.non,rfl,i2.int_inv.1,SqL.of hp2,by rw[h0];rfl,k .non [] H2 (r.same.trans (sn.trans s2)) Is.non cM λp hp=>by simp at hp⟩
 ·rw[pE h0] at e;split at e
  ·rename_i h1;cases e;have s12:=sn.trans s2;exact⟨p,[V.non,v],n,v,rfl,i2.int_inv.1,SqL.of hp2,by rw[h1];rfl,k v (fps i) H2 (r.same.trans s12) (iv.mono s12) (r.nd i hi) λq hq=>⟨(r.own i hi q hq).1,Same.mut s12 (r.own i hi q hq).2⟩⟩
  ·cases e
section
variable {P:bE} {w:bg} {mg:ah->Option aJ} {base:bw}
theorem C9{x:ah}{st:cO}{N ps:List ah}{k n:Nat}{O W:List Nat}{fa:aM}{fd:fX}(m:Nat)(f:XS)(F:Fun K x x st fa fd)(S:Zz N ps (Zm st))
  (hn:ps.length=n) (hm:N.length=m) (hO:∀i∈O,n<=i)
  (hbody:∀(fa:aM)(cdv:aJ)(A:bc)(outer:List lP)(s:aN)(H:Hp)(E:XK),Room k (A.deeper (jL x (Zm st) s.heap.objs.size fa cdv))->Ip (Qe Lk P w K mg base N x (Zm st) fa cdv A outer s H E).nox O W (YV st) f) :
  SV P w K mg base Lk (k+1) fa fd ps (YY K (Xi m f) n):=by
 subst hm;refine F.ok S (λvs H Q E h=>by rw[hn];exact h.1) λcdv A outer s H vs Q E hr h=>⟨_,hbody fa cdv A outer s H E hr,?_⟩;exact O4 hO h
theorem GL{st:cO}{x:ah}{D:List PV->Option PV}{k:Nat}{fa:aM}(Df:Def K mg "law" st)(hfa:mg "law" = aA (.ref fa))
  (hb:∀(kV doc pm:aJ)(an:Option aM)(cdv ct u:aJ),kN (dw "law" "law" (XY st) (YV st) (Zm st) .none kV doc pm an cdv ct) ⟨[u],[]⟩=pure [(x,u)])
  (H:∀(base:bw)(f:aM)(fd:fX),K.In base->base.Ns bJ mg->Fun K "law" "law" st f fd->SV P w K mg base Lk k f fd [x] (YY K D 1)) :
  ∃fd:fX,(∀(s:aN)(u:aJ),mq s fd ⟨[u],[]⟩ [(x,u)])/\∀base:bw,K.In base->base.Ns bJ mg->SV P w K mg base Lk k fa fd [x] (YY K D 1):=by
 obtain⟨f,fd,hm,F⟩:=Df.ex;have e:=hfa.symm.trans hm;cases e;refine⟨fd,?_,λbase h1 h2=>H base fa fd h1 h2 F⟩;obtain⟨oc,od,kV,doc,pm,an,cdv,ct,osl,rfl,lk,hcd⟩:=F.ex;exact λs u=>.of_eq (hb kV doc pm an cdv ct u)
end
end VL
namespace VL
open PySem L2
@[simp] theorem UJ(i:Nat)(s:ZJ):Za i s=(s[i]?).join:=rfl
@[simp] theorem eC_def(l:PV)(s:ZJ):eC l s=aA l:=rfl
@[simp] theorem ZF(g:PV->PV->Option PV)(a b:XE)(s:ZJ):Zf g a b s=(a s).bind λx=>(b s).bind λy=>g x y:=rfl
@[simp] theorem eUn_def(g:PV->Option PV)(a:XE)(s:ZJ):RI g a s=(a s).bind g:=rfl
@[simp] theorem Wz(f:XE)(s:ZJ):eP f s=(f s).bind λl=>if ZY l=aD then aA l else aB:=rfl
@[simp] theorem Js(s:ZJ):T9 [] s=aA []:=rfl
@[simp] theorem YH(f:XE)(fs:List XE)(s:ZJ):T9 (f::fs) s=(f s).bind λx=>(T9 fs s).map (x::·):=rfl
@[simp] theorem XI(D:List PV->Option PV)(fs:List XE)(s:ZJ):Zd D fs s=(T9 fs s).bind D:=rfl
@[simp] theorem eTup_def(fs:List XE)(s:ZJ):Yg fs s=(T9 fs s).map .tup:=rfl
@[simp] theorem N7(fs:List XE)(s:ZJ):ZN fs s=(T9 fs s).map .lst:=rfl
@[simp] theorem Jt(g:PV->Option Int->Option Int->Option PV)(a:XE)(lo hi:XO)(s:ZJ):Up g a lo hi s=(a s).bind λx=>(lo s).bind λl=>(hi s).bind λu=>g x l u:=rfl
@[simp] theorem Ju(s:ZJ):UB s=aA aB:=rfl
@[simp] theorem gI_ii(g:Int->Int->Int)(i j:Int):gI g (.int i) (.int j)=aA (.int (g i j)):=rfl
@[simp] theorem gB_ii(g:Int->Int->Bool)(i j:Int):gB g (.int i) (.int j)=aA (.bl (g i j)):=rfl
@[simp] theorem Ba(C:Int->Int->Prop)[∀i j,Decidable (C i j)](g:Int->Int->Int)(i j:Int):Gp C g (.int i) (.int j)=if C i j then aA (.int (g i j)) else aB:=rfl
@[simp] theorem gIx_ti(l:List PV)(i:Int):Zn (.tup l) (.int i)=Ts l i:=rfl
@[simp] theorem gIx_li(l:List PV)(i:Int):Zn (.lst l) (.int i)=Ts l i:=rfl
@[simp] theorem gIx_ci(l:List PV)(i:Int):Zn (.cst l) (.int i)=Ts l i:=rfl
@[simp] theorem Yj(f:XE)(s:ZJ):xB f s=(f s).bind Jo:=by
 unfold xB
 cases f s with
 | none=>rfl
 | some a=>cases a<;>rfl
@[simp] theorem UK(b:Bool):Jo (.bl b)=aA b:=rfl
@[simp] theorem Sl(a b:XT)(s:ZJ):Wr a b s=(a s).bind λc=>if c=aD then b s else aA aC:=rfl
@[simp] theorem U5(a b:XT)(s:ZJ):Gs a b s=(a s).bind λc=>if c=aD then aA aD else b s:=rfl
@[simp] theorem Wu(a:XT)(s:ZJ):WK a s=(a s).map not:=rfl
@[simp] theorem Sm(a b:XE)(s:ZJ):Qo a b s=(xB a s).bind λc=>if c=aD then b s else aA (.bl aC):=rfl
@[simp] theorem eOr_def(a b:XE)(s:ZJ):eOr a b s=(xB a s).bind λc=>if c=aD then aA (.bl aD) else b s:=rfl
@[simp] theorem eNot_def(a:XE)(s:ZJ):EM a s=(xB a s).map λc=>.bl !c:=rfl
@[simp] theorem EW(c:XT)(a b:XE)(s:ZJ):HM c a b s=(c s).bind λk=>if k=aD then a s else b s:=rfl
@[simp] theorem eIsN_def(neg:Bool)(a:XE)(s:ZJ):Tq neg a s=(a s).bind (RU neg):=rfl
@[simp] theorem Ot(s:ZJ):ZI s=aA (.nx s):=rfl
@[simp] theorem Yk(f g:XS)(s:ZJ):Zk f g s=(f s).bind λo=>match o with | .nx s'=>g s' | r=>aA r:=rfl
@[simp] theorem Z8(c:XT)(f g:XS)(s:ZJ):Wb c f g s=(c s).bind λk=>if k=aD then f s else g s:=rfl
@[simp] theorem QG(f:XE)(s:ZJ):Ya f s=(f s).map .rt:=rfl
@[simp] theorem ZD(i:Nat)(f:XE)(s:ZJ):Zl i f s=(f s).map λl=>.nx (s.set i (aA l)):=rfl
@[simp] theorem retO_rt(v:PV):Xa (.rt v)=aA v:=rfl
@[simp] theorem Iy(i:Int):ZY (.int i)=aD:=rfl
@[simp] theorem GN(i:Bool):ZY (.bl i)=aD:=rfl
@[simp] theorem pureV_str(i:ah):ZY (.str i)=aD:=rfl
@[simp] theorem pureV_non:ZY .non=aD:=rfl
@[simp] theorem pureV_tup(l:List PV):ZY (.tup l)=ZC l:=by rw[ZY]
@[simp] theorem pureL_nil:ZC []=aD:=rfl
@[simp] theorem pureL_cons(a:PV)(l:List PV):ZC (a::l)=(ZY a&&ZC l):=rfl
theorem S9{α:Type}{l:List α}{f:α->PV}(h:∀a∈l,ZY (f a)=aD):ZC (l.map f)=aD:=by rw[WV,jS,bC];exact h
@[simp] theorem pureL_iL(l:List Int):ZC (l.map PV.int)=aD:=Yd l
abbrev pP(l:List Int):PV:=.tup (iL l)
abbrev wP(W:List (List Int)):PV:=.tup (W.map pP)
@[simp] theorem pureL_wP(W:List (List Int)):ZC (W.map pP)=aD:=S9 λa _=>by simp
theorem GO{l:List PV}{k:Nat}{a:PV}(h:l[k]?=aA a):Ts l (k:Int)=aA a:=WG h
theorem LF{l:List Int}{k:Nat}(h:k<l.length):(iL l)[k]?=aA (.int (ZL l k)):=by rw[aU,aG h];simp[ZL,aL,aG h]
theorem Vv{l:List Int}{k:Nat}(h:k<l.length):Ts (iL l) (k:Int)=aA (.int (ZL l k)):=WG (LF h)
theorem Sn{W:List (List Int)}{k:Nat}(h:k<W.length):Ts (W.map pP) (k:Int)=aA (pP (ZK W k)):=by refine WG ?_;rw[aU,Qm h];rfl
@[simp] theorem Bb(l:List Int):V3 [.tup (l.map PV.int)]=aA (.int l.sum):=by simp[V3,Qs,YQ l]
@[simp] theorem GP(l:List Int):V3 [.lst (l.map PV.int)]=aA (.int l.sum):=by simp[V3,Qs,YQ l]
@[simp] theorem GQ(l:List Bool):OV [.lst (l.map PV.bl)]=aA (.bl (l.all id)):=by simp[OV,Qs,Tv l]
@[simp] theorem gLen_t(l:List PV):Zx [.tup l]=aA (.int l.length):=rfl
@[simp] theorem gLen_l(l:List PV):Zx [.lst l]=aA (.int l.length):=rfl
@[simp] theorem gLen_c(l:List PV):Zx [.cst l]=aA (.int l.length):=rfl
@[simp] theorem gTuple_l(l:List PV):Y7 [.lst l]=aA (.tup l):=rfl
@[simp] theorem gTuple_t(l:List PV):Y7 [.tup l]=aA (.tup l):=rfl
@[simp] theorem gListP_t(l:List PV):TQ [.tup l]=if ZC l=aD then aA (.lst l) else aB:=rfl
@[simp] theorem gListP_l(l:List PV):TQ [.lst l]=if ZC l=aD then aA (.lst l) else aB:=rfl
@[simp] theorem gMin2_ii(i j:Int):Uj [.int i,.int j]=aA (.int (if j<i then j else i)):=rfl
@[simp] theorem gMax2_ii(i j:Int):Tw [.int i,.int j]=aA (.int (if j>i then j else i)):=rfl
@[simp] theorem gInt1_b(c:Bool):UA [.bl c]=aA (.int (if c then 1 else 0)):=rfl
@[simp] theorem gInt1_i(c:Int):UA [.int c]=aA (.int c):=rfl
@[simp] theorem gInst_ii(i:Int):Sj [.int i,.ty "int"]=aA (.bl aD):=rfl
@[simp] theorem gInst_ib(i:Int):Sj [.int i,.ty "bool"]=aA (.bl aC):=rfl
@[simp] theorem gInst_tt(l:List PV):Sj [.tup l,.ty "tuple"]=aA (.bl aD):=rfl
@[simp] theorem gInst_ll(l:List PV):Sj [.lst l,.ty "list"]=aA (.bl aD):=rfl
theorem O6(n:Nat)(i j:Int):Ws (n+1) (.int i) (.int j)=aD:=rfl
theorem UL{α β:Type}{f:α->PV}{g:β->PV}{p:PV->PV->Bool}(h:∀a b,p (f a) (g b)=aD):∀(l:List α)(m:List β),((l.map f).zip (m.map g)).all (λz=>p z.1 z.2)=aD
 | [],_=>by simp
 | _::_,[]=>by simp
 | a::l,b::m=>by rw[aZ,aZ,dt,jx,UL h l m,h a b];rfl
theorem EX(n:Nat)(l m:List Int):Ws (n+2) (pP l) (pP m)=aD:=UL (λa b=>O6 n a b) l m
theorem EY(n:Nat)(l m:List Int):Ws (n+2) (.lst (iL l)) (.lst (iL m))=aD:=UL (λa b=>O6 n a b) l m
theorem GR{l m:List Int}:iL l=iL m↔l=m:=by
 constructor
 ·intro h;exact(List.map_inj_right (λa b e=>PV.int.inj e)).mp h
 ·intro h;rw[h]
theorem Bc{l m:List Int}:pP l=pP m↔l=m:=by rw[PV.tup.injEq];exact GR
@[simp] theorem TV(neg:Bool)(i j:Int):YN neg (.int i) (.int j)=aA (.bl (if neg then !decide (i=j) else decide (i=j))):=by
 unfold YN;rw[pC (O6 7 i j)];congr 2;cases neg<;>simp
@[simp] theorem O7(neg:Bool)(l m:List Int):YN neg (.tup (l.map PV.int)) (.tup (m.map PV.int))=aA (.bl (if neg then !decide (l=m) else decide (l=m))):=by unfold YN;rw[pC (EX 6 l m)];have:decide ((PV.tup (l.map PV.int)) = .tup (m.map PV.int))=decide (l=m):=decide_eq_decide.mpr Bc;rw[this]
@[simp] theorem Be(neg:Bool)(l m:List Int):YN neg (.lst (l.map PV.int)) (.lst (m.map PV.int))=aA (.bl (if neg then !decide (l=m) else decide (l=m))):=by unfold YN;rw[pC (EY 6 l m)];have:decide ((PV.lst (l.map PV.int)) = .lst (m.map PV.int))=decide (l=m):=decide_eq_decide.mpr (by rw[PV.lst.injEq];exact GR);rw[this]
theorem Ou{α:Type}{T:Tgt}{ft:XT}{fe:XE}{s0:ZJ}{q g:α->PV}:∀{ls:List α},(∀a∈ls,∃s1,Vj T (q a) s0=aA s1/\ft s1=aA aD/\fe s1=aA (g a))->W7 T ft fe s0 (ls.map q)=aA (ls.map g)
 | [],_=>rfl
 | a::r,h=>by obtain⟨s1,h1,h2,h3⟩:=h a ag;have ih:=Ou (ls:=r) λb hb=>h b (aT _ hb);rw[aZ,aZ];unfold W7;rw[h1];simp only[aE,h2,if_true,h3,ih,bF]
theorem So{α:Type}{T:Tgt}{ft:XT}{fe:XE}{s0:ZJ}{q g:α->PV}{c:α->Bool}:∀{ls:List α},(∀a∈ls,∃s1,Vj T (q a) s0=aA s1/\ft s1=aA (c a)/\(c a=aD->fe s1=aA (g a)))->W7 T ft fe s0 (ls.map q)=aA ((ls.filter c).map g)
 | [],_=>rfl
 | a::r,h=>by
  obtain⟨s1,h1,h2,h3⟩:=h a ag;have ih:=So (ls:=r) λb hb=>h b (aT _ hb);rw[aZ];unfold W7;rw[h1];simp only[aE,h2]
  cases hc:c a with
  | true=>simp[h3 hc,ih,hc]
  | false=>simp[ih,hc]
theorem Y2{α:Type}{n:Nat}{ix:List Nat}{fi:XL}{T:Tgt}{ft:XT}{fe:XE}{s:ZJ}(ls:List α)(q g:α->PV)(hfi:fi s=aA (ls.map q))(hl:ls.length<=10000)
  (h:∀a∈ls,∃s1,Vj T (q a) (compEnv n ix s)=aA s1/\ft s1=aA aD/\fe s1=aA (g a)):ZA n ix fi T ft fe s=aA (.lst (ls.map g)):=by
 unfold ZA;rw[hfi];simp only[aE,aH,pC hl,Ou h,bF]
theorem V7{α:Type}{n:Nat}{ix:List Nat}{fi:XL}{T:Tgt}{ft:XT}{fe:XE}{s:ZJ}(ls:List α)(q g:α->PV)(c:α->Bool)(hfi:fi s=aA (ls.map q))(hl:ls.length<=10000)
  (h:∀a∈ls,∃s1,Vj T (q a) (compEnv n ix s)=aA s1/\ft s1=aA (c a)/\(c a=aD->fe s1=aA (g a))):ZA n ix fi T ft fe s=aA (.lst ((ls.filter c).map g)):=by
 unfold ZA;rw[hfi];simp only[aE,aH,pC hl,So h,bF]
theorem ZP{T:Tgt}{fb:XS}:∀{ls:List PV}{s:ZJ}(Jv:Nat->ZJ->Prop),Jv 0 s->(∀(i:Nat) l st,ls[i]?=aA l->Jv i st->∃s1 s2,Vj T l st=aA s1/\fb s1=aA (.nx s2)/\Jv (i+1) s2)->
  ∃s',Y8 T fb ls s=aA (.nx s')/\Jv ls.length s'
 | [],s,Jv,h0,_=>⟨s,rfl,h0⟩
 | l::r,s,Jv,h0,h=>by obtain⟨s1,s2,a,b,c⟩:=h 0 l s rfl h0;obtain⟨s',d,e⟩:=ZP (ls:=r) (s:=s2) (λi=>Jv (i+1)) c λi l' st hl hi=>h (i+1) l' st (by simpa using hl) hi;refine⟨s',?_,e⟩;unfold Y8;rw[a];simp only[aE,b];exact d
theorem X2{n i:Nat}{l:PV}(h:(Wd n)[i]?=aA l):i<n/\l = .int (i:Int):=by have hi:=(aX.mp h).1;unfold Wd at hi h;rw[aH,dh] at hi;rw[aU,eK hi] at h;exact⟨hi,(bB h).symm⟩
theorem Va{lo:Int}{n i:Nat}{l:PV}(h:(XB lo n)[i]?=aA l):i<n/\l = .int (lo+(i:Int)):=by have hi:=(aX.mp h).1;unfold XB at hi h;rw[aH,dh] at hi;rw[aU,eK hi] at h;exact⟨hi,(bB h).symm⟩
@[simp] theorem X3(n:Nat):(Wd n).length=n:=by unfold Wd;simp
@[simp] theorem VF(lo:Int)(n:Nat):(XB lo n).length=n:=by unfold XB;simp
@[simp] theorem bindT_one(i:Nat)(l:PV)(s:ZJ):Vj (.one i) l s=aA (s.set i (aA l)):=rfl
theorem Iz(i j:Nat)(a b:PV)(s:ZJ):Vj (.many [i,j]) (.tup [a,b]) s=aA ((s.set i (aA a)).set j (aA b)):=rfl
theorem UM(m:List PV):Vi m=(aS m.length).map λ(i:Nat)=>.tup [.int (i:Int),m.getD i .non]:=by
 apply jr;intro i;rw[aU];by_cases h:i<m.length
 ·have:(Vi m)[i]?=aA (.tup [.int (i:Int),m[i]]):=by unfold Vi;rw[aU,l3,aG h];simp
  rw[this,eK h];simp[aL,aG h]
 ·rw[eX (by rw[U1];omega),eX (by simpa using h)];rfl
theorem EZ(l:List Int)(i:Nat)(h:i<l.length):(iL l).getD i .non = .int (ZL l i):=by rw[aL,LF h];rfl
theorem GS(W:List (List Int))(i:Nat)(h:i<W.length):(W.map pP).getD i .non=pP (ZK W i):=by rw[aL,aU,Qm h];rfl
@[simp] theorem E1(f:XE)(s:ZJ):ZG [f] s=(f s).bind λa=>(Ir a).bind λj=>if -1000000<=j/\j<=1000000 then aA (Wd j.toNat) else aB:=by
 unfold ZG
 cases h:f s with
 | none=>simp[h]
 | some a=>cases a<;>simp[h,Ir]
@[simp] theorem E2(f g:XE)(s:ZJ):Yi [f,g] s=(f s).bind λa=>(g s).bind λb=>(Ir a).bind λi=>(Ir b).bind λj=>if -1000000<=i/\i<=1000000/\-1000000<=j/\j<=1000000 then aA (XB i (j-i).toNat) else aB:=by
 unfold Yi
 cases h:f s with
 | none=>simp[h]
 | some a=>cases h2:g s with
  | none=>simp[h,h2]
  | some b=>cases a<;>cases b<;>simp[h,h2,Ir]
@[simp] theorem Sq(i:Int):Ir (.int i)=aA i:=rfl
@[simp] theorem Jw(i:List PV):AD (.lst i)=aA i:=rfl
@[simp] theorem IA(b:Bool)(f:XE)(s:ZJ):WC b [f] s=(f s).bind λl=>(seqB b l).map Vi:=by
 unfold WC;cases h:f s<;>simp[h]
@[simp] theorem Bf(l:List PV):seqB aC (.tup l)=aA l:=rfl
@[simp] theorem seqB_t(l:List PV):seqB aD (.lst l)=aA l:=rfl
@[simp] theorem seqB_c(l:List PV):seqB aD (.cst l)=aA l:=rfl
@[simp] theorem GU(f:XE)(s:ZJ):YW f s=(f s).bind BN:=rfl
@[simp] theorem AF(l:List PV):BN (.lst l)=aA l:=rfl
@[simp] theorem asS_c(l:List PV):BN (.cst l)=aA l:=rfl
theorem N8{f:XE}{s:ZJ}{l:List PV}(h:f s=aA (.tup l)):S7 f s=aA l:=by unfold S7;rw[h]
@[simp] theorem Yq(O:List Nat)(fi:XL)(T:Tgt)(fb:XS)(s:ZJ):Z3 O fi T fb s=(fi (Z2 O s)).bind λls=>Y8 T fb ls s:=rfl
@[simp] theorem xTrue_def(s:ZJ):ZZ s=aA aD:=rfl
theorem Yp{f:XE}{s:ZJ}{n:Nat}(h:f s=aA (.int (n:Int)))(hn:n<=10000):ZG [f] s=aA (Wd n):=by rw[E1,h];simp only[aE,Sq];rw[pC ⟨by omega,by omega⟩,cL]
theorem We{f g:XE}{s:ZJ}{i j:Int}(h:f s=aA (.int i))(h':g s=aA (.int j))(hi : -10000<=i/\i<=10000)(hj : -10000<=j/\j<=10000):Yi [f,g] s=aA (XB i (j-i).toNat):=by rw[E2,h,h'];simp only[aE,Sq];rw[pC ⟨by omega,by omega,by omega,by omega⟩]
theorem Bg{i j:Int}(h0 : -10000<=i)(h:i<=10000):CMul i j:=by
 refine .inl ?_;have e:(2^64:Int)=18446744073709551616:=by decide
 rw[e];omega
theorem U6{c:Bool}(h:c=aD):gd c=aA ():=by unfold gd;rw[pC h]
theorem QH{i:Nat}{f:XE}{s:ZJ}{m n:List PV}(h:f s=aA (.lst n))(hm:Iq s i=aA m)(hl:m.length+n.length<=10000):Xz i f s=aA (.nx (s.set i (aA (.lst (m++n))))):=by unfold Xz;rw[h];simp only[aE,Jw,hm,U6 (decide_eq_true hl)]
theorem YX{i:Nat}{f:XE}{s:ZJ}{m:List PV}{l:PV}(h:f s=aA l)(hm:Iq s i=aA m)(hl:m.length<=10000):Zy i f s=aA (.nx (s.set i (aA (.lst (m++[l]))))):=by unfold Zy;rw[h];simp only[aE,hm,U6 (decide_eq_true hl)]
theorem QI{i:Nat}{fk f:XE}{s:ZJ}{m:List PV}{l:PV}{k:Int}(hk:fk s=aA (.int k))(h:f s=aA l)(hm:Iq s i=aA m)(hp:ZC m=aD)(hq:ZY l=aD)(h0:0<=k)(h1:k<=1000000)(hl:m.length<=10000) :
  WQ i fk f s=aA (.nx (s.set i (aA (.lst (m.take k.toNat++l::m.drop k.toNat))))):=by
 unfold WQ;rw[hk,h];have c:(ZC m&&ZY l&&decide (0<=k/\k<=1000000/\m.length<=10000))=aD:=by rw[hp,hq,decide_eq_true ⟨h0,h1,hl⟩];rfl
 simp only[aE,Sq,hm,U6 c]
theorem Ov{i:Nat}{fk f:XE}{s:ZJ}{m:List PV}{l:PV}{k:Int}{j:Nat}(h:f s=aA l)(hk:fk s=aA (.int k))(hm:Iq s i=aA m)(hp:ZC m=aD)(hq:ZY l=aD)(hj:M4 m.length k=aA j) :
  Xu i fk f s=aA (.nx (s.set i (aA (.lst (m.set j l))))):=by
 unfold Xu;rw[hk,h];have c:(ZC m&&ZY l)=aD:=by rw[hp,hq];rfl
 simp only[aE,Sq,hm,U6 c,hj,bF]
theorem QJ{i:Nat}{fa fb f:XE}{s:ZJ}{m n:List PV}{l:PV}{a b:Int}{j c:Nat}(h:f s=aA l)(ha:fa s=aA (.int a))(hb:fb s=aA (.int b))(hm:Iq s i=aA m)(hj:M4 m.length a=aA j)(hn:m[j]?=aA (.lst n))(hp:ZC n=aD)(hq:ZY l=aD)(hc:M4 n.length b=aA c) :
  Vl i fa fb f s=aA (.nx (s.set i (aA (.lst (m.set j (.lst (n.set c l))))))):=by
 unfold Vl;rw[h,ha,hb];have cc:(ZC n&&ZY l)=aD:=by rw[hp,hq];rfl
 simp only[aE,Sq,Jw,hm,hj,hn,U6 cc,hc,bF]
theorem U7{n k:Nat}(h:k<n):M4 n (k:Int)=aA k:=by unfold M4;rw[pC (by omega),pC (by omega)];rfl
theorem Ra{i j:Int}(h0:0<j)(h:j<=10000):Qc i j:=⟨h0,by omega⟩
end VL
namespace VL
open PySem PySem.Spec PyProof.Rows L2
variable {K:aI}
def D5(K:aI):R2:=λx y H Q=>∃a b xs ys,x = .ref a/\y = .ref b/\SqT K H a xs/\SqT K H b ys/\xs.length+ys.length<=sizeLine/\
 (xs=[]->Q (.ref b) H)/\(ys=[]->Q (.ref a) H)/\∀p,H p=aB->Q (.ref p) (upd H p (.tup (xs++ys)))
theorem O8{X:Cx}:Us X (fD .Add) (D5 X.K):=by
 intro du s Z H x y v u Q I rx ry h;obtain⟨a,b,xs,ys,rfl,rfl,ha,hb,hz,q0,q1,q2⟩:=h;by_cases hx:xs=[]
 ·cases rx;cases ry;obtain⟨pA,r1,p1,_⟩:=I.tuple ha;obtain⟨its2,r2,p2,_⟩:=I.tuple hb;obtain⟨⟨cls,dd,data,sl⟩,ho,hc,n,hd⟩:=id p1;obtain⟨⟨cls2,dd2,data2,sl2⟩,ho2,hc2,n2,hd2⟩:=id p2;simp only at hc hd hc2 hd2;subst hc hd hc2 hd2
  exact mw ⟨_,ho,rfl⟩ ⟨_,ho2,rfl⟩ kO mP iM iI (gu _ _)
   (tuple_addW0 a b pA.toArray its2.toArray n n2 dd dd2 sl sl2 (by simp[r1.nil_iff.mpr hx])) ⟨ho,ho2,.ref b,H,I,rfl,q0 hx⟩
 ·exact En _ _ _ _ _ _ _ _ _ I rx ry ⟨a,b,xs,ys,rfl,rfl,ha,hb,hx,hz,q1,λ_=>q2⟩
def WD:PV->PV->Option PV
 | .tup m,.tup n=>if m.length+n.length<=10000 then aA (.tup (m++n)) else aB
 | _,_=>aB
theorem O9:RB K (D5 K) WD:=λH x y a b l fa fb ha hb e Q k=>by
 cases a with
 | tup m=>cases b with
  | tup n=>
   have e:(if m.length+n.length<=10000 then aA (PV.tup (m++n)) else aB)=aA l:=e;split at e
   case isFalse=>cases e
   rename_i hl;cases e;obtain⟨p,xs,rfl,hp,hi⟩:=ha.tup_inv;obtain⟨p',ys,rfl,hp',hi'⟩:=hb.tup_inv;refine⟨p,p',xs,ys,rfl,rfl,SqT.of hp,SqT.of hp',by rw[hi.len,hi'.len];exact dH (lt_size hl),λz=>?_,λz=>?_,λq hq=>?_⟩
   ·have:m=[]:=fg.mp (by rw[<-hi.len,z];rfl);subst this;exact k _ _ fb (Same.refl _) hb λr hr=>.inr (.inl hr)
   ·have:n=[]:=fg.mp (by rw[<-hi'.len,z];rfl);subst this;rw[dU] at k;exact k _ _ fa (Same.refl _) ha λr hr=>.inl hr
   ·exact k _ _ (fa++fb) (Same.new hq _) (Is.tup upd_same ((hi.append hi').mono (Same.new hq _))) λr hr=>(aq.mp hr).elim .inl λz=>.inr (.inl z)
  | _=>cases e
 | _=>cases e
end VL
namespace PW
open PySem L2 VL
def U8:XS:=(Zk (Zl 1 (ZN []))
  (Zk (Z3 [1] (WC aC [Za 0]) (.many [2,3]) (Z3 [1] (Yi [Zf ZO (Za 2) (eC (.int 1)),Zd Zx [Za 0]]) (.one 4) (Xz 1 (ZA 1 [2,4] (ZG [Zf Zn (Za 3) (Za 4)]) (.one 0) ZZ (eP (Yg [Za 1,Za 2,Za 0]))))))
  (Ya (Za 1))))
def Y3:List PV->Option PV:=Xi 5 U8
def QK:XS:=(Ya (eP (Zf Zn (Zf Vm (Up O0 (Za 0) (VR (Za 1)) (VR (Zf ZO (Za 1) (eC (.int 1))))) (ZN [eC (.int 0)])) (eC (.int 0)))))
def Zr:List PV->Option PV:=Xi 2 QK
def Rb:XS:=(Ya (eP (Qo (Zd Sj [Za 0,eC (.ty "int")]) (EM (Zd Sj [Za 0,eC (.ty "bool")])))))
def WY:List PV->Option PV:=Xi 1 Rb
def Vn:XS:=(Zk (Zl 3 (ZN []))
  (Zk (Z3 [3,5] (ZG [Za 2]) (.one 4) (Zk (WQ 3 (Zf Z9 (Za 1) (Zf ZO (Za 4) (eC (.int 1)))) (Za 4))
  (Zl 1 (eP (Zf W6 (Za 1) (Zf ZO (Za 4) (eC (.int 1))))))))
  (Zk (Zl 5 (eC (.dT [] [])))
  (Zk (QE 0 (.many [6,7]) (Zk (Zl 8 (eP (Yg [Zd Uj [Zf Zn (Za 3) (Za 6),Zf Zn (Za 3) (Za 7)],Zd Tw [Zf Zn (Za 3) (Za 6),Zf Zn (Za 3) (Za 7)]])))
  (sDPut 5 (Za 8) (Zf W8 (Za 0) (Yg [Za 6,Za 7])))))
  (Ya (Za 5))))))
def Vo:List PV->Option PV:=Xi 9 Vn
def X4:XS:=(Zk (Zl 4 (eC (.dT [] [])))
  (Zk (Zl 5 (ZN [eP (eC (.int 0))]))
  (Zk (Z3 [4,5] (ZG [Za 1]) (.one 6) (Z3 [4,5] (Yi [Zf ZO (Za 6) (eC (.int 1)),Za 1]) (.one 7) (Zk (Zl 8 (eP (Zd Uj [Zf EJ (Zf Z9 (Za 0) (eC (.int 2))) (Zf ZO (eC (.int 1)) (Zf Z9 (Zf W6 (Za 0) (eC (.int 2))) (Za 3))),Za 2])))
  (Zk (Zl 0 (eP (Zf Zn (ZN [Zf W6 (Za 0) (eC (.int 2)),Zf W6 (Zf W6 (Za 0) (eC (.int 2))) (Za 3)]) (Zf Z9 (Za 0) (eC (.int 2))))))
  (Wb (xB (Zf Av (Za 8) (eC (.int 0)))) (Zk (sDPut 4 (Yg [Za 6,Za 7]) (Za 8))
  (Zl 2 (eP (Zf Xo (Za 2) (Za 8))))) ZI)))))
  (Zk (Z3 [4,5] (ZG [Za 1]) (.one 9) (TU [4,5] 4 (.many [6,7]) (Zk (Wb (Wr (xB (Zf (YC aC) (Za 6) (Za 5))) (xB (Zf (YC aD) (Za 7) (Za 5)))) (Zy 5 (eP (Za 7))) ZI)
  (Wb (Wr (xB (Zf (YC aC) (Za 7) (Za 5))) (xB (Zf (YC aD) (Za 6) (Za 5)))) (Zy 5 (eP (Za 6))) ZI))))
  (O5 4 (Zd UA [Zf (YN aC) (Zd Zx [Za 5]) (Za 1)]))))))
def YI:List PV->Option PV:=Xi 10 X4
def V8:XS:=(Zk (Zl 2 (ZA 1 [1] (ZG [Za 1]) (.one 0) ZZ (Zf W9 (ZN [eC (.int 0)]) (Za 1))))
  (Zk (QE 0 (.many [3,4]) (Zk (Vl 2 (Za 3) (Za 4) (Zf W8 (Za 0) (Yg [Za 3,Za 4])))
  (Vl 2 (Za 4) (Za 3) (Zf W8 (Za 0) (Yg [Za 3,Za 4])))))
  (Ya (eP (Zd Y7 [ZA 1 [] (YW (Za 2)) (.one 0) ZZ (Zd Y7 [Za 0])])))))
def XC:List PV->Option PV:=Xi 5 V8
def Rc:XS:=(Ya (eP (Qo (Zd Sj [Za 0,eC (.ty "tuple")]) (Qo (Zf (YN aC) (Zd Zx [Za 0]) (Za 1)) (Zd OV [ZA 1 [] (S7 (Za 0)) (.one 0) ZZ (Zd WY [Za 0])])))))
def Y4:List PV->Option PV:=Xi 2 Rc
end PW
namespace VL
open PySem PySem.Spec PyProof.Rows L2
def Rf:List Int->Int
 | []=>0
 | [x]=>x
 | x::y::r=>if Rf (y::r)<x then Rf (y::r) else x
theorem Rg:∀{l:List Int},l≠[]->Rf l∈l/\∀x∈l,Rf l<=x
 | [],h=>absurd rfl h
 | [x],_=>by simp[Rf]
 | x::y::r,_=>by
  obtain⟨a,b⟩:=Rg (l:=y::r) (by simp);unfold Rf;split
  ·rename_i h;refine⟨aT _ a,λz hz=>?_⟩;rcases a9.mp hz with rfl | hz
   ·omega
   ·exact b z hz
  ·rename_i h;refine⟨by simp,λz hz=>?_⟩;rcases a9.mp hz with rfl | hz
   ·omega
   ·have:=b z hz;omega
theorem E3{l:List Int}{m:Int}(h:m∈l)(g:∀x∈l,m<=x):Rf l=m:=by obtain⟨a,b⟩:=Rg (l:=l) (by intro z;subst z;simp at h);have:=b m h;have:=g _ a;omega
theorem QL(val:Nat->Int):∀k,iQ (λi j=>decide (val i<val j)) k<=k/\∀j,j<=k->val (iQ (λi j=>decide (val i<val j)) k)<=val j
 | 0=>⟨af _,λj hj=>by rw[Nat.le_zero.mp hj];exact g6 _⟩
 | k+1=>by
  obtain⟨a,b⟩:=QL val k;unfold iQ;split
  ·rename_i h;have h:=of_decide_eq_true h;refine⟨af _,λj hj=>?_⟩;by_cases e:j=k+1
   ·subst e;exact g6 _
   ·have:=b j (by omega);omega
  ·rename_i h;have h:¬_:=λz=>h (decide_eq_true z);refine⟨by omega,λj hj=>?_⟩;by_cases e:j=k+1
   ·subst e;omega
   ·exact b j (by omega)
def sortI(l:List Int):List Int:=l.mergeSort λa b=>decide (a<=b)
theorem sortI_perm(l:List Int):(sortI l).Perm l:=List.mergeSort_perm l _
theorem Sr(l:List Int):(sortI l).Pairwise (·<=·):=by have:=List.pairwise_mergeSort (le:=λa b:Int=>decide (a<=b)) (λa b c h1 h2=>by simp only[decide_eq_true_eq] at *;omega) (λa b=>by simp only[n8,decide_eq_true_eq];omega) l;exact this.imp λh=>of_decide_eq_true h
theorem sortI_eq{l m:List Int}(hp:m.Perm l)(hs:m.Pairwise (·<=·)):m=sortI l:=
 List.Perm.eq_of_pairwise (le:=(·<=·)) (λa b _ _ h1 h2=>Int.le_antisymm h1 h2) hs (Sr l) (hp.trans (sortI_perm l).symm)
theorem V9:∀{us:List aJ}{ns:List Int},ig us ns->Vals (ns.map V.int) us
 | _,_,.nil=>.nil
 | _,_,.cons n t h=>.cons ⟨t,rfl⟩ (V9 h)
def Na(K:aI):List V->Hp->VK->Prop:=λxs H Q=>∃p ns,xs=[.ref p]/\SqL K H p (ns.map V.int)/\ns.length<64/\∀l,H l=aB->Q (.ref l) (upd H l (.lst ((sortI ns).map V.int)))
theorem Ss{X:Cx}:Wo X (.builtin "sorted") (Na X.K):=by
 intro du s Z H xs us Q I r h;obtain⟨p,ns,rfl,hq,hl,q⟩:=h;obtain⟨u,rfl,rx⟩:=Uv r;cases rx;obtain⟨pA,r',pl,hz⟩:=I.list hq;have hlen:=r'.length;rw[aH] at hlen hz;refine sorted_ints pl.isList (TJ r') (by omega) λout ns' a1 a2 a3=>?_;obtain⟨e,he⟩:=sortedAll_at s.heap pA out;have hns:=sortI_eq a2 a3;subst hns;refine⟨.ref (s.heap.objs.size+1),_,I.laid (t':=s.toks) (λb o=>sortedAll_old) (jB _) (show ObjOk X.prog X.w _ _ _ (.lst ((sortI ns).map V.int)) from⟨?_,out.toList,e,V9 a1,?_⟩),rfl,q _ (I.hok.fresh (jB _))⟩
 ·rw[aH,(sortI_perm ns).length_eq];exact hz
 ·rw[jE];exact he
def X5:List PV->Option PV
 | [.lst l]=>(YD l).bind λns=>if ns.length<64 then aA (.lst (iL (sortI ns))) else aB
 | [.cst l]=>(YD l).bind λns=>if ns.length<64 then aA (.lst (iL (sortI ns))) else aB
 | _=>aB
theorem QM{K:aI}:AA K (Na K) X5:=λH vs ls l fp h e Q k=>by
 have fin:∀(p:aM)(ns:List Int),SqL K H p (ns.map V.int)->ns.length<64->l = .lst (iL (sortI ns))->Na K [.ref p] H Q:=by rintro p ns hp hl rfl;refine⟨p,ns,rfl,hp,hl,λq hq=>k _ _ [q] (Same.new hq _) (Is.lst upd_same (Iss.ofInts _)) (by simp) λr hr=>?_⟩;rw[aQ.mp hr];exact⟨hq,by rw[upd_same];exact cE⟩
 unfold X5 at e;split at e
 ·obtain⟨ns,e1,e2⟩:=Ze e;split at e2
  ·cases e2;obtain⟨v,rfl,i⟩:=h.one_inv;have em:=YR e1;subst em;obtain⟨p,xs,fq,rfl,hp,hi,_⟩:=i.lst_inv;obtain⟨rfl,rfl⟩:=hi.iL;exact fin p ns (.inl (.inl hp)) (by assumption) rfl
  ·cases e2
 ·obtain⟨ns,e1,e2⟩:=Ze e;split at e2
  ·cases e2;obtain⟨v,rfl,i⟩:=h.one_inv;have em:=YR e1;subst em;obtain⟨p,xs,rfl,hp,hi⟩:=i.cst_inv;obtain⟨rfl,rfl⟩:=hi.iL;exact fin p ns hp.sq (by assumption) rfl
  ·cases e2
 ·cases e
def UN:XS:=λ_=>aB
theorem QO{X:Cx}{O W:List Nat}{st:cO}:VS X O W st UN:=by intro du s Z H D I h;unfold F5 at h;simp only[UN] at h;obtain⟨_,_,_,_,_,q,_⟩:=h;cases q
theorem QP:∀(us:List aJ)(k:Nat),(∀(i:Nat)(v:aJ),us[i]?=aA v->∃t,v=dN ((k+i:Nat):Int) t)->Vals ((aS us.length).map λi=>V.int ((k+i:Nat):Int)) us
 | [],k,_=>.nil
 | u::us,k,h=>by
  obtain⟨t,rfl⟩:=h 0 u rfl;rw[bA,gJ,aZ,bQ];refine .cons ⟨t,rfl⟩ ?_;have:=QP us (k+1) λi v hv=>by obtain⟨t,e⟩:=h (i+1) v (by simpa using hv);exact⟨t,by rw[e];congr 2;omega⟩
  refine Eq.mp (congrArg (λl=>Vals l us) (bO λi _=>?_)) this;show V.int _=V.int _;congr 2;omega
def tLR(ta:TA):TE:=λZ H Q=>ta Z H λvs H1=>∃j:Nat,vs=[.int (j:Int)]/\j<=10000/\∀l,H1 l=aB->Q (.ref l) (upd H1 l (.lst ((aS j).map λ(i:Nat)=>V.int (i:Int))))
section
variable {X:Cx} {a:bK} {ta:TA} {p p2 pos pos2:fN}
theorem Nb(hc:X.calm=aD)(hgl:Gl X "list")(hml:X.mg "list" = aB)(hgr:Gl X "range")(hmr:X.mg "range" = aB)(ha:PA X [a] ta)(hs:aR [a] X.env=[(aC,eval a X.env)]:=by rfl)
  (he:aR [.Call (.Name "range" p2) [a] [] pos2] X.env=(aC,eval (.Call (.Name "range" p2) [a] [] pos2) X.env)::aR [] X.env:=by rfl) (hpl:(cw pos (aR [] X.env)).any (·.1)=aC:=by rfl) :
  PE X (.Call (.Name "list" p) [.Call (.Name "range" p2) [a] [] pos2] [] pos) (tLR ta):=by
 intro du s Z H Q I h;refine cZ (XX I hgl hml (u:=.type "list") (by decide +kernel) ?_);refine cF (T:="list") ?_ he hpl;rw[he];show ao _ _ (spliced ((aC,eval (.Call (.Name "range" p2) [a] [] pos2) X.env)::[])) _ _ s;refine iD ?_;refine Call_ (XX I hgr hmr nz (cF (Yo (ha pos2 du s Z H _ I h) λus s1 ⟨vs,H1,I1,r1,q1⟩=>?_) hs rfl));obtain⟨j,e,hj,q⟩:=q1;subst e
 cases r1 with
 | cons r rr=>
  cases rr;obtain⟨t,rfl⟩:=r;refine call_range_1 (iK ?_);have sz:sizeLine=2^24:=rfl;refine call_list_range (n:=j) (I.ok.hd hc) (ou ..) (small_one (by omega) (by omega) (by omega) (by omega)) (by rw[rangeSize_one];split<;>omega) (by omega) λh' tk acc' c' hk hS hacc=>?_;have I2:=I1.kept (t':=s1.toks+1+1) (h':=s1.heap.push { cls:=.type "range",data:=.fields #[.int 0 s1.toks,.int (j:Int) t,.int 1 (s1.toks+1)] }) λb o e=>aO _ e;refine⟨.ref _,_,I2.laid (t':=tk) hk (af _) (show ObjOk X.prog X.w _ _ _ (.lst ((aS j).map λ(i:Nat)=>V.int (i:Int))) from⟨by simp;omega,acc'.toList,c',?_,?_⟩),rfl,q _ (I2.hok.fresh (af _))⟩
  ·have:=QP acc'.toList 0 λi v hv=>by obtain⟨t',e⟩:=hacc.2 i v (by simpa using hv);exact⟨t',by rw[e];congr 1;omega⟩
   rw[cJ,hacc.1] at this;refine Eq.mp (congrArg (λl=>Vals l acc'.toList) (bO λi _=>?_)) this;show V.int _=V.int _;congr 2;omega
  ·rw[jE];exact hS
end
def Rh:PV->Option PV
 | .int k=>if 0<=k/\k<=10000 then aA (.lst (iL ((aS k.toNat).map λ(i:Nat)=>(i:Int)))) else aB
 | _=>aB
theorem Nc{X:Cx}{a:bK}{fa:XE}{p p2 pos pos2:fN}(hc:X.calm=aD)(hgl:Gl X "list")(hml:X.mg "list" = aB)(hgr:Gl X "range")(hmr:X.mg "range" = aB)(ha:VE X a fa)(hs:aR [a] X.env=[(aC,eval a X.env)]:=by rfl)
  (he:aR [.Call (.Name "range" p2) [a] [] pos2] X.env=(aC,eval (.Call (.Name "range" p2) [a] [] pos2) X.env)::aR [] X.env:=by rfl) (hpl:(cw pos (aR [] X.env)).any (·.1)=aC:=by rfl) :
  VM X (.Call (.Name "list" p) [.Call (.Name "range" p2) [a] [] pos2] [] pos) (RI Rh fa):=
 PE.imp (Nb hc hgl hml hgr hmr (Zb ha Zh hs) hs he hpl) λZ H Q ⟨s,l,env,e,k⟩=>by
  obtain⟨x,e1,e2⟩:=Ze e;refine⟨λ_=>False,s,[x],λ_ z=>z.elim,env,by show(fa s).bind _=_;rw[e1];rfl,λvs H1 fp s1 i1 _=>?_⟩;obtain⟨w,rfl,iw⟩:=i1.one_inv
  cases x with
  | int kk=>
   unfold Rh at e2;simp only at e2;split at e2
   case isFalse=>cases e2
   rename_i hk;cases e2;refine⟨kk.toNat,by rw[iw.int_inv.1];congr 2;omega,by omega,λq hq=>?_⟩;have hm:(aS kk.toNat).map (λ(i:Nat)=>V.int (i:Int))=((aS kk.toNat).map λ(i:Nat)=>(i:Int)).map V.int:=by rw[bQ];rfl
   rw[hm];refine k _ _ [q] (s1.trans (Same.new hq _)) (Is.lst upd_same (Iss.ofInts _)) (by simp) λr hr=>?_;rw[aQ.mp hr];exact⟨Same.off s1 hq,by rw[upd_same];exact cE⟩
  | _=>cases e2
variable {K:aI}
def CMulW(i j:Int):Prop:=i.natAbs.log2<67108863/\j.natAbs.log2<67108863
def Tz(i j:Int):Prop:=j≠0/\j.natAbs.log2<9000
instance (i j:Int):Decidable (CMulW i j):=by unfold CMulW;infer_instance
instance (i j:Int):Decidable (Tz i j):=by unfold Tz;infer_instance
theorem Jx(i:Int):gq i<=i.natAbs.log2+1:=by
 unfold gq;split
 ·exact gA _
 ·exact af _
theorem CMulW.ok{i j:Int}(h:CMulW i j):IntMulOk i j:=by
 unfold IntMulOk ij.Int.intTooBig;have h1:=Jx i;have h2:=Jx j;have h3:=h.1;have h4:=h.2
 have:decide (((gq i:Int)+(gq j:Int))>(bitsLine:Int))=aC:=decide_eq_false (by
  have e:(bitsLine:Int)=134217728:=rfl;rw[e];omega)
 rw[this];simp
section
variable {X:Cx} {a b:bK} {fa fb:XE} {pos:fN}
theorem E4:Us X (fD .Mult) (rI CMulW λi j=>.int (i*j)):=BM λ_ _ _ _ _ _ _ hc q=>mul_int q hc.ok
theorem GV:Us X (fD .FloorDiv) (rI Tz λi j=>.int (i.fdiv j)):=BM λ_ _ _ _ _ _ _ hc q=>floordiv_int hc.1 q (.inl (PyProof.noPylong_of_log2 hc.2))
abbrev Jy:=Gp CMulW (· * ·)
abbrev XJ:=Gp Tz oM
theorem E5(ha:VE X a fa)(hb:VE X b fb):VE X (.BinOp a .Mult b pos) (Zf Jy fa fb):=Uz E4 (Od _ _) ha hb
theorem UO(ha:VE X a fa)(hb:VE X b fb):VE X (.BinOp a .FloorDiv b pos) (Zf XJ fa fb):=Uz GV (Od _ _) ha hb
end
theorem QQ:∀{ns:List Int}{n:Int},n∈ns->n.natAbs.log2<=kT (ns.map .int)
 | m::r,n,h=>by
  rw[aZ];simp only[kT,PySem.W.WData.weight];rcases a9.mp h with rfl | h
  ·by_cases h0:n=0
   ·subst h0;have:Nat.log2 (Int.natAbs 0)=0:=by decide +kernel
    omega
   ·rw[pE (by simpa using h0)];omega
  ·have:=QQ h;omega
end VL
namespace PW
open PySem L2 VL
def U9:XS:=(Ya (eP (Zd V3 [ZA 1 [0,1] (YW (Za 2)) (.one 0) ZZ (Zf Zn (Zf Zn (Za 1) (Za 2)) (Za 0))])))
def VG:List PV->Option PV:=Xi 3 U9
def XA:XS:=(Zk (Z3 [] (WC aC [Za 1]) (.many [3,4]) (Wb (Wr (xB (Zf (YC aD) (Za 3) (Za 2))) (xB (Zf S4 (Za 4) (Zd VG [Za 0,Za 3,Za 2])))) (Ya (eP (Za 3))) ZI))
  (Ya (eP (eC .non))))
def ZX:List PV->Option PV:=Xi 5 XA
def R6:XS:=(Zk (Zl 3 (ZN [eP (Za 2)]))
  (Zk (Zl 4 (Zd ZX [Za 0,Za 1,Za 3]))
  (Zk (Vu (xB (Tq aD (Za 4))) (Zk (Zy 3 (eP (Za 4)))
  (Zl 4 (Zd ZX [Za 0,Za 1,Za 3]))))
  (Ya (Za 3)))))
def WR:List PV->Option PV:=Xi 5 R6
def Ta:XS:=(Ya (ZA 2 [1] (WC aC [Za 0]) (.many [0,1]) (Wr (xB (Zf (YN aD) (Za 0) (Za 2))) (xB (Zf S4 (Za 1) (eC (.int 0))))) (eP (Za 0))))
def Wf:List PV->Option PV:=Xi 2 Ta
end PW
namespace L2
open PySem PySem.Spec PyProof.Rows
abbrev WJ:=aM->dX->List (List YM×V)->It
end L2
namespace VL
open PySem PySem.W PyProof.Rows
section
variable {r:Nat->Int} {n:Nat}
def Xd(p:Array Nat)(i:Nat):Nat:=p.getD i 0
end
end VL
namespace VL
open PySem PySem.Spec PyProof.Rows L2
variable {K:aI}
instance (x:ah) (n:Int):Decidable (MulOk x n):=by unfold MulOk;infer_instance
end VL
set_option maxHeartbeats 1000000
namespace VL
open PySem
def Rise(xs:Array Nat):Prop:=xs.toList.Pairwise (· < ·)
theorem Su{xs:Array Nat}{i:Nat}(h:i<xs.size)(d:Nat):xs.getD i d=xs[i]:=by unfold jd;rw[dif_pos h];rfl
theorem Rise.at{xs:Array Nat}(h:Rise xs){i k:Nat}(hi:i<k)(hk:k<xs.size)(d:Nat):xs.getD i d<xs.getD k d:=by have:=List.pairwise_iff_getElem.mp h i k (by simp;omega) (by simpa using hk) hi;simp only[jF] at this;unfold jd;rw[dif_pos hk,dif_pos (show i<xs.size by omega)];exact this
theorem Nd{xs:Array Nat}{j:Nat}(h:Rise xs):∀(fuel lo hi:Nat),lo<=hi->hi<=xs.size->hi-lo<=fuel->(∀i,i<lo->xs.getD i j<j)->(∀i,hi<=i->i<xs.size->j<=xs.getD i j)->
  gS xs j fuel lo hi<=xs.size/\(∀i,i<gS xs j fuel lo hi->xs.getD i j<j)/\∀i,gS xs j fuel lo hi<=i->i<xs.size->j<=xs.getD i j
 | 0,lo,hi,h1,h2,h3,h4,h5=>by unfold gS;exact⟨by omega,h4,λi hi'=>h5 i (by omega)⟩
 | fuel+1,lo,hi,h1,h2,h3,h4,h5=>by
  unfold gS;by_cases q:lo<hi
  ·rw[pC q];simp only;by_cases p:xs.getD ((lo+hi)/2) j<j
   ·rw[pC p];refine Nd h fuel _ hi (by omega) h2 (by omega) (λi hi'=>?_) h5;by_cases e:i=(lo+hi)/2
    ·rw[e];exact p
    ·have:=h.at (show i<(lo+hi)/2 by omega) (show(lo+hi)/2<xs.size by omega) j;omega
   ·rw[pE p];refine Nd h fuel lo _ (by omega) (by omega) (by omega) h4 (λi hi' hs=>?_);by_cases e:i=(lo+hi)/2
    ·rw[e];omega
    ·have:=h.at (show(lo+hi)/2<i by omega) hs j;omega
  ·rw[pE q];exact⟨by omega,h4,λi hi'=>h5 i (by omega)⟩
theorem TX{xs:Array Nat}(h:Rise xs)(j:Nat):ba xs j<=xs.size/\(∀i,i<ba xs j->xs.getD i j<j)/\∀i,ba xs j<=i->i<xs.size->j<=xs.getD i j:=
 Nd h xs.size 0 xs.size (gA _) (af _) (by omega) (λi hi=>by omega) (λi h1 h2=>by omega)
theorem LG{xs:Array Nat}(h:Rise xs):ba xs 0=0:=by
 have hb:=TX h 0;by_cases q:ba xs 0=0
 ·exact q
 ·have:=hb.2.1 0 (by omega);omega
theorem LH{xs:Array Nat}(h:Rise xs){i:Nat}(hi:i<xs.size):ba xs (xs[i]+1)=i+1:=by
 have hb:=TX h (xs[i]+1);have gi:∀d,xs.getD i d=xs[i]:=λd=>Su hi d
 have h1:i<ba xs (xs[i]+1):=by
  by_cases q:ba xs (xs[i]+1)<=i
  ·have:=hb.2.2 i q hi;rw[gi] at this;omega
  ·omega
 by_cases q:ba xs (xs[i]+1)=i+1
 ·exact q
 ·have h2:=hb.2.1 (i+1) (by omega);have h3:=h.at (show i<i+1 by omega) (show i+1<xs.size by omega) (xs[i]+1);rw[gi] at h3;omega
theorem LI(n:Nat):Rise (Array.range n):=by unfold Rise;rw[Array.toList_range];exact kf
theorem GW{xs:Array Nat}(h:Rise xs){j:Nat}(hj:¬xs[ba xs j]?=aA j):Rise (fI xs (ba xs j) j):=by
 have hb:=TX h j;generalize ba xs j=p at hb hj;unfold Rise fI;simp only[eJ,iN,l6];rw[l7,l7];have hx:xs.toList.Pairwise (· < ·):=h;have take:(xs.toList.extract 0 p)=xs.toList.take p:=by simp[kg]
 have drop:(xs.toList.extract p xs.size)=xs.toList.drop p:=by simp only[kg];exact cG (by simp)
 rw[take,drop];have lt:∀a∈xs.toList.take p,a<j:=λa ha=>by obtain⟨i,hi,rfl⟩:=eM ha;rw[bp] at hi;have:=hb.2.1 i (by omega);rw[List.getElem_take];unfold jd at this;rw[dif_pos (show i<xs.size by simp at hi;omega)] at this;simpa using this
 have gt:∀a∈xs.toList.drop p,j<a:=λa ha=>by
  obtain⟨i,hi,rfl⟩:=eM ha;rw[bq] at hi;have hs:p+i<xs.size:=by simp at hi;omega
  rw[List.getElem_drop];have h1:=hb.2.2 (p+i) (by omega) hs;unfold jd at h1;rw[dif_pos hs] at h1;have h0:¬xs[p]=j:=λz=>hj (by rw[dq (by omega),z]);have h3:j<=xs[p]:=by have:=hb.2.2 p (af _) (by omega);unfold jd at this;rw[dif_pos (show p<xs.size by omega)] at this;exact this
  by_cases z:i=0
  ·subst z;simp only[kh,jF];omega
  ·have h4:=h.at (show p<p+i by omega) hs 0;rw[Su hs,Su (show p<xs.size by omega)] at h4;simp only[jF];omega
 refine⟨⟨hx.sublist (gO _ _),by simp,λa ha b hb'=>?_⟩,hx.sublist (List.drop_sublist _ _),λa ha b hb'=>?_⟩
 ·rw[aQ.mp hb'];exact lt a ha
 ·rcases aq.mp ha with q | q
  ·have:=lt a q;have:=gt b hb';omega
  ·rw[aQ.mp q];exact gt b hb'
structure Wn(led:Bool)(t:dB):Prop where
 rise:Rise t.place
 dum:t.dummies = #[]
 led:t.led=led
theorem IB(led:Bool):Wn led (oN 0 0 led):=⟨by unfold Rise oN;simp,rfl,rfl⟩
theorem Vp{led:Bool}{t:dB}(h:Wn led t)(n:Nat):Wn led (t.standIn n):=⟨LI n,rfl,h.led⟩
theorem N9{t:dB}(hd:t.dummies = #[]){f:Nat->Int}{h:Int}:∀(fuel:Nat)(p:oO),p.dummy=aB->∀j d,fJ t f h fuel p=aA (.empty j d)->d=aB/\¬t.place[ba t.place j]?=aA j
 | 0,p,hp,j,d,e=>by simp[fJ] at e
 | fuel+1,p,hp,j,d,e=>by
  unfold fJ at e;have hh:dy t.dummies p.j=aC:=by rw[hd];unfold dy;simp
  have adv:(t.advance p).dummy=aB:=by
   unfold nM;split
   ·exact hp
   ·exact hp
  cases hs:t.slot p.j with
  | empty=>
   rw[hs] at e;simp only[gR,o6] at e;obtain⟨rfl,rfl⟩:=e;refine⟨hp,λz=>?_⟩;unfold jz at hs;simp only at hs;rw[z] at hs;simp at hs
  | dummy=>
   exfalso;unfold jz at hs;simp only at hs;rw[hh] at hs;split at hs<;>simp at hs
  | live i=>
   rw[hs] at e;simp only at e;split at e
   ·cases e
   ·exact N9 hd fuel _ adv j d e
theorem E6{t:dB}(hd:t.dummies = #[]){h:Int}{j:Nat}{b:Bool}(e:t.freeSlot h=aA (j,b)):b=aC/\¬t.place[ba t.place j]?=aA j:=by
 unfold js at e;split at e
 ·rename_i j' d hp;have:=N9 hd _ _ rfl j' d hp;obtain⟨rfl,hn⟩:=this;simp at e;obtain⟨rfl,rfl⟩:=e;exact⟨rfl,hn⟩
 ·cases e
theorem E7{led:Bool}{t:dB}(h:Wn led t){j:Nat}(hj:¬t.place[ba t.place j]?=aA j):Wn led (t.put j).1:=by
 refine⟨GW h.rise hj,?_,h.led⟩;show(if dy t.dummies j=aD then _ else t.dummies) = #[];have hh:dy t.dummies j=aC:=by rw[h.dum];unfold dy;simp
 rw[hh];exact h.dum
theorem LJ{led:Bool}{t:dB}(h:Wn led t)(es:Array (Int×aJ))(hs:Int)(x:aJ):Wn led (oq t es hs x).2.1:=by
 unfold oq
 cases e:t.freeSlot hs with
 | none=>exact Vp h _
 | some jb=>
  obtain⟨j,b⟩:=jb;have:=E6 h.dum e;have tp:=E7 h this.2;show Wn led ((t.put j).1.orStandIn _);unfold m6;split
  ·exact tp
  ·exact Vp tp _
theorem IC{led:Bool}{t:dB}(h:Wn led t)(es:Array (Int×aJ))(n:Nat):Wn led (oP t es n).2.1:=by
 unfold oP
 cases e:t.relaid (es.map (·.1)) n with
 | none=>exact Vp h _
 | some to=>
  obtain⟨t',o⟩:=to;simp only;split
  ·show Wn led t';unfold dB.relaid mV at e;simp only[n9,mI,Option.bind_eq_some_iff,gR,o7] at e;obtain⟨ow,_,rfl,_⟩:=e;refine⟨?_,rfl,h.led⟩;show List.Pairwise (· < ·) (List.map _ _).toArray.toList;rw[List.toList_toArray,List.map_filterMap];refine List.Pairwise.filterMap (R:=(· < ·)) _ (λa a' haa b hb b' hb'=>?_) kf;simp at hb hb';omega
  ·exact Vp h _
end VL
set_option maxHeartbeats 3200000
namespace VL
open PySem PySem.Spec PyProof.Rows
section
variable {prog:bE} {w:bg} {A:bc} {E:aJ->aN->Prop} {s:aN}
def Ri(w:bg):Bool:=!w.params.followText "set-order"
def RV(w:bg):dX:={ cls:=.type "set",dict:=aB,data:=.set #[] 0 (.fresh 0 0 (Ri w)) }
theorem GX(v:aJ){Q:aJ->aN->Prop}(h:Q (.ref s.heap.objs.size) { s with heap:=s.heap.push (RV w) }) :
  gz (model prog w) A (.call (.builtin "set.__new__") ⟨[.type "set",v],[]⟩) (wants Q E) s:=by
 refine codeAny_of_tree ?_;refine aF (m:=checkBuiltinCall "set.__new__" ⟨[.type "set",v],[]⟩) (jm (F.newCall_set_1 v) (aP ⟨gv F.plain_set_new _,fC F.entry_set_new ?_⟩));rw[eB F.plain_set_new _];unfold ij.«set.__new__» oQ;have self:=sub_set_self;cases s;simp only
 wp_walk
 refine kU (aP ?_);simp only[newObj];exact aF (wpAny_alloc (aP (aP h)))
end
theorem Ma:∀{us:List aJ}{ns:List Int},ig us ns->us.length=ns.length
 | _,_,.nil=>rfl
 | _,_,.cons n t h=>by simp[Ma h]
end VL
namespace VL
open PySem PySem.W PyProof.Rows L2
theorem RK{α:Type}:∀{l:List α}{p:Nat}(h:p<l.length),(l[p]::l.eraseIdx p).Perm l
 | a::l,0,h=>je _
 | a::l,p+1,h=>by have:=RK (l:=l) (p:=p) (by simpa using h);simp only[List.getElem_cons_succ,List.eraseIdx_cons_succ];exact(List.Perm.swap _ _ _).trans (this.cons a)
theorem Jz{α:Type}(next:Nat->Nat):∀(fuel k:Nat)(left:List α)(out:Array α),left.length=fuel->∃l,(nO.go next fuel k left out).toList=out.toList++l/\l.Perm left
 | 0,k,left,out,h=>⟨[],by unfold nO.go;simp,by rw[fg.mp h]⟩
 | fuel+1,k,left,out,h=>by
  have hx:next k%left.length<left.length:=m7 _ (by omega)
  obtain⟨l,e1,e2⟩:=Jz next fuel (k+1) (left.eraseIdx (next k%left.length)) (out.push left[next k%left.length]) (by rw[List.length_eraseIdx_of_lt hx];omega)
  refine⟨left[next k%left.length]::l,?_,?_⟩
  ·unfold nO.go;rw[aG hx];simp only;rw[e1];simp
  ·exact(e2.cons _).trans (RK hx)
theorem ID{α:Type}(next:Nat->Nat)(xs:Array α):(nO next xs).toList.Perm xs.toList:=by
 obtain⟨l,e1,e2⟩:=Jz next xs.size 0 xs.toList #[] (by simp)
 unfold nO;rw[e1];simpa using e2
def Tr(w:bg)(a:aM)(ep:Nat)(es:Array (Int×aJ)):Array (Int×aJ):=if w.params.followText "set-order" = aD then nO (w.params.setOrder a ep) es else es
theorem Mb(w:bg)(a:aM)(ep:Nat)(es:Array (Int×aJ)):(Tr w a ep es).toList.Perm es.toList:=by
 unfold Tr;split
 ·exact ID _ _
 ·exact je _
theorem Sv(w:bg)(a:aM)(ep:Nat)(es:Array (Int×aJ)):(Tr w a ep es).size=es.size:=by have:=(Mb w a ep es).length_eq;simpa using this
def ND(w:bg)(t:dB)(i:Nat):Nat:=if w.params.followText "set-order" = aD then 0 else match i with
 | 0=>0
 | j+1=>t.place.getD j 0+1
def IsSetIter(h:bw)(it a:aM)(st i n ep:Nat):Prop:=∃o,h.get? it=aA o/\o.cls = .type "set_iterator"/\o.data = .fields #[.int st 0,.int i 0,.ref a,.int n 0,.int ep 0]
theorem slot_setit_next:Slot "set_iterator" "__next__" "set_iterator.__next__":=
 .of (owner:="set_iterator") (n:="__next__") (by rw[typeLookup_type,lK];kernel_rfl) (by decide +kernel) (by decide +kernel) (by decide +kernel)
  (by first | exact .inl (by decide +kernel) | exact .inr (by decide +kernel)) (by rw[l8];kernel_rfl)
theorem VH:entryFor table "set_iterator.__next__" = aA ij.«set_iterator.__next__»:=entryFor_of_tree (by kernel_rfl)
theorem RL:Manifest.owners.lookup (String.ofList ['r','o','t','a','r','e','t','i','_','t','e','s'].reverse)=aA Manifest.sig_set_iterator:=by kernel_rfl
theorem Uk(a:aJ):oR "set_iterator.__next__" ⟨[a],[]⟩:=by unfold oR;rw[signature?_of (id:="set_iterator.__next__") (n:=['_','_','t','x','e','n','_','_']) (o:=['r','o','t','a','r','e','t','i','_','t','e','s']) (by kernel_rfl) RL];kernel_rfl
theorem Ul:Slot "set_iterator" "__iter__" "set_iterator.__iter__":=
 .of (owner:="set_iterator") (n:="__iter__") (by rw[typeLookup_type,lK];kernel_rfl) (by decide +kernel) (by decide +kernel) (by decide +kernel)
  (by first | exact .inl (by decide +kernel) | exact .inr (by decide +kernel)) (by rw[l8];kernel_rfl)
theorem RW(a:aJ):oR "set_iterator.__iter__" ⟨[a],[]⟩:=by unfold oR;rw[signature?_of (id:="set_iterator.__iter__") (n:=['_','_','r','e','t','i','_','_']) (o:=['r','o','t','a','r','e','t','i','_','t','e','s']) (by kernel_rfl) RL];kernel_rfl
theorem QR:entryFor table "set.__iter__" = aA ij.«frozenset.__iter__»:=
 entryFor_alias (id':="frozenset.__iter__") (by kernel_rfl) rfl (by decide +kernel) (by kernel_rfl)
section
variable {prog:bE} {w:bg} {A:bc} {E:aJ->aN->Prop} {s:aN} {it a:aM} {i ep:Nat} {o:dX} {es:Array (Int×aJ)} {t:dB} {ks:List Nat}
theorem IsSetIter.typeIs{st i n ep:Nat}(x:IsSetIter s.heap it a st i n ep):s.TypeIs (.ref it) "set_iterator":=let⟨o,ho,hc,_⟩:=x;⟨o,ho,hc⟩
theorem IsSetIter.at{h h':bw}{st i n ep:Nat}(x:IsSetIter h it a st i n ep)(e:∀o,h.get? it=aA o->h'.get? it=aA o):IsSetIter h' it a st i n ep:=let⟨o,ho,r⟩:=x;⟨o,e _ ho,r⟩
theorem Rj{Q:Bool->aN->Prop}(h:Q (w.params.followText "set-order") s):ao (model prog w) A setsByText Q E s:=aF (kU (aP h))
theorem LK{st i n ep:Nat}{Q:aJ->aN->Prop}(hit:IsSetIter s.heap it a st i n ep)(h:Q (.ref it) s):ao (model prog w) A (kZ (.ref it)) Q E s:=by
 obtain⟨b,hb⟩:∃b,entryFor table "set_iterator.__iter__" = aA b/\∀(A:bc)(E:aJ->aN->Prop)(s:aN)(v:aJ)(Q:PySem.Fin->aN->Prop),Q (.done (.ret v)) s->ao (model prog w) A (b ⟨[v],[]⟩) Q E s:=
  ⟨ij.«dict_keyiterator.__iter__»,entryFor_alias (id':="dict_keyiterator.__iter__") (by kernel_rfl) rfl (by decide +kernel) (by kernel_rfl),λA E s v Q h=>by
   show ao _ _ (ret v) _ _ s;exact aP h⟩
 refine iP hit.typeIs Ul (cS Ul hit.typeIs hb.1 (hb.2 _ _ _ _ _ ?_) (RW _));exact⟨_,rfl,"set_iterator",_,hit.typeIs,slot_setit_next.lookup,h⟩
theorem GY{Q:Bool->aN->Prop}(hT:s.TypeIs (.ref a) "set")(h:Q aC s):ao (model prog w) A (jT (.ref a)) Q E s:=by
 unfold jT;refine aF (wpAny_specialOf hT PySem.F.slot_set_len.lookup ?_);generalize hid:("set.__len__" : String)=id0
 wp_delta
 rw[show splitId id0=aA ("set","__len__") from by subst hid;decide +kernel];subst hid;refine aF (kR (T:="set") (b:=aD) hT (by rw[l8];kernel_rfl) ?_);refine dD (λhab=>absurd hab (by decide)) (λ_=>?_);refine dD (λ_=>?_) (λhab=>absurd (by decide +kernel) hab);refine aF (wpAny_typeOf hT ?_);exact aP h
end
def IE:aJ->Int
 | .int n _=>n
 | _=>0
theorem Ox:∀{us:List aJ},(∀v∈us,∃n t,v=dN n t)->ig us (us.map IE)
 | [],_=>.nil
 | u::us,h=>by obtain⟨n,t,rfl⟩:=h u (by simp);exact .cons n t (Ox λv hv=>h v (by simp[hv]))
theorem Mc(ns:List Nat):(ns.map λ(k:Nat)=>V.int (k:Int))=(ns.map λ(k:Nat)=>(k:Int)).map V.int:=by rw[bQ];rfl
end VL
namespace VX
open PySem PySem.Spec PyProof.Rows L2
structure Eff(fs ch:List aM)(h h':bw):Prop where
 keep:∀b o,h.get? b=aA o->b∉ch->b∉fs->h'.get? b=aA o
 slot:∀b o,h.get? b=aA o->b∉ch->b∈fs->∃sl,h'.get? b=aA { o with slots:=sl }
 there:∀b o,h.get? b=aA o->∃o',h'.get? b=aA o'
theorem Eff.trans{fs ch:List aM}{h h1 h2:bw}(x:Eff fs ch h h1)(y:Eff fs ch h1 h2):Eff fs ch h h2:=
 ⟨λb o e hc hf=>y.keep b o (x.keep b o e hc hf) hc hf,λb o e hc hf=>by
  obtain⟨sl,e1⟩:=x.slot b o e hc hf;obtain⟨sl2,e2⟩:=y.slot b _ e1 hc hf
  exact⟨sl2,e2⟩,λb o e=>by
  obtain⟨o1,e1⟩:=x.there b o e;exact y.there b o1 e1⟩
theorem Eff.mono{fs ch ch':List aM}{h h':bw}(x:Eff fs ch h h')(hs:∀b∈ch,b∈ch'):Eff fs ch' h h':=
 ⟨λb o e hc hf=>x.keep b o e (λz=>hc (hs b z)) hf,λb o e hc hf=>x.slot b o e (λz=>hc (hs b z)) hf,x.there⟩
theorem Eff.field{fs:List aM}{h:bw}{a:aM}{o:dX}{vs:Array aJ}{f:Array aJ->Array aJ}(ha:h.get? a=aA o)(hd:o.data = .fields vs):Eff fs [a] h (h.update a (dC f)):=
  ⟨λb u e hc _=>by rw[bY _ _ (λz=>hc (by rw[z];exact .head _))];exact e,
   λb u e hc _=>⟨u.slots,by rw[bY _ _ (λz=>hc (by rw[z];exact .head _))];exact e⟩,
   λb u e=>by
    by_cases q:a=b
    · subst q;exact⟨_,cC _ ha (dQ (br hd f))⟩
    · exact⟨u,by rw[bY _ _ q];exact e⟩⟩
theorem Eff.funs{fs:List aM}{ch:List aM}{h h' base:bw}{l:List lP}(x:Eff fs ch h h')(hl:h.FunFrames base l)(hc:∀b∈ch,∀o,h.get? b=aA o->∃vs,o.data = .fields vs):h'.FunFrames base l:=
 hl.of_keeps λb o e hn=>by
  have hb:b∉ch:=λz=>by obtain⟨vs,q⟩:=hc b z o e;exact hn vs q
  by_cases hf:b∈fs
  ·obtain⟨sl,q⟩:=x.slot b o e hb hf;exact⟨_,q,rfl⟩
  ·exact⟨o,x.keep b o e hb hf,rfl⟩
section
variable {M:Model} {A:bc} {E:aJ->aN->Prop} {s:aN}
theorem QS{base:bw}{env:lP}{outer:List lP}{L e:aM}{oe:dX}{vs:Array aJ}{head:aJ}{hadNext:Bool}{Q:Unit->aN->Prop}
  (hfr:A.frames=aA (env::outer)) (hl:s.heap.FunFrames base (env::outer)) (hf:env.frame=aA L)
  (he:s.heap.get? e=aA oe) (hd:oe.data = .fields vs) (hsz:1<vs.size)
  (h:∀h' T,s.heap.objs.size<=T->h'.get? e=aA (oe.mapFields (·.setIfInBounds 1 (.ref T)))->(∃oT ts,h'.get? T=aA oT/\oT.data = .fields ts/\ts[3]?=aA (dm L))->Eff ((env::outer).filterMap (·.frame)) [e] s.heap h'->Q () { s with heap:=h' }) :
  ao M A (do let a <-frameOf env;let pl <-entryPlaceOf L hadNext;let b <-mJ head a .none (dm L) .none pl;setField (.ref e) 1 b) Q E s:=by
 have hene:e∉(env::outer).filterMap (·.frame):=λhm=>by obtain⟨_,o,ho,hnf⟩:=hl.mem hm;rw[he] at ho;injection ho with ho;subst ho;exact hnf vs hd
 refine aF (wpAny_frameOf_fun hfr hl hf λh₁ hs₁=>?_);refine aF (wpAny_entryPlaceOf λpl hpl=>?_);unfold mJ newFields;refine aF (bh ?_ (hpl.sizeOk5 _ _ _ _ _));have he₁:h₁.get? e=aA oe:=(hs₁.2.1 e hene).trans he;have he₂:=aO (h:=h₁) { cls:=.type "traceback",dict:=aB,data:=.fields ([head,.ref L,.none,dm L,.none]++(if pl.isEmpty then aK 6 bj else pl)).toArray } he₁;have hsize:h₁.objs.size=s.heap.objs.size:=hs₁.1;have p1:=cC (dC (·.setIfInBounds 1 (b7 h₁.objs.size))) he₂ (dQ (br hd _))
 have p2:=(bY (h₁.push { cls:=.type "traceback",dict:=aB,data:=.fields ([head,.ref L,.none,dm L,.none]++(if pl.isEmpty then aK 6 bj else pl)).toArray })
  (dC (·.setIfInBounds 1 (b7 h₁.objs.size))) (bH (aW he₁))).trans (aj h₁ rfl)
 have p3:Eff ((env::outer).filterMap (·.frame)) [e] s.heap ((h₁.push { cls:=.type "traceback",dict:=aB,data:=.fields ([head,.ref L,.none,dm L,.none]++(if pl.isEmpty then aK 6 bj else pl)).toArray }).update e (dC (·.setIfInBounds 1 (b7 h₁.objs.size)))):=
  Eff.trans (h1:=h₁) ⟨λb o q _ hb=>(hs₁.2.1 b hb).trans q,λb o q _ _=>hs₁.2.2 b o q,λb o q=>by obtain⟨sl,z⟩:=hs₁.2.2 b o q;exact⟨_,z⟩⟩ (Eff.trans (h1:=h₁.push _) ⟨λb o q _ _=>aO _ q,λb o q _ _=>⟨o.slots,aO _ q⟩,λb o q=>⟨o,aO _ q⟩⟩ (Eff.field he₂ hd))
 refine df he₂ hd hsz (h _ h₁.objs.size (by omega) p1 ⟨_,_,p2,rfl,?_⟩ p3);simp
def Bh(h:bw)(e:aM)(cls:aJ)(dd:Option aM):Prop:=∃oe vs,h.get? e=aA oe/\oe.cls=cls/\oe.dict=dd/\oe.data = .fields vs/\vs[1]?=aA .none
def E8(h:bw)(e:aM)(cls:aJ)(dd:Option aM)(T:aM)(fl:aJ):Prop:=
 ∃oe vs oT ts,h.get? e=aA oe/\oe.cls=cls/\oe.dict=dd/\oe.data = .fields vs/\vs[1]?=aA (.ref T)/\T≠e/\h.get? T=aA oT/\oT.data = .fields ts/\ts[3]?=aA fl
theorem UP(o:dX)(f:Array aJ->Array aJ):(o.mapFields f).dict=o.dict:=by
 unfold dC;split<;>rfl
variable {base:bw} {env:lP} {outer:List lP} {L e T:aM} {cls fl:aJ} {dd:Option aM} {Q:Unit->aN->Prop}
theorem AG(hfr:A.frames=aA (env::outer))(hl:s.heap.FunFrames base (env::outer))(hf:env.frame=aA L)(x:Bh s.heap e cls dd)
  (h:∀h' T,s.heap.objs.size<=T->E8 h' e cls dd T (dm L)->Eff ((env::outer).filterMap (·.frame)) [e] s.heap h'->Q () { s with heap:=h' }):ao M A (kQ (.ref e) env) Q E s:=by
 obtain⟨oe,vs,he,hc,hdd,hd,h1⟩:=x;unfold kQ;simp only[hf];refine aF (eQ he hd h1 ?_);rw[pE (by decide)];have hsz:=(cT.mp h1).1;refine QS hfr hl hf he hd hsz λh' T hT p1 ⟨oT,ts,p2,p3,p4⟩ p5=>h h' T hT ⟨_,_,oT,ts,p1,(fG _ _).trans hc,(UP _ _).trans hdd,br hd _,by simp[hsz],?_,p2,p3,p4⟩ p5;exact g9 (ar (aW he) hT)
theorem AH(hfr:A.frames=aA (env::outer))(hl:s.heap.FunFrames base (env::outer))(hf:env.frame=aA L)(x:E8 s.heap e cls dd T .none)
  (h:∀h' T',s.heap.objs.size<=T'->E8 h' e cls dd T' (dm L)->Eff ((env::outer).filterMap (·.frame)) [e,T] s.heap h'->Q () { s with heap:=h' }):ao M A (kQ (.ref e) env) Q E s:=by
 obtain⟨oe,vs,oT,ts,he,hc,hdd,hd,h1,hTe,hT,hdT,h3⟩:=x;unfold kQ;simp only[hf];refine aF (eQ he hd h1 ?_);rw[pC (show(b7 T != bj)=aD from by simp)];refine aF (eQ hT hdT h3 ?_);rw[pE (show ¬((bj==dm L)=aD) from by simp[dm])];refine aF (df hT hdT (cT.mp h3).1 ?_);have hsz:=(cT.mp h1).1;have ef:Eff ((env::outer).filterMap (·.frame)) [T] s.heap (s.heap.update T (dC (·.setIfInBounds 3 bj))):=Eff.field hT hdT;have hl':=ef.funs hl (λb hb o q=>by rw[aQ.mp hb,hT] at q;cases q;exact⟨_,hdT⟩);have he':=(bY s.heap (dC (·.setIfInBounds 3 bj)) hTe).trans he;have hz:(s.heap.update T (dC (·.setIfInBounds 3 bj))).objs.size=s.heap.objs.size:=by simp
 refine QS (s:={ s with heap:=s.heap.update T (dC (·.setIfInBounds 3 bj)) }) hfr hl' hf he' hd hsz λh' T' hT' p1 ⟨oT',ts',p2,p3,p4⟩ p5=>h h' T' (by rw[<-hz];exact hT') ⟨_,_,oT',ts',p1,(fG _ _).trans hc,(UP _ _).trans hdd,br hd _,by simp[hsz],?_,p2,p3,p4⟩ ?_
 ·have hT':(s.heap.update T (dC (·.setIfInBounds 3 bj))).objs.size<=T':=hT';rw[hz] at hT';exact g9 (ar (aW he) hT')
 ·exact(ef.mono λb hb=>by simp at hb;simp[hb]).trans (p5.mono λb hb=>by simp at hb;simp[hb])
theorem LL(x:E8 s.heap e cls dd T fl){fs:List aM}(h:∀h',E8 h' e cls dd T .none->Eff fs [T] s.heap h'->h'.objs.size=s.heap.objs.size->Q () { s with heap:=h' }):ao M A (setFlight (.ref e) aB) Q E s:=by obtain⟨oe,vs,oT,ts,he,hc,hdd,hd,h1,hTe,hT,hdT,h3⟩:=x;have hsz:=(cT.mp h3).1;unfold setFlight;refine aF (eQ he hd h1 ?_);rw[pC (show(b7 T != bj)=aD from by simp)];refine df hT hdT hsz (h _ ⟨oe,vs,_,_,(bY _ _ hTe).trans he,hc,hdd,hd,h1,hTe,cC _ hT (dQ (br hdT _)),br hdT _,by simp[hsz]⟩ (Eff.field hT hdT) (by simp))
theorem GZ(hfr:A.frames=aA (env::outer))(hl:s.heap.FunFrames base (env::outer))(hf:env.frame=aA L)(x:Bh s.heap e cls dd)
  (h:∀h' T,s.heap.objs.size<=T->E8 h' e cls dd T .none->Eff ((env::outer).filterMap (·.frame)) [e] s.heap h'->Q () { s with heap:=h' }):ao M A (leaving env (.ref e)) Q E s:=by
 unfold leaving;refine aF (AG hfr hl hf x λh1 T hT x1 e1=>?_);refine LL x1 (fs:=(env::outer).filterMap (·.frame)) λh2 x2 e2 _=>h h2 T hT x2 ?_;have nT:∀b o,s.heap.get? b=aA o->b≠T:=λb o q z=>by subst z;exact cU _ (ar (aW q) hT)
 exact⟨λb o q hc hf=>e2.keep b o (e1.keep b o q hc hf) (by simpa using nT b o q) hf,λb o q hc hf=>by
  obtain⟨sl,q1⟩:=e1.slot b o q hc hf;obtain⟨sl2,q2⟩:=e2.slot b _ q1 (by simpa using nT b o q) hf
  exact⟨sl2,q2⟩,λb o q=>by
  obtain⟨o1,q1⟩:=e1.there b o q;exact e2.there b o1 q1⟩
end
section
variable {P:bE} {w:bg} {fs ch:List aM} {H:Hp} {h h':bw}
theorem JA(x:HOk P w H h)(e:Eff fs ch h h')(hc:∀b∈ch,H b=aB)(hf:∀b∈fs,H b=aB):HOk P w H h':=λa o ha=>
 (x a o ha).stay (λb u hb q=>by
  have hb':∃o',H b=aA o':=by
   rcases hb with z | z
   ·exact⟨o,by rw[z];exact ha⟩
   ·exact⟨_,z⟩
  obtain⟨o',hb'⟩:=hb';exact e.keep b u q (λz=>by rw[hc b z] at hb';cases hb') (λz=>by rw[hf b z] at hb';cases hb')) (λ_ q=>q) (λ_ _ q=>q) λ_ _ q=>q
end
def Fl(H':Hp)(h0 h:bw)(e:aM)(cls:aJ)(dd:Option aM):Prop:=∃T,E8 h e cls dd T .none/\H' e=aB/\H' T=aB/\h0.get? e=aB/\h0.get? T=aB
def BO(P:bE)(w:bg):Ei:=λouter H s E v s'=>
 ∃e cls dd H',v = .ref e/\s'.os=s.os/\jl s'.gens/\Un (OH outer) [] H H' s.heap s'.heap/\HOk P w H' s'.heap/\Fl H' s.heap s'.heap e cls dd/\E cls dd H'
section
variable {X:Cx} {du:List (aM×dX)} {Z:L2.St} {H:Hp} {s:aN} {e:aM} {cls:aJ} {dd:Option aM} {E:XK}
structure G0(X:Cx)(E:XK):Prop where
 stk:X.stack=X.env::X.outer
 fr:X.env.frame=aA X.env.locals
 ex:X.ex=[]
 xe:X.xe=λv s'=>ao (model X.prog X.w) X.A (leaving X.env v) (λ_ s''=>BO X.prog X.w X.outer X.H₀ X.s₀ E v s'') (λv' s''=>BO X.prog X.w X.outer X.H₀ X.s₀ E v' s'') s'
theorem IF(D:G0 X E)(I:Inv X du Z H s){ch:List aM}{h':bw}{T:aM}(hT:X.s₀.heap.get? T=aB)(he:X.s₀.heap.get? e=aB)(hH:H e=aB)(hHT:H T=aB)(hc:∀b∈ch,H b=aB/\X.s₀.heap.get? b=aB)(x:E8 h' e cls dd T .none)
  (ef:Eff ((X.env::X.outer).filterMap (·.frame)) ch s.heap h') (q:E cls dd H):BO X.prog X.w X.outer X.H₀ X.s₀ E (.ref e) { s with heap:=h' }:=by
 have hf:∀b∈(X.env::X.outer).filterMap (·.frame),H b=aB:=λb hb=>by have:=I.stkFree b;rw[D.stk] at this;exact this hb
 refine⟨e,cls,dd,H,rfl,I.os,I.bare,?_,JA I.hok ef (λb hb=>(hc b hb).1) hf,⟨T,x,hH,hHT,he,hT⟩,q⟩;have ub:=I.base;have lt:∀b o,X.s₀.heap.get? b=aA o->b∉ch:=λb o z hb=>by rw[(hc b hb).2] at z;cases z
 have nL:∀b o,X.s₀.heap.get? b=aA o->b≠X.env.locals:=λb o z hb=>by subst hb;exact cU _ (ar (aW z) I.ok.above)
 have mem:∀b o,X.s₀.heap.get? b=aA o->(b∈(X.env::X.outer).filterMap (·.frame)↔b∈OH X.outer):=λb o z=>by rw[kA D.fr,a9];exact⟨λh=>h.elim (λq=>absurd q (nL b o z)) λq=>q,.inr⟩
 have nex:∀b:aM,b∉X.ex:=λb z=>by rw[D.ex] at z;simp at z
 refine⟨λb o z n hb _=>?_,λb o z n hb _=>?_,λb o z n _=>ub.free b o z n (nex b),λb o z _=>?_,ub.tups,ub.frzs,ub.tbls⟩
 ·exact ef.keep b o (ub.keep b o z n hb (nex b)) (lt b o z) (λq=>hb ((mem b o z).mp q))
 ·obtain⟨sl,z1⟩:=ub.slot b o z n hb (nex b);obtain⟨sl2,z2⟩:=ef.slot b _ z1 (lt b o z) ((mem b o z).mpr hb);exact⟨sl2,z2⟩
 ·obtain⟨o1,z1⟩:=ub.there b o z (nex b);exact ef.there b o1 z1
theorem Bi(D:G0 X E)(I:Inv X du Z H s)(x:Bh s.heap e cls dd)(he:X.s₀.heap.get? e=aB)(hH:H e=aB)(q:E cls dd H):X.xe (.ref e) s:=by rw[D.xe];have hst:=I.stack;rw[D.stk] at hst;have hfr:=I.ok.frames;rw[D.stk] at hfr;refine GZ hfr hst D.fr x λh' T hT x' ef=>?_;exact IF D I (jA (cu I.sz hT)) he hH (I.hok.fresh hT) (λb hb=>by rw[aQ.mp hb];exact⟨hH,he⟩) x' ef q
theorem E9{P:bE}{w:bg}{K:aI}{mg:ah->Option aJ}{base:bw}{N:List ah}{qual:ah}{scope:gk}{f:aM}{cd:aJ}{A:bc}{outer:List lP}{s:aN}{H:Hp}{E:XK} :
  G0 (Qe (BO P w) P w K mg base N qual scope f cd A outer s H E) E:=⟨rfl,rfl,rfl,rfl⟩
end
theorem Bj{K:aI}{h:bw}{C:aM}{bmB:List aJ}{newId:String}(X:K.In h)(q:gw K C bmB newId=aD) :
  ∃bm N nm qn bs hdct sn sub ab col dd k0 k1 k2 k3 k5 mN,h.get? C=aA (jG nm qn C N bs bm hdct sn sub ab col dd k0 k1 k2 k3 k5 newId)/\h.Ns N mN/\mN "__init__" = aB/\OwnTail h bmB bm:=by
 unfold gw at q;split at q
 ·rename_i dd cd sl ho;split at q
  ·rename_i C' bm k0 k1 k2 k3 n k5 hm hs;simp only[ak,beq_iff_eq,gU] at q;obtain⟨⟨⟨⟨⟨rfl,rfl⟩,hdel⟩,ht⟩,hok⟩,hni⟩:=q;obtain⟨nm,bs,mro,ns,qn,hd,sn,sub,ab,col,del⟩:=cd
   dsimp only at hm hdel hok hni
   subst hm hdel;have hsl:sl = #[k0,k1,k2,k3,aA (.builtin n),k5]:=by obtain⟨l⟩:=sl;simp only at hs;rw[hs]
   subst hsl;exact⟨bm,ns,nm,qn,bs,hd,sn,sub,ab,col,dd,k0,k1,k2,k3,k5,_,X _ _ ho,.of_isNs (PySem.W.isNs_of_in X hok),PySem.W.nsMap_none_of_in X hok hni,PySem.W.tail_of_in X ht⟩
  ·cases q
 ·cases q
theorem IG{P:bE}{w:bg}{H:Hp}{h:bw}{a:aM}{o:HO}(x:ObjOk P w H h a o):∃ob,h.get? a=aA ob:=by
 cases o with
 | lst xs=>obtain⟨_,_,_,_,e⟩:=x;exact⟨_,e⟩
 | tup xs=>obtain⟨_,_,_,p⟩:=x;obtain⟨ob,e,_⟩:=p;exact⟨_,e⟩
 | dK oy=>obtain⟨_,_,_,_,o,_,_,e,_⟩:=x;exact⟨_,e⟩
 | dT oy=>obtain⟨_,_,_,_,o,_,_,e,_⟩:=x;exact⟨_,e⟩
 | set S n=>obtain⟨o,_,_,_,e,_⟩:=x;exact⟨_,e⟩
 | ins C dx fs=>obtain⟨_,_,_,e,_⟩:=x;exact⟨_,e⟩
 | own y=>exact x
 | xd fs=>obtain⟨_,⟨_,_,_,e,_⟩,_⟩:=x;exact⟨_,e⟩
 | rng lo hi=>obtain⟨_,_,_,e⟩:=x;exact⟨_,e⟩
 | frz ob u=>exact⟨_,x.1⟩
 | tbl ps=>obtain⟨_,_,_,_,e,_⟩:=x;exact⟨_,e⟩
 | met f y=>exact⟨_,x⟩
 | ext φ=>exact x.2.1
section
variable {X:Cx} {E:XK} {C:aM} {bmB:List aJ} {B newId initId:String} {x:ah} {np p6 pos:fN} {a:bK} {ta:TE}
theorem G1(F:ExcBaseFacts B newId initId bmB)(hq:gw X.K C bmB newId=aD)(hg:Gl X x)(hm:X.mg x=aA (.ref C))(hcalm:X.calm=aD)(DX:G0 X E)(ha:PE X a ta)
  (hdb:(x==("__debug__" : ah))=aC:=by decide) (he:aR [a] X.env=(aC,eval a X.env)::aR [] X.env:=by rfl):PS X (.Raise (aA (.Call (.Name x np) [a] [] p6)) aB pos) (λ_ Z H=>ta Z H λv H1=>[v].length=1/\E (.ref C) aB H1):=by
 intro du s Z H D I h;have X0:X.K.In X.base:=I.ok.mod.kin;obtain⟨bm,N,nm,qn,bs,hdct,sn,sub,ab,col,dd,k0,k1,k2,k3,k5,mN,hC,hN,hni,TL⟩:=Bj X0 hq;refine wpAny_Raise_call_subT (nm:=nm) (q:=qn) (N:=N) (bs:=bs) (hdct:=hdct) (sn:=sn) (sub:=sub) (ab:=ab) (col:=col) (dd:=dd) (k0:=k0) (k1:=k1) (k2:=k2) (k3:=k3) (k5:=k5) F (mN:=mN) (TL.hasType F.hasBase) (I.ok.hd hcalm) (by rw[he];rfl) hni (UY I hg hm ⟨rfl,?_⟩ hdb);have pa:PA X [a] (RE ta J6):=ZW ha YU (hs:=he)
 have key:ao (model X.prog X.w) X.A (spliced (cw p6 (aR [a] X.env))) (λus s₂=>us.length<=sizeLine/\s₂.heap.get? C=aA (jG nm qn C N bs bm hdct sn sub ab col dd k0 k1 k2 k3 k5 newId)/\s₂.heap.Ns N mN/\OwnTail s₂.heap bmB bm/\
    ∀h' e,bw.MadeExcOf s₂.heap h' e (.ref C) us->X.xe (.ref e) { s₂ with heap:=h' }) X.xe s:=by
  refine Yo (pa p6 du s Z H (λvs H1=>vs.length=1/\E (.ref C) aB H1) I h) λus s₂ ⟨vs,H1,I1,r,hl,q⟩=>?_;have lu:us.length=1:=by rw[<-r.length];exact hl
  refine⟨by rw[lu];decide,I1.bk _ _ hC,hN.keeps I1.bk,TL.keeps I1.bk,λh' e hm=>?_⟩;have I2:Inv X du Z H1 { s₂ with heap:=h' }:=I1.kept (t':=s₂.toks) hm.keeps;obtain⟨t,ht,_,_⟩:=hm.there;refine Bi DX I2 ⟨_,_,ht,rfl,rfl,rfl,rfl⟩ ?_ ?_ q
  ·cases z:X.s₀.heap.get? e with
   | none=>rfl
   | some o=>
    obtain⟨o',z'⟩:=I1.base.there e o z (by rw[DX.ex];simp);rw[hm.new] at z';cases z'
  ·cases z:H1 e with
   | none=>rfl
   | some o=>
    obtain⟨o',z'⟩:=IG (I1.hok e o z);rw[hm.new] at z';cases z'
 rw[he] at key ⊢;exact lX (cH key (λus s₂ h2=>⟨rfl,h2⟩) λ_ _ z=>z)
end
theorem IH(is:List Int):kz (is.map fR)=is.map λi=>cP (toString i):=by
 induction is with
 | nil=>rfl
 | cons i r ih=>rw[aZ,kz,ih];rfl
theorem Nf{is:List Int}(h:∀i∈is,i.natAbs.log2<1920):m8 (is.map fR)=aD:=by
 induction is with
 | nil=>rfl
 | cons i r ih=>
  rw[aZ,m8,ih λj hj=>h j (by simp[hj])];simp[PyData.showable,h i (by simp)]
theorem LM(is:List Int):jt (is.map fR)=aC:=by
 induction is with
 | nil=>rfl
 | cons i r ih=>rw[aZ,jt,ih];rfl
theorem Oy{h:bw}:∀{is:List Int}{us:List aJ},Vals (is.map V.int) us->ReadsAll h us (is.map fR) []
 | [],_,.nil=>.nil
 | i::r,_,.cons h1 h2=>by obtain⟨t,rfl⟩:=h1;exact ReadsAll.cons (as:=[]) (bs:=[]) (.int i t) (Oy h2)
theorem II(is:List Int):ng (is.map fR)<=1:=by
 induction is with
 | nil=>decide
 | cons i r ih=>
  rw[aZ,ng];simp[nB];omega
end VX
namespace VX
open PySem PySem.Spec PyProof.Rows L2 VL
abbrev XR:=ZJ->Option ah
def tFX(K:aI)(O:List Nat)(fx:XR)(E:XK):TS:=λ_ Z H=>∃H0 fps s n,Rel K O H0 fps s Z H/\fx s=aA n/\∀C H',cB K bJ n=aA (aA (.ref C))->Same H0 H'->E (.ref C) aB H'
def VX(X:Cx)(O:List Nat)(E:XK)(st:cO)(fx:XR):Prop:=PS X st (tFX X.K O fx E)
def Bk(X:Cx)(O:List Nat)(E:XK)(st:List cO)(fx:XR):Prop:=PSs X st (tFX X.K O fx E)
def rMsg(n:ah)(f:XE):XR:=λs=>match f s with
 | some (.lst l)=>(match YD l with
  | some is=>if is.length<=100/\∀i∈is,i.natAbs.log2<1920 then aA n else aB
  | none=>aB)
 | _=>aB
def AI(fc:XT)(f g:XR):XR:=λs=>(fc s).bind λc=>if c=aD then f s else g s
def Md(f1:XR)(f:XS)(g:XR):XR:=λs=>match f1 s with
 | some c=>aA c
 | none=>(match f s with
  | some (.nx s')=>g s'
  | _=>aB)
def Bl:XR:=λ_=>aB
section
variable {X:Cx} {O W:List Nat} {E:XK} {C:aM} {bmB:List aJ} {B newId initId:String} {x y:ah} {np p6 pos p1 p2 p3:fN} {jj k:Nat} {e:bK} {f:XE}
variable {st:cO} {Zt a b:List cO} {c:bK} {fc:XT} {f1 g1:XR} {fs:XS}
theorem AJ:VX X O E st Bl:=λdu s Z H D I ⟨_,_,_,_,_,e,_⟩=>by cases e
theorem Bm:Bk X O E Zt Bl:=λdu s Z H D I ⟨_,_,_,_,_,e,_⟩=>by cases e
theorem AK(hc:VT X c fc)(ha:Bk X O E a f1)(hb:Bk X O E b g1):VX X O E (.If c a b pos) (AI fc f1 g1):=PS.imp (DO hc ha hb) λD Z H ⟨H0,fps,s,cls,r,e,q⟩=>by
 obtain⟨d,e1,e⟩:=Ze e;refine⟨λ_=>False,s,d,λ_ z=>z.elim,r.env,e1,λH1 s1=>?_⟩
 cases d with
 | true=>rw[pC rfl] at e ⊢;exact⟨H0,fps,s,cls,r.grow s1,e,q⟩
 | false=>rw[pE aw] at e ⊢;exact⟨H0,fps,s,cls,r.grow s1,e,q⟩
theorem JB(h:VX X O E st f1):Bk X O E [st] f1:=KO h
theorem IJ{t:TS}(h1:PS X st t)(hx:∀D D' Z H,t D Z H->t D' Z H):PSs X (st::Zt) (λ_ Z H=>t { nx:=λ_ _=>False,rt:=λ_ _=>False } Z H):=by
 intro du s Z H D I h;refine iX (Yo (h1 du s Z H { nx:=λ_ _=>False,rt:=λ_ _=>False } I h) λf s1 q=>?_)
 cases f with
 | next=>obtain⟨_,_,_,z⟩:=q;exact z.elim
 | ret u=>obtain⟨_,_,_,_,_,z⟩:=q;exact z.elim
 | brk=>obtain⟨_,_,_,z⟩:=q;exact z.elim
 | cont=>obtain⟨_,_,_,z⟩:=q;exact z.elim
theorem G3(h1:VX X O E st f1)(hs:VS X O W st fs)(h2:Bk X O E Zt g1):Bk X O E (st::Zt) (Md f1 fs g1):=by
 intro du s Z H D I ⟨H0,fps,sp,cls,r,e,q⟩;unfold Md at e;split at e
 ·rename_i c hc;cases e;exact IJ h1 (λ_ _ _ _ z=>z) du s Z H D I ⟨H0,fps,sp,_,r,hc,q⟩
 ·split at e
  ·rename_i s' hf;refine NI hs h2 du s Z H D I ⟨H0,fps,sp,.nx s',r,hf,λp7 Z' H' r' _=>?_⟩;exact⟨H0,p7,s',cls,r',e,q⟩
  ·cases e
end
def spX(K:aI)(R:List PV->Option ah)(n:Nat):Sp:=λvs H _ E=>vs.length=n/\∃ls fp nm,Iss K H ls vs fp/\R ls=aA nm/\∀C H',cB K bJ nm=aA (aA (.ref C))->Same H H'->E (.ref C) aB H'
def AL(m:Nat)(fx:XR):List PV->Option ah:=λls=>fx (Y9 m ls)
structure CalX(P:bE)(w:bg)(K:aI)(mg:ah->Option aJ)(base:bw)(x:ah)(ps:List ah)(sp:Sp)(k:Nat):Prop where
 ex:∃f fd,mg x=aA (.ref f)/\gX K (.ref f)=aD/\Binds K fd ps []/\SV P w K mg base (BO P w) k f fd ps sp
section
variable {K:aI} {P:bE} {w:bg} {mg:ah->Option aJ} {base:bw}
open Classical in
theorem Bn{N:List ah}{O:List Nat}{n:Nat}{fx:XR}{vs:List V}{H:Hp}{Q:VK}{E:XK}{D:Uo}(hO:∀i∈O,n<=i)(h:spX K (AL N.length fx) n vs H Q E):tFX K O fx E D (L2.start N vs) H:=by
 obtain⟨hl,ls,fp,cls,hi,e,q⟩:=h;obtain⟨H0,fps,s,out,r,e1,k⟩:=O4 (N:=N) (n:=n) (O:=O) (W:=[]) (f:=λs=>if s=Y9 N.length ls then aA (.rt .non) else aB) (vs:=vs) (H:=H) (Q:=λ_ H'=>Same H H') (E:=λ_ _ _=>True) hO ⟨hl,ls,fp,.non,hi,by unfold Xi;simp[Xa],λ_ H' _ sm _ _ _=>sm⟩;simp only at e1;split at e1
 ·rename_i hs;cases e1;subst hs;exact⟨H0,fps,_,cls,r,e,λC H' hc sm=>q C H' hc (k .non [] H' sm Is.non cM λp hp=>by simp at hp)⟩
 ·cases e1
theorem def_x{x:ah}{st:cO}{N ps:List ah}{k n:Nat}{O:List Nat}(m:Nat)(fx:XR)(D:Def K mg x st)(S:Zz N ps (Zm st))
  (hb:∀(kV doc pm:aJ)(an:Option aM)(cdv ct:aJ)(us:List aJ),us.length=ps.length->kN (dw x x (XY st) (YV st) (Zm st) .none kV doc pm an cdv ct) ⟨us,[]⟩=pure (ps.zip us))
  (hn:ps.length=n) (hm:N.length=m) (hO:∀i∈O,n<=i)
  (hbody:∀(fa:aM)(cdv:aJ)(A:bc)(outer:List lP)(s:aN)(H:Hp)(E:XK),Room k (A.deeper (jL x (Zm st) s.heap.objs.size fa cdv))->Bk (Qe (BO P w) P w K mg base N x (Zm st) fa cdv A outer s H E) O E (YV st) fx) :
  CalX P w K mg base x ps (spX K (AL m fx) n) (k+1):=by
 subst hm;obtain⟨f,fd,hm,F⟩:=D.ex;refine⟨f,fd,hm,F.kp,F.binds hb,?_⟩;obtain⟨oc,od,kV,doc,pm,an,cdv,ct,osl,rfl,lk,hcd⟩:=F.ex;exact DU lk hcd S (λvs H Q E h=>by rw[hn];exact h.1) λA outer s H vs Q E hr hsp=>⟨_,hbody f cdv A outer s H E hr,Bn hO hsp⟩
end
section
variable {X:Cx} {du:List (aM×dX)} {Z:L2.St} {H:Hp} {s:aN}
theorem IK{A:bc}{E:aJ->aN->Prop}{i:Nat}{n:ah}{pos:fN}{Q:Unit->aN->Prop}(I:Inv X du Z H s)(hN:X.N.Nodup)(hi:X.N[i]?=aA n)(hk:X.env.scope.names.lookup n=aA .local)
  (h:∀s',Inv X du (Z.set i aB) H s'->Q () s'):ao (model X.prog X.w) A (do bindName X.env n .none;jH X.env n pos) Q E s:=by
 refine aF (wpAny_bindName (Ut I hN hi (.inl hk) (v:=.non) (u:=bj) rfl (λs1 I1=>?_) (.inr hk)));unfold jH;refine wpAny_onRaise ?_;have hcls:(X.env.scope.kind==.class || (X.env.scope.kind==.module&&X.env.locals != X.env.globals))=aC:=by rw[I.ok.kind];rfl
 have hiZ:i<Z.length:=by rw[I.len];exact(aX.mp hi).1
 obtain⟨m,hn,hl⟩:=id I1.loc;obtain⟨u,ru,lk⟩:=hl i n .non hi (by rw[dZ hiZ]) (.inl hk);have hkl:X.env.kindOf n=aA .local:=hk
 have hv:m n=aA u:=by
  rcases lk with⟨_,z⟩ | ⟨z,_⟩
  ·exact z
  ·rw[hkl] at z;rcases z with z | z<;>cases z
 have cne:=I1.cne;refine wpAny_unbindName_local hkl hn hv hcls λh' u' hn' hs=>h _ ?_;obtain⟨oL,_,_,hoL,_⟩:=id hn;refine⟨I1.ok,I1.os,I1.bare,⟨λb o e n hb hx=>?_,λb o e n hb hx=>?_,I1.base.free,λb o e hx=>?_,I1.base.tups,I1.base.frzs,I1.base.tbls⟩,⟨_,hn',λj y v' e1 e2 e3=>?_⟩,λy c e=>?_,I1.free,I1.freeC,λp hp=>?_,λb ob e=>?_,by have:=I1.len;simpa using this⟩
 ·exact(hs.2 b (bH (ar (aW e) I1.ok.above))).trans (I1.base.keep b o e n hb hx)
 ·obtain⟨sl,e1⟩:=I1.base.slot b o e n hb hx;exact⟨sl,(hs.2 b (bH (ar (aW e) I1.ok.above))).trans e1⟩
 ·obtain⟨o',e1⟩:=I1.base.there b o e hx;exact⟨o',(hs.2 b (bH (ar (aW e) I1.ok.above))).trans e1⟩
 ·by_cases hj:j=i
  ·subst hj;rw[dZ hiZ] at e2;cases e2
  ·have e2':(Z.set i (aA V.non))[j]?=aA (aA v'):=by rw[cX (cY hj)] at e2 ⊢;exact e2
   obtain⟨u2,r2,q⟩:=hl j y v' e1 e2' e3;refine⟨u2,r2,?_⟩;rcases q with⟨k,e⟩ | ⟨k,c,e,z⟩
   ·refine .inl ⟨k,?_⟩;have:y≠n:=λe=>hj (Qb hN e1 (e▸hi));simp[this,e]
   ·exact .inr ⟨k,c,e,z.sameBut hs (cne y c e)⟩
 ·obtain⟨w',z⟩:=I1.cell y c e;exact⟨w',z.sameBut hs (cne y c e)⟩
 ·obtain⟨e,n,ne,nf,d⟩:=I1.pin p hp;exact⟨(hs.2 p.1 ne).trans e,n,ne,nf,d⟩
 ·refine(I1.hok b ob e).stay (λc w' hc q=>(hs.2 c ?_).trans q) (λ_ q=>q) (λ_ _ q=>q) λ_ _ q=>q;rintro rfl;have hf:=I1.free;rcases hc with rfl | hc
  ·rw[hf] at e;cases e
  ·rw[hf] at hc;cases hc
abbrev Cx.mark(X:Cx)(e:aM):Cx:={ X with A:=X.A.mark (aA (.ref e)),calm:=aC,xe:=λ_ _=>False }
theorem Me{e:aM}(I:Inv X du Z H s):Inv (Cx.mark X e) du Z H s:=
 ⟨⟨I.ok.mod,I.ok.kind,I.ok.glob,I.ok.blt,I.ok.above,I.ok.inj,I.ok.has,I.ok.cab,(λz=>by cases z),I.ok.frames,I.ok.stk,I.ok.exf,I.ok.bs,I.ok.bsz,I.ok.noex,I.ok.exfs,I.ok.funs,I.ok.frf,I.ok.tab,I.ok.cod⟩,I.os,I.bare,I.base,I.loc,I.cell,I.free,I.freeC,I.pin,I.hok,I.len⟩
theorem LN{e:aM}(ok:X.Ok)(I:Inv (Cx.mark X e) du Z H s):Inv X du Z H s:=
 ⟨ok,I.os,I.bare,I.base,I.loc,I.cell,I.free,I.freeC,I.pin,I.hok,I.len⟩
def Bo(X:Cx)(du:List (aM×dX))(b:aM):Prop:=X.s₀.heap.get? b=aB/\b≠X.env.locals/\(∀x c,X.env.cells.lookup x=aA c->c≠b)/\∀p∈X.pn++du,p.1≠b
theorem LO{b:aM}(I:Inv X du Z H s)(hx:X.ex=[])(h:s.heap.get? b=aB):Bo X du b:=by
 refine⟨?_,λz=>?_,λx c hc z=>?_,λp hp z=>?_⟩
 ·cases r:X.s₀.heap.get? b with
  | none=>rfl
  | some o=>
   obtain⟨o',r'⟩:=I.base.there b o r (by rw[hx];simp);rw[h] at r';cases r'
 ·obtain⟨m,⟨o,_,_,ho,_⟩,_⟩:=I.loc;rw[z,ho] at h;cases h
 ·obtain⟨v,o,ho,_⟩:=I.cell x c hc;rw[z] at ho;rw[ho] at h;cases h
 ·have:=(I.pin p hp).1;rw[z] at this;rw[this] at h;cases h
theorem Ng{ch:List aM}{h':bw}(I:Inv X du Z H s)(hx:X.ex=[])(hfr:X.env.frame=aA X.env.locals)(ef:Eff ((X.env::X.outer).filterMap (·.frame)) ch s.heap h')(hc:∀b∈ch,H b=aB/\Bo X du b)(hst:X.stack=X.env::X.outer):Inv X du Z H { s with heap:=h' }:=by
 have hf:∀b∈(X.env::X.outer).filterMap (·.frame),H b=aB:=λb hb=>by have:=I.stkFree b;rw[hst] at this;exact this hb
 have lt:∀b o,X.s₀.heap.get? b=aA o->b∉ch:=λb o z hb=>by rw[(hc b hb).2.1] at z;cases z
 have nL:∀b o,X.s₀.heap.get? b=aA o->b≠X.env.locals:=λb o z hb=>by subst hb;exact cU _ (ar (aW z) I.ok.above)
 have mem:∀b,b≠X.env.locals->(b∈(X.env::X.outer).filterMap (·.frame)↔b∈X.fs):=λb z=>by rw[kA hfr,a9];exact⟨λh=>h.elim (λq=>absurd q z) λq=>q,.inr⟩
 have any:∀b o,s.heap.get? b=aA o->b∉ch->∃sl,h'.get? b=aA { o with slots:=sl }:=λb o q hb=>by
  by_cases z:b∈(X.env::X.outer).filterMap (·.frame)
  ·exact ef.slot b o q hb z
  ·exact⟨o.slots,ef.keep b o q hb z⟩
 obtain⟨m,⟨oL,es,ep,hoL,rL⟩,hl⟩:=id I.loc;have nLc:X.env.locals∉ch:=λz=>(hc _ z).2.2.1 rfl;obtain⟨slL,hL⟩:=any _ _ hoL nLc;have cellK:∀c v,(∀b∈ch,c≠b)->s.heap.IsCell c v->h'.IsCell c v:=λc v hne ⟨o,ho,hd⟩=>by obtain⟨sl,q⟩:=any c o ho λz=>hne c z rfl;exact⟨_,q,hd⟩
 have cne:∀x c,X.env.cells.lookup x=aA c->∀b∈ch,c≠b:=λx c q b hb=>(hc b hb).2.2.2.1 x c q;refine⟨I.ok,I.os,I.bare,⟨λb o e n hb hx'=>?_,λb o e n hb hx'=>?_,I.base.free,λb o e hx'=>?_,I.base.tups,I.base.frzs,I.base.tbls⟩,⟨m,⟨_,es,ep,hL,rL⟩,λj y v' e1 e2 e3=>?_⟩,λy c e=>?_,I.free,I.freeC,λp hp=>?_,JA I.hok ef (λb hb=>(hc b hb).1) hf,I.len⟩
 ·exact ef.keep b o (I.base.keep b o e n hb hx') (lt b o e) λz=>hb ((mem b (nL b o e)).mp z)
 ·obtain⟨sl,z1⟩:=I.base.slot b o e n hb hx';obtain⟨sl2,z2⟩:=ef.slot b _ z1 (lt b o e) ((mem b (nL b o e)).mpr hb);exact⟨sl2,z2⟩
 ·obtain⟨o1,z1⟩:=I.base.there b o e hx';exact ef.there b o1 z1
 ·obtain⟨u',r',q⟩:=hl j y v' e1 e2 e3;refine⟨u',r',?_⟩;rcases q with q | ⟨k,c,e,z⟩
  ·exact .inl q
  ·exact .inr ⟨k,c,e,cellK c _ (cne y c e) z⟩
 ·obtain⟨w',z⟩:=I.cell y c e;exact⟨w',cellK c _ (cne y c e) z⟩
 ·obtain⟨e,n,ne,nf,d⟩:=I.pin p hp;exact⟨ef.keep p.1 p.2 e (λz=>(hc _ z).2.2.2.2 p hp rfl) (λz=>nf ((mem p.1 ne).mp z)),n,ne,nf,d⟩
theorem IL{e:aM}{oe:dX}(I:Inv X du Z H s)(he:s.heap.get? e=aA oe)(hH:H e=aB)(ho:Bo X du e):Inv X du Z (upd H e (.frz oe (.own e))) s:=by
 have ne:∀b u,H b=aA u->b≠e:=λb u q z=>by rw[z,hH] at q;cases q
 refine⟨I.ok,I.os,I.bare,⟨I.base.keep,I.base.slot,λb o q n hx=>?_,I.base.there,λb xs q=>?_,λb o u q=>?_,λb ps q=>?_⟩,I.loc,I.cell,?_,λx c q=>?_,λp hp=>?_,λb u q=>?_,I.len⟩
 ·rw[upd_ne (λz=>by rw[z,ho.1] at q;cases q)];exact I.base.free b o q n hx
 ·have:=I.base.tups b xs q;rw[upd_ne (ne _ _ this)];exact this
 ·have:=I.base.frzs b o u q;rw[upd_ne (ne _ _ this)];exact this
 ·obtain⟨more,z⟩:=I.base.tbls b ps q;exact⟨more,by rw[upd_ne (ne _ _ z)];exact z⟩
 ·rw[upd_ne (cY ho.2.1)];exact I.free
 ·rw[upd_ne (ho.2.2.1 x c q)];exact I.freeC x c q
 ·obtain⟨e1,n,r⟩:=I.pin p hp;exact⟨e1,by rw[upd_ne (ho.2.2.2 p hp)];exact n,r⟩
 ·by_cases z:b=e
  ·subst z;rw[upd_same] at q;cases q;exact⟨he,_,he⟩
  ·rw[upd_ne z] at q;exact(I.hok b u q).stay (λ_ _ _ r=>r) (λc r=>by rw[upd_ne (ne _ _ r)];exact r) (λc xs r=>by rw[upd_ne (ne _ _ r)];exact r) λc u r=>by rw[upd_ne (ne _ _ r)];exact r
end
section
variable {M:Model} {A:bc} {E:aJ->aN->Prop}
variable {nm q nm' q':ah} {C N Cb N':aM} {bs bm bs' bm':List aJ} {hdct hdct':Bool} {sn sn':List ah} {sub sub':List aJ} {ab ab':Bool} {col col':Option Bool} {dd dd':Option aM} {k0 k1 k2 k3 k5 j0 j1 j2 j3 j5:Option aJ} {newId newId':String}
theorem Mf{h:bw}{g:Array ml}{d:Drawn}{t:Nat}{os:OsState}{e:aM}{oe:dX}{Q:Bool->aN->Prop}
  (hC:h.get? C=aA (jG nm q C N bs bm hdct sn sub ab col dd k0 k1 k2 k3 k5 newId)) (hB:h.get? Cb=aA (jG nm' q' Cb N' bs' bm' hdct' sn' sub' ab' col' dd' j0 j1 j2 j3 j5 newId')) (he:h.get? e=aA oe) (hcls:oe.cls = .ref C) (hbase:bm'.contains (.type "BaseException")=aD)
  (hq:Q ((b7 C::bm).contains (.ref Cb)) ⟨h,g,d,t,os⟩):ao M A (excMatches (.ref e) (.ref Cb)) Q E ⟨h,g,d,t,os⟩:=by
 have hcB:(b7 Cb::bm').contains (.type "BaseException")=aD:=by rw[m9,hbase,Bool.or_true]
 have f:=tc_notTuple;unfold excMatches
 cases hcC:(b7 C::bm).contains (.ref Cb) with
 | true=>
  rw[hcC] at hq
  repeat (first | (with_reducible refine fK he ?_;rw[hcls]) | with_reducible refine fK hB ?_ | (with_reducible refine fV hB ?_;rw[hcB]) | (with_reducible refine fV hC ?_;rw[hcC]) | wp_step)
  exact hq
 | false=>
  rw[hcC] at hq
  repeat (first | (with_reducible refine fK he ?_;rw[hcls]) | with_reducible refine fK hB ?_ | (with_reducible refine fV hB ?_;rw[hcB]) | (with_reducible refine fV hC ?_;rw[hcC]) | wp_step)
  exact hq
end
def belowIn(K:aI)(C Cb:aM):Bool:=match K.lookup C with
 | some ⟨_,_,.cls cd,_⟩=>cd.mro.contains (.ref Cb)
 | _=>aC
theorem G4{K:aI}{h:bw}{C Cb:aM}{nm qn:ah}{N:aM}{bs bm:List aJ}{hdct:Bool}{sn:List ah}{sub:List aJ}{ab:Bool}{col:Option Bool}{dd:Option aM}{k0 k1 k2 k3 k5:Option aJ}{newId:String}(X:K.In h)(e:belowIn K C Cb=aD)
  (hC:h.get? C=aA (jG nm qn C N bs bm hdct sn sub ab col dd k0 k1 k2 k3 k5 newId)):(b7 C::bm).contains (.ref Cb)=aD:=by
 unfold belowIn at e;split at e
 ·rename_i ho;have:=X _ _ ho;rw[hC] at this;cases this;exact e
 ·cases e
section
variable {X:Cx} {du:List (aM×dX)} {Z:L2.St} {H:Hp} {s:aN} {e T C Cb:aM} {dd:Option aM} {cx n:ah} {np pos:fN} {b₀:cO} {suite:List cO} {Zt:List gx} {ts:TS} {D:Uo} {i:Nat}
def G5(i:Nat)(D:Uo):Uo:={ nx:=λZ H=>D.nx (Z.set i aB) H,rt:=D.rt,bk:=λZ H=>D.bk (Z.set i aB) H,ct:=λZ H=>D.ct (Z.set i aB) H }
theorem Za1(I:Inv X du Z H s)(hx:X.ex=[])(hst:X.stack=X.env::X.outer)(hfr:X.env.frame=aA X.env.locals)(x:E8 s.heap e (.ref C) dd T .none)(hH:H e=aB)(hHT:H T=aB)(oe:Bo X du e)(oT:Bo X du T)
  (hN:X.N.Nodup) (hi:X.N[i]?=aA n) (hk:X.env.scope.names.lookup n=aA .local) (hg:Gl X cx) (hm:X.mg cx=aA (.ref Cb)) (hC:eU X.K C "BaseException" = aD) (hB:eU X.K Cb "BaseException" = aD) (hb:belowIn X.K C Cb=aD)
  (hs:PSs (Cx.mark X e) (b₀::suite) ts) (q:∀oe:dX,oe.cls = .ref C->oe.dict=dd->(∃vs,oe.data = .fields vs)->ts (G5 i D) (Z.set i (aA (.ref e))) (upd H e (.frz oe (.own e))))
  (hdb:(cx==("__debug__" : ah))=aC:=by decide) :
  ao (model X.prog X.w) X.A (kQ (.ref e) X.env) (λ_ s₂=>ao (model X.prog X.w) X.A (setFlight (.ref e) aB) (λ_ s₃=>
   ao (model X.prog X.w) X.A (handleBy (.ref e) X.env (.ExceptHandler (aA (.Name cx np)) (aA n) (b₀::suite) pos::Zt)) (SP X du D) X.xe s₃) X.xe s₂) X.xe s:=by
 have hstk:=I.stack;rw[hst] at hstk;have hfrs:=I.ok.frames;rw[hst] at hfrs;refine AH hfrs hstk hfr x λh1 T' hT' x1 e1=>?_
 have I1:Inv X du Z H { s with heap:=h1 }:=Ng I hx hfr e1 (λb hb=>by
  rcases a9.mp hb with z | z
  ·rw[z];exact⟨hH,oe⟩
  ·rw[aQ.mp z];exact⟨hHT,oT⟩) hst
 have oT':Bo X du T':=LO I hx (jA hT');have hHT':H T'=aB:=I.hok.fresh hT';have tch:∀b∈[T'],H b=aB/\Bo X du b:=λb hb=>by rw[aQ.mp hb];exact⟨hHT',oT'⟩
 refine LL x1 (fs:=(X.env::X.outer).filterMap (·.frame)) λh2 x2 e2 _=>?_;have I2:Inv X du Z H { s with heap:=h2 }:=Ng (s:={ s with heap:=h1 }) I1 hx hfr e2 tch hst;refine wpAny_handleBy_cons (codeAny_handlers_test ?_) (by intro z;cases z);have I2m:Inv (Cx.mark X e) du Z H { s with heap:=h2 }:=Me I2;refine UY (X:=Cx.mark X e) I2m hg hm ?_ hdb;obtain⟨nm,qn,N,bs,bm,hdct,sn,sub,ab,col,dc,k0,k1,k2,k3,k5,nid,hCo,_,_⟩:=hX I2.kIn hC;obtain⟨nm',qn',N',bs',bm',hdct',sn',sub',ab',col',dc',j0,j1,j2,j3,j5,nid',hBo,hbase,_⟩:=hX I2.kIn hB;obtain⟨ob,vs,oT2,tsx,heo,hcls,hdd,hdat,_⟩:=id x2;refine Mf hCo hBo heo hcls hbase ?_;rw[G4 I2.kIn hb hCo];refine codeAny_handlers_suite_as ?_;refine LL (s:={ s with heap:=h2 }) x2 (fs:=(X.env::X.outer).filterMap (·.frame)) λh3 x3 e3 _=>?_;have I3:Inv X du Z H { s with heap:=h3 }:=Ng (s:={ s with heap:=h2 }) I2 hx hfr e3 tch hst;obtain⟨ob3,vs3,oT3,ts3,heo3,hcls3,hdd3,hdat3,_⟩:=id x3;have I4:=IL (s:={ s with heap:=h3 }) I3 heo3 hH oe;refine Ut (X:=Cx.mark X e) (Me I4) hN hi (.inl hk) (v:=.ref e) (u:=.ref e) rfl (λs5 I5=>?_) (.inr hk);refine cH (hs du s5 _ _ (G5 i D) I5 (q ob3 hcls3 hdd3 ⟨_,hdat3⟩)) (λf s6 h6=>?_) λ_ _ z=>z.elim
 have go:∀Z' H' s6,Inv (Cx.mark X e) du Z' H' s6->(∀s7,Inv X du (Z'.set i aB) H' s7->SP X du D f s7)->ao (model X.prog X.w) X.A (do bindName X.env n .none;jH X.env n pos) (λ_ s₃=>SP X du D f s₃) X.xe s6:=λZ' H' s6 I6 k=>
  IK (LN I.ok I6) hN hi hk k
 cases f with
 | next=>
  obtain⟨Z',H',I6,z⟩:=h6;exact go Z' H' s6 I6 λs7 I7=>⟨_,_,I7,z⟩
 | ret u=>
  obtain⟨v,Z',H',I6,r6,z⟩:=h6;exact go Z' H' s6 I6 λs7 I7=>⟨v,_,_,I7,r6,z⟩
 | brk=>
  obtain⟨Z',H',I6,z⟩:=h6;exact go Z' H' s6 I6 λs7 I7=>⟨_,_,I7,z⟩
 | cont=>
  obtain⟨Z',H',I6,z⟩:=h6;exact go Z' H' s6 I6 λs7 I7=>⟨_,_,I7,z⟩
end
def AM(i:Nat):Out->Out
 | .nx s=>.nx (s.set i aB)
 | .bk s=>.bk (s.set i aB)
 | .ct s=>.ct (s.set i aB)
 | .rt l=>.rt l
def IM(R:List PV->Option ah)(fs:List XE)(i:Nat)(f:XS):XS:=λs=>(T9 fs s).bind λls=>(R ls).bind λn=>(f (s.set i (aA (.exc n)))).map (AM i)
theorem QT{K:aI}{O:List Nat}{H0 H:Hp}{fps:Nat->List aM}{s:ZJ}{Z:SO}{i:Nat}(hiO:i∉O)(r:Rel K O H0 fps s Z H):Rel K O H0 (λj=>if j=i then [] else fps j) (s.set i aB) (Z.set i aB) H:=by
 refine⟨r.same,by rw[bU,bU];exact r.len,λj a e=>?_,λj h=>?_,λj hj=>?_,λj hj p hp=>?_,λj hj k hk p hp=>?_⟩
 ·by_cases hji:j=i
  ·subst hji;rw[bZ] at e;simp at e
  ·rw[cX (cY hji)] at e ⊢;rw[pE hji];exact r.is j a e
 ·by_cases hji:j=i
  ·rw[pC hji]
  ·rw[pE hji];refine r.emp j λl z=>h l ?_;rw[cX (cY hji)];exact z
 ·have hji:j≠i:=λz=>hiO (z▸hj);simp only[pE hji];exact r.nd j hj
 ·have hji:j≠i:=λz=>hiO (z▸hj);simp only[pE hji] at hp;exact r.own j hj p hp
 ·have hji:j≠i:=λz=>hiO (z▸hj);simp only[pE hji] at hp;by_cases hki:k=i
  ·rw[pC hki];simp
  ·rw[pE hki];exact r.dis j hj k hk p hp
section
variable {X:Cx} {O W:List Nat} {k n i:Nat} {x cx nm:ah} {ps:List ah} {R:List PV->Option ah} {e:bK} {es:List bK} {fs:List XE} {p cp ep np hp pos:fN} {b₀:cO} {suite:List cO} {f:XS} {Cb:aM} {Zt:List gx}
theorem Bp(CX:CalX X.prog X.w X.K X.mg X.base x ps (spX X.K R n) k)(hr:Room k X.A)(hg:Gl X x)(ha:VA X.nox (e::es) fs)(hx:X.ex=[])(hst:X.stack=X.env::X.outer)(hfr:X.env.frame=aA X.env.locals)
  (hN:X.N.Nodup) (hi:X.N[i]?=aA nm) (hk:X.env.scope.names.lookup nm=aA .local) (hgc:Gl X cx) (hmc:X.mg cx=aA (.ref Cb)) (hB:eU X.K Cb "BaseException" = aD)
  (hR:∀ls m,R ls=aA m->∃C,cB X.K bJ m=aA (aA (.ref C))/\eU X.K C "BaseException" = aD/\belowIn X.K C Cb=aD)
  (hs:∀e,Ip (Cx.mark X e) O W (b₀::suite) f) (hiO:i∉O) (hsw:g8 (.Call (.Name x p) (e::es) [] cp) aB ep.line X.env=pure aC:=by rfl) (hn:fs.length=n:=by rfl)
  (hdb:(x==("__debug__" : ah))=aC:=by decide) (hdb2:(cx==("__debug__" : ah))=aC:=by decide) (he:aR (e::es) X.env=(aC,eval e X.env)::aR es X.env:=by rfl) (hpl:(cw cp (aR es X.env)).any (·.1)=aC:=by rfl) :
  VS X O (i::W) (.Try [.Expr (.Call (.Name x p) (e::es) [] cp) ep] (.ExceptHandler (aA (.Name cx np)) (aA nm) (b₀::suite) hp::Zt) [] [] pos) (IM R fs i f):=by
 intro du s Z H D I ⟨H0,fps,sp,out,r,e1,ok⟩;obtain⟨ls,e2,e1⟩:=Ze e1;obtain⟨m,e3,e1⟩:=Ze e1;obtain⟨o1,e4,rfl⟩:=map_some e1;obtain⟨C,hns,hC,hb⟩:=hR ls m e3;obtain⟨fa,fd,hmx,hkp,hbd,F⟩:=CX.ex;refine wpAny_Try_except (iX (wpAny_Expr_any ?_ I.quiet hsw));refine cZ (UY I hg hmx ?_ hdb);refine j8 (h₀:=X.base) I.ok.mod.kin hkp ?_ he hpl;refine cH (ha cp du s Z H (λvs H1=>Same H H1/\∃fp,Iss X.K H1 ls vs fp) (I.wish _) ⟨λ_=>False,sp,ls,λ_ z=>z.elim,r.env,e2,λvs H1 fp s1 i1 _=>⟨s1,fp,i1⟩⟩) (λus s1 ⟨vs,H1,I1,rv,sm,fp,i1⟩=>?_) λ_ _ z=>z.elim;have I1:Inv X du Z H1 s1:=I1.unwish;have lv:vs.length=n:=by rw[i1.len,V2 e2,hn]
 have hsp:spX X.K R n vs H1 (λ_ _=>False) (λcls dd H'=>cls = .ref C/\dd=aB/\Same H1 H'):=⟨lv,ls,fp,m,i1,e3,λC' H' hc sm=>⟨by rw[hns] at hc;cases hc;rfl,rfl,sm⟩⟩;have hl:(us++[]).length=ps.length:=by rw[dU,<-rv.length,lv];have:=F.len _ _ _ _ hsp;omega
 have hbb:=hbd s1 us I1.kIn hl;rw[dU] at hbb;refine⟨I1.kIn,k6 (gE (F.run X.A X.stack s1 H1 ⟨us,[]⟩ us vs _ _ hr I1.env0 hbb rv hsp) λres s' hq=>?_)⟩
 cases res with
 | ok fl=>
  cases fl with
  | ret u=>obtain⟨_,_,_,_,_,_,_,z⟩:=hq;exact z.elim
  | next=>exact cq hq
  | brk=>exact cq hq
  | cont=>exact cq hq
 | error v=>
  obtain⟨ea,cls,dd,H',rfl,hos,hgn,u,hok,⟨T,xx,hH,hHT,he0,hT0⟩,rfl,rfl,sm1⟩:=hq;have I2:Inv X du Z H' s':=I1.call' hos u hok hgn λb hb=>nomatch hb;refine Za1 I2 hx hst hfr xx hH hHT (LO I1 hx he0) (LO I1 hx hT0) hN hi hk hgc hmc hC hB hb (hs ea) (λoe h1 h2 h3=>?_) hdb2;have sm2:Same H (upd H' ea (.frz oe (.own ea))):=λb o q=>by have q':=sm1 b o (sm b o q);rw[upd_ne (Zp q' hH)];exact q'
  have iE:Is X.K (upd H' ea (.frz oe (.own ea))) (.exc m) (.ref ea) []:=by simp only[Is];exact⟨⟨ea,oe,ea,C,rfl,upd_same,h1,hns,h2,h3⟩,trivial⟩
  have hlt:i<sp.length:=by have:=(aX.mp hi).1;rw[r.len,I.len];exact this
  have r2:=(r.grow sm2).set (i:=i) iE (λz=>absurd z hiO) (λk _ _ p hp=>by simp at hp);refine⟨H0,_,_,o1,r2,e4,?_⟩;have fin:∀(p7:Nat->List aM)(Z':SO)(H'':Hp)(s':ZJ),(∀j,j∉W->Z'[j]?=(Z.set i (aA (V.ref ea)))[j]?/\Kep (p7 j) (S8 fps sp.length i [] j))->∀j,j∉i::W->(Z'.set i aB)[j]?=Z[j]?/\Kep (if j=i then [] else p7 j) (fps j):=λp7 Z' H'' s' h j hj=>by have hji:j≠i:=λz=>hj (by rw[z];exact .head _);obtain⟨a1,a2⟩:=h j λz=>hj (.tail _ z);rw[cX (cY hji)] at a1 ⊢;rw[Yn hji] at a2;rw[pE hji];exact⟨a1,a2⟩
  cases o1 with
  | nx s'=>exact λp7 Z' H'' r' k'=>ok _ _ _ (QT hiO r') (fin p7 Z' H'' s' k')
  | bk s'=>exact λp7 Z' H'' r' k'=>ok _ _ _ (QT hiO r') (fin p7 Z' H'' s' k')
  | ct s'=>exact λp7 Z' H'' r' k'=>ok _ _ _ (QT hiO r') (fin p7 Z' H'' s' k')
  | rt l=>exact ok
end
end VX
namespace VX
open PySem PySem.Spec PyProof.Rows L2
theorem Mg{m:Nat}:∀{ts:List ah},(∀t∈ts,t.length<=m)->piled ts<=ts.length*(m+2)
 | [],_=>by simp[piled]
 | t::r,h=>by have h1:=Mg (m:=m) (ts:=r) λu hu=>h u (by simp[hu]);have h2:=h t (by simp);rw[bA,Nat.add_mul,piled_cons];omega
theorem Dc{m:Nat}{ts:List ah}(h:∀t∈ts,t.length<=m):(ah.join ", " ts).length<=ts.length*(m+2):=by
 by_cases q:ts=[]
 ·subst q;rw[show(ah.join ", " ([]:List ah)).length=0 from by decide];exact gA _
 ·have:=join_length_add ts q;have:=Mg h;omega
theorem Nh{m:Nat}{ts:List ah}(h:∀t∈ts,t.length<=m):(tupleText ts).length<=3+ts.length*(m+2):=by
 unfold tupleText;rw[fS,fS];have:=Dc h;have e1:(cP "(").length=1:=by decide
 have e2:(cP (if(ts.length==1)=aD then ",)" else ")" : String)).length<=2:=by split<;>decide
 omega
def D6(H:Hp)(v:V):Prop:=v = .non\/(∃i:Int,v = .int i/\i.natAbs.log2<1920)\/∃(a:aM) (is:List Int),v = .ref a/\H a=aA (.tup (is.map V.int))/\is.length<=100/\∀i∈is,i.natAbs.log2<1920
end VX
namespace VX
open PySem PySem.Spec PyProof.Rows L2 VL
abbrev XF:=ZJ->Option (ah×PV)
def JC:PV->Bool
 | .non=>aD
 | .int i=>decide (i.natAbs.log2<1920)
 | .tup l=>match YD l with
  | some is=>decide (is.length<=100)&&is.all λi=>decide (i.natAbs.log2<1920)
  | none=>aC
 | _=>aC
theorem G6{K:aI}{H:Hp}{l:PV}{v:V}{fp:List aM}(h:Is K H l v fp)(g:JC l=aD):D6 H v/\fp=[]:=by
 cases l with
 | non=>exact⟨.inl h.non_inv.1,h.non_inv.2⟩
 | int i=>exact⟨.inr (.inl ⟨i,h.int_inv.1,of_decide_eq_true g⟩),h.int_inv.2⟩
 | tup l=>
  have g':(match YD l with | some is=>decide (is.length<=100)&&is.all λi=>decide (i.natAbs.log2<1920) | none=>aC)=aD:=g;split at g'
  ·rename_i is his;have:=YR his;subst this;obtain⟨p,xs,rfl,hp,hi⟩:=h.tup_inv;obtain⟨rfl,rfl⟩:=hi.iL;rw[ak] at g';exact⟨.inr (.inr ⟨p,is,rfl,hp,of_decide_eq_true g'.1,λi hi=>of_decide_eq_true (bC.mp g'.2 i hi)⟩),rfl⟩
  ·cases g'
 | bl b=>cases g
 | str x=>cases g
 | ty n=>cases g
 | exc n=>cases g
 | exf n l=>cases g
 | clo n l=>cases g
 | lst l=>cases g
 | cst l=>cases g
 | dK ks l=>cases g
 | dT ks l=>cases g
section
variable {prog:bE} {w:bg} {A:bc} {E:aJ->aN->Prop} {K:aI} {a C:aM}
theorem IP{s:aN}{Q:Option aJ->aN->Prop}(X:K.In s.heap){o:dX}{vs:Array aJ}(hx:s.heap.get? a=aA o)(hc:o.cls = .ref C)(hd:o.data = .fields vs)(hdd:o.dict=aB)
  (g1:dS K (.ref C) "__getattribute__" = aA (aA (.builtin "BaseException.__getattribute__")))
  (g2:dS K (.ref C) "__getattr__" = aA aB) (g3:dS K (.ref C) "__class__" = aA (aA (.builtin "object.__class__"))) (g4:jv K C (.type "object")=aA aD) (g5:eU K C "BaseException" = aD)
  (h:Q (aA (.ref C)) { s with toks:=s.toks+1 }):ao (model prog w) A (getAttr? (.ref a) "__class__") Q E s:=by
 obtain⟨hh,g,d,t,os⟩:=s;have I:lS hh a o C aB:=⟨hx,hc,by unfold PySem.W.notCls;rw[hd],by rw[hdd];trivial⟩;have L0:=I.type (M:=model prog w);have L1:=jI (M:=model prog w) X g1;unfold getAttr? getAttrBy? getAttrBy;refine aF (wpAny_mkText (aF (ik (dR (aF (L0.at (aF (L1.at ?_))))))));have L2:=jI (M:=model prog w) X g2;have L3:=jI (M:=model prog w) X g3;show ao (model prog w) A (getAttrByItsOwn (.ref a) (.str "__class__" t) (.ref C) (.builtin "BaseException.__getattribute__") aC aC) _ _ _;have f3:=F.attr_ValueError.ga.bind (.ref a);unfold getAttrByItsOwn
 repeat (any_goals (first | assumption | wp_step | (refine aF (L2.at ?_)) | (refine L2.at ?_)))
 obtain⟨nm,qn,N,bs,bm,hdct,sn,sub,ab,col,dc,k0,k1,k2,k3,k5,nid,hC,hbase,_⟩:=hX X g5;have hC:hh.get? C=aA (jG nm qn C N bs bm hdct sn sub ab col dc k0 k1 k2 k3 k5 nid):=hC;have hcB:(b7 C::bm).contains (.type "BaseException")=aD:=by rw[m9,hbase,Bool.or_true]
 have L0':=I.type (M:=model prog w);show gz (model prog w) A (.call (.builtin "BaseException.__getattribute__") ⟨[.ref a,.str "__class__" t],[]⟩) _ ⟨hh,g,d,t+1,os⟩;refine l9 F.attr_ValueError.ga.plain F.entry_bexc_ga ?_;have hk:builtinKind "BaseException.__getattribute__" = aA .slot:=by decide +kernel
 have hsplit:splitId "BaseException.__getattribute__" = aA ("BaseException","__getattribute__"):=by decide +kernel
 have ha:=F.args_bexc_ga (.ref a) (.str "__class__" t);simp only[checkBuiltinCall,hk,hsplit];refine aF ?_;unfold isInstance
 repeat (first | (with_reducible refine fK hx ?_;rw[hc]) | (with_reducible refine fV hC ?_;rw[hcB]) | wp_step)
 refine L3.at ?_;have f5:=PySem.W.KF.type_class;have f6:=F.slot_gs_get.lookup;have f7:=F.slot_gs_set.lookup
 repeat (any_goals (first | assumption | (with_reducible refine fK hx ?_;rw[hc]) | wp_step))
 have X':K.In (⟨hh,g,d,t+1,os⟩:aN).heap:=X;have I':lS (⟨hh,g,d,t+1,os⟩:aN).heap a o C aB:=I;refine PySem.W.class_get X' I' g4 ?_
 repeat (any_goals (first | assumption | wp_step))
end
def Za2(a C:aM)(h:bw):Prop:=∃o,h.get? a=aA o/\o.cls = .ref C/\o.dict=aB/\∃vs,o.data = .fields vs
structure JD(K:aI)(C:aM):Prop where
 ga:dS K (.ref C) "__getattribute__" = aA (aA (.builtin "BaseException.__getattribute__"))
 gr:dS K (.ref C) "__getattr__" = aA aB
 cl:dS K (.ref C) "__class__" = aA (aA (.builtin "object.__class__"))
 mr:jv K C (.type "object")=aA aD
 kt:eU K C "BaseException" = aD
theorem G7{K:aI}{a C:aM}(c:JD K C):PySem.W.KitX K (.ref a) (.ref C) (Za2 a C) where
 ty:=λM h _ ⟨o,h1,h2,_⟩=>h2▸(PySem.W.Looks.ld h1).andThen .now
 it:=λM h X _=>by obtain⟨nm,qn,N,bs,bm,hdct,sn,sub,ab,col,dc,k0,k1,k2,k3,k5,nid,hC,_⟩:=hX X c.kt;intro A' Q' E' s' k q;unfold isType loadHead;exact aF (wpAny_loadPart (k _ _ hC) (aP q))
 ne:=λh tp dd pA n sl X htp=>by obtain⟨nm,qn,N,bs,bm,hdct,sn,sub,ab,col,dc,k0,k1,k2,k3,k5,nid,hC,_⟩:=hX X c.kt;refine Bool.eq_false_iff.mpr λq=>?_;have e:C=tp:=b7.inj (beq_iff_eq.mp q);subst e;rw[hC] at htp;exact absurd (congrArg dX.cls (bB htp)) (show ¬(jZ "type" = jZ "tuple") by decide)
 ca:=λX ⟨o,h1,h2,h3,vs,h4⟩ k=>IP X h1 h2 h4 h3 c.ga c.gr c.cl c.mr c.kt k
def Xx(tb:ah->Option Bool)(f:XE):XE:=λs=>match f s with
 | some (.exc n)=>(tb n).map PV.bl
 | _=>aB
inductive ClsV:V->aJ->Prop
 | own (C:aM):ClsV (.ref C) (.ref C)
 | ty (T:String):ClsV (.ty T) (.type T)
theorem ClsV.rel{cv:V}{c u:aJ}(h:ClsV cv c)(r:RelV cv u):u=c:=by
 cases h with
 | own C=>exact r
 | ty T=>exact r
section
variable {X:Cx} {e:bK} {f:XE} {cx:ah} {p p2 pos:fN} {tb:ah->Option Bool} {c:aJ} {cv:V}
theorem LP:Wo X (.builtin "isinstance") (λxs H Q=>∃a C cv c b o x,xs=[.ref a,cv]/\ClsV cv c/\H a=aA (.frz o (.own x))/\o.cls = .ref C/\o.dict=aB/\(∃vs,o.data = .fields vs)/\JD X.K C/\bM X.K (.ref C) c=aA b/\Q (.bl b) H):=by intro du s Z H xs us Q I r h;obtain⟨a,C,cv,c,b,o,x,rfl,hcv,hH,hc,hd,hv,ec,hk,q⟩:=h;obtain⟨u,v,rfl,ru,rv⟩:=KS r;obtain rfl:=hcv.rel rv;obtain rfl:u=b7 a:=ru;exact c9 (G7 ec) I.kIn ⟨o,(I.hok a _ hH).1,hc,hd,hv⟩ hk (λz=>nomatch z) λtk=>⟨.bl b,H,I.tok tk,rfl,q⟩
theorem Dd{C:aM}(hg:Gl X cx)(hm:X.mg cx=aA (.ref C))(hdb:(cx==("__debug__" : ah))=aC:=by decide):PE X (.Name cx p2) (λ_ H Q=>Q (.ref C) H):=λdu s Z H Q I h=>UY I hg hm ⟨.ref C,H,I,rfl,h⟩ hdb
theorem De{T:String}(hg:Gl X cx)(hm:X.mg cx=aB)(hv:dG cx=aA (.type T))(hn:cx≠"__name__":=by decide)(hdb:(cx==("__debug__" : ah))=aC:=by decide):PE X (.Name cx p2) (λ_ H Q=>Q (.ty T) H):=λdu s Z H Q I h=>XX I hg hm hv ⟨.ty T,H,I,rfl,h⟩ hn hdb
theorem G8(hgi:Gl X "isinstance")(hm:X.mg "isinstance" = aB)(he:VE X e f)(hcv:ClsV cv c)(hc:PE X (.Name cx p2) (λ_ H Q=>Q cv H))
  (ht:∀n b,tb n=aA b->∃C,cB X.K bJ n=aA (aA (.ref C))/\JD X.K C/\bM X.K (.ref C) c=aA b)
  (hst:aR [e,.Name cx p2] X.env=(aC,eval e X.env)::aR [.Name cx p2] X.env:=by rfl) (hst2:aR [.Name cx p2] X.env=(aC,eval (.Name cx p2) X.env)::aR [] X.env:=by rfl) (hpl:(cw pos (aR [.Name cx p2] X.env)).any (·.1)=aC:=by rfl):VM X (.Call (.Name "isinstance" p) [e,.Name cx p2] [] pos) (Xx tb f):=
 PE.imp (Qf LP hgi hm (by decide +kernel) (ZW he (ZW hc YU (hs:=hst2)) (hs:=hst)) (by decide) (by decide) hst hpl) λZ H Q ⟨s,l,env,e1,k⟩=>by
  unfold Xx at e1;split at e1
  ·rename_i n hn;obtain⟨b,hb,rfl⟩:=map_some e1;obtain⟨C,hns,ec,hk⟩:=ht n b hb;refine⟨λ_=>False,s,.exc n,λ_ z=>z.elim,env,hn,λv H1 fp s1 i1 _=>?_⟩;simp only[Is] at i1;obtain⟨⟨ea,o,x,C',rfl,hH,hcl,hn',hd,hv⟩,_⟩:=i1;rw[hns] at hn';cases hn';exact⟨ea,C,cv,c,b,o,x,rfl,hcv,hH,hcl,hd,hv,ec,hk,k _ H1 [] s1 (Is.bl _) cM λp hp=>by simp at hp⟩
  ·cases e1
end
def BP(k:Bool):List Bool->Option Nat
 | []=>aB
 | x::r=>if x=k then aA 0 else(BP k r).map (· + 1)
theorem Mh{k:Bool}:∀{l:List Bool}{j:Nat},BP k l=aA j->l[j]?=aA k/\∀m,m<j->l[m]?≠aA k
 | [],_,h=>by cases h
 | x::r,j,h=>by
  unfold BP at h;split at h
  ·rename_i e;cases h;exact⟨by simp[e],λm hm=>by omega⟩
  ·rename_i e
   cases q:BP k r with
   | none=>rw[q] at h;cases h
   | some i=>
    rw[q] at h;cases h;obtain⟨a,b⟩:=Mh q;refine⟨by simpa using a,λm hm=>?_⟩
    cases m with
    | zero=>simpa using e
    | succ m=>have hm':m+1<i+1:=hm;simpa using b m (by omega)
def Dg(K:aI):V->List V->Hp->VK->Prop:=λx vs H Q=>∃(p:aM) (ns:List Bool) (k:Bool) (j:Nat),x = .ref p/\vs=[.bl k]/\SqL K H p (ns.map V.bl)/\BP k ns=aA j/\Q (.int (j:Int)) H
def Dh(K:aI):V->List V->Hp->VK->Prop:=λx vs H Q=>∃(p:aM) (ns:List Bool) (k:Bool),x = .ref p/\vs=[.bl k]/\SqL K H p (ns.map V.bl)/\Q (.int ((ns.filter (·==k)).length:Int)) H
theorem Mi{ns:List Bool}{pA:List aJ}(r:Vals (ns.map V.bl) pA):pA=ns.map gW:=by
 induction ns generalizing pA with
 | nil=>cases r;rfl
 | cons a t ih=>
  cases r with
  | cons h1 h2=>rw[ih h2];cases h1;rfl
theorem IQ{X:Cx}:MtR X "list.index" (Dg X.K):=by
 intro du s Z H x vs v us Q I rx rv h;obtain⟨p,ns,k,j,rfl,rfl,hq,hj,q⟩:=h;cases rx;obtain⟨u,rfl,ru⟩:=Uv rv;obtain rfl:u=gW k:=ru;obtain⟨pA,r,pl,hz⟩:=I.list hq;obtain⟨o,n,ho,hc,hd,hs⟩:=pl;obtain⟨cls,dd,data,sl⟩:=o;simp only at hc hd hs;subst hc hd hs;rw[aH] at hz;have hb:=Mi r;subst hb;obtain⟨a,b⟩:=Mh hj;have hjn:j<ns.length:=(aX.mp a).1;let e:aJ->Bool:=λy=>match y with | .bool c=>c==k | _=>aC
 have sz:sizeLine<2^62:=by decide
 refine iY F.slot_list_index ⟨_,ho,rfl⟩ F.entry_list_index (F.args_list_index_2 _ _) (SeqAt.list_indexAt p (ns.map gW).toArray n aB sl (.bool k) e j (by simp;omega) (by omega) ?_ ?_) ⟨ho,λy hy=>?_,.int (j:Int),H,I.tok _,⟨_,rfl⟩,q⟩
 ·rw[aG hjn] at a;simp only[la,i6];show(ns[j]==k)=aD;rw[bB a];simp
 ·intro m hm hmj;have hm2:m<ns.length:=by simpa using hm
  have:=b m hmj;rw[aG hm2] at this;simp only[la,i6];show(ns[m]==k)=aC;simpa using this
 ·simp at hy;rcases hy with⟨hb,rfl⟩ | ⟨hb,rfl⟩<;>exact jD _ _
theorem IS{X:Cx}:MtR X "list.count" (Dh X.K):=by
 intro du s Z H x vs v us Q I rx rv h;obtain⟨p,ns,k,rfl,rfl,hq,q⟩:=h;cases rx;obtain⟨u,rfl,ru⟩:=Uv rv;obtain rfl:u=gW k:=ru;obtain⟨pA,r,pl,hz⟩:=I.list hq;obtain⟨o,n,ho,hc,hd,hs⟩:=pl;obtain⟨cls,dd,data,sl⟩:=o;simp only at hc hd hs;subst hc hd hs;have hb:=Mi r;subst hb;let e:aJ->Bool:=λy=>match y with | .bool c=>c==k | _=>aC
 have hcnt:((ns.map gW).toArray.toList.countP e)=(ns.filter (·==k)).length:=by rw[<-jP];simp only[nh];rfl
 refine iY F.slot_list_count ⟨_,ho,rfl⟩ F.entry_list_count (F.args_list_count_2 _ _) (SeqAt.list_countAt p (ns.map gW).toArray n aB sl (.bool k) e) ⟨ho,λy hy=>?_,?_⟩
 ·simp at hy;rcases hy with⟨hb,rfl⟩ | ⟨hb,rfl⟩<;>exact jD _ _
 ·rw[hcnt];exact⟨.int _,H,I.tok _,⟨_,rfl⟩,q⟩
def R7:PV->PV->Option PV
 | .lst l,.bl k=>(Vh l).bind λns=>(BP k ns).map λ(j:Nat)=>PV.int (j:Int)
 | _,_=>aB
def Sw:PV->PV->Option PV
 | .lst l,.bl k=>(Vh l).map λns=>PV.int ((ns.filter (·==k)).length:Int)
 | _,_=>aB
section
variable {X:Cx} {o e:bK} {fo fe:XE} {apos p6:fN}
theorem IT(ho:VE X o fo)(he:VE X e fe)
  (hbase:mR o "index" X.env (eval o X.env)=eval o X.env:=by rfl)
  (hfew:((cw p6 (aR [e] X.env)).all (λx=>!x.1)&&(oA p6 (lU [] X.env)).all (λx=>x.1.isSome)
   &&decide (([e]:List bK).length+([]:List mB).length+(if([]:List mB).isEmpty then 0 else 1)<30))=aD:=by rfl)
  (hline:(apos.endLine==p6.line)=aD:=by rfl) (hs:aR [e] X.env=(aC,eval e X.env)::aR [] X.env:=by rfl) (hplain:(cw p6 (aR [] X.env)).any (·.1)=aC:=by rfl) :
  VE X (.Call (.Attribute o "index" apos) [e] [] p6) (Zf R7 fo fe):=
 PE.imp (W5 F.plainAttrs_list F.slot_list_index F.type_list_index IQ ho (Zb he Zh hs) hbase hfew hline hs hplain) λZ H Q ⟨Rm,s,l,hd,env,e,k⟩=>by
  obtain⟨x',y',e1,e2,e⟩:=Vz e;refine⟨Rm,s,x',hd,env,e1,λv H1 fp s1 i1 n1=>?_⟩;unfold R7 at e;split at e
  ·obtain⟨ns,e3,e4⟩:=Ze e;obtain⟨j,hj,rfl⟩:=map_some e4;have em:=WM e3;subst em;obtain⟨p,xs,fq,rfl,hp,hi,_⟩:=i1.lst_inv;obtain⟨rfl,rfl⟩:=hi.bL;refine⟨.inl ⟨rfl,_,.inl (.inl hp)⟩,Rm,s,[.bl _],λq hq=>Same.mut s1 (hd q hq),env.mono s1,by show(fe s).bind _=_;rw[e2];rfl,λvs H2 fq s2 i2 n2=>?_⟩;obtain⟨w,rfl,iw⟩:=i2.one_inv;rw[iw.bl_inv.1];exact⟨p,ns,_,j,rfl,rfl,.inl (.inl (s2 _ _ hp)),hj,k _ _ [] (s1.trans s2) (Is.int _) λr hr=>by simp at hr⟩
  ·cases e
theorem IU(ho:VE X o fo)(he:VE X e fe)
  (hbase:mR o "count" X.env (eval o X.env)=eval o X.env:=by rfl)
  (hfew:((cw p6 (aR [e] X.env)).all (λx=>!x.1)&&(oA p6 (lU [] X.env)).all (λx=>x.1.isSome)
   &&decide (([e]:List bK).length+([]:List mB).length+(if([]:List mB).isEmpty then 0 else 1)<30))=aD:=by rfl)
  (hline:(apos.endLine==p6.line)=aD:=by rfl) (hs:aR [e] X.env=(aC,eval e X.env)::aR [] X.env:=by rfl) (hplain:(cw p6 (aR [] X.env)).any (·.1)=aC:=by rfl) :
  VE X (.Call (.Attribute o "count" apos) [e] [] p6) (Zf Sw fo fe):=
 PE.imp (W5 F.plainAttrs_list F.slot_list_count F.type_list_count IS ho (Zb he Zh hs) hbase hfew hline hs hplain) λZ H Q ⟨Rm,s,l,hd,env,e,k⟩=>by
  obtain⟨x',y',e1,e2,e⟩:=Vz e;refine⟨Rm,s,x',hd,env,e1,λv H1 fp s1 i1 n1=>?_⟩;unfold Sw at e;split at e
  ·obtain⟨ns,e3,rfl⟩:=map_some e;have em:=WM e3;subst em;obtain⟨p,xs,fq,rfl,hp,hi,_⟩:=i1.lst_inv;obtain⟨rfl,rfl⟩:=hi.bL;refine⟨.inl ⟨rfl,_,.inl (.inl hp)⟩,Rm,s,[.bl _],λq hq=>Same.mut s1 (hd q hq),env.mono s1,by show(fe s).bind _=_;rw[e2];rfl,λvs H2 fq s2 i2 n2=>?_⟩;obtain⟨w,rfl,iw⟩:=i2.one_inv;rw[iw.bl_inv.1];exact⟨p,ns,_,rfl,rfl,.inl (.inl (s2 _ _ hp)),k _ _ [] (s1.trans s2) (Is.int _) λr hr=>by simp at hr⟩
  ·cases e
end
section
variable {X:Cx} {O W:List Nat} {k n i:Nat} {x y cx nm:ah} {ps:List ah} {R:List PV->Option ah} {e:bK} {es:List bK} {fs:List XE} {p py cp ep np hp pos:fN} {b₀:cO} {suite:List cO} {f:XS} {Cb:aM} {Zt:List gx}
theorem Di{body:List cO}{h₀:gx}{hs:List gx}(hb:Ip X.nox O W body f):VS X O W (.Try body (h₀::hs) [] [] pos) f:=by
 intro du s Z H D I h;refine wpAny_Try_except (cH (hb du s Z H D (I.wish _) h) (λfl s1 q=>?_) λ_ _ z=>z.elim)
 cases fl with
 | next=>
  obtain⟨Z',H',I',z⟩:=q;exact gy ⟨Z',H',I'.unwish,z⟩
 | ret u=>
  obtain⟨v,Z',H',I',r,z⟩:=q;exact⟨v,Z',H',I'.unwish,r,z⟩
 | brk=>
  obtain⟨Z',H',I',z⟩:=q;exact⟨Z',H',I'.unwish,z⟩
 | cont=>
  obtain⟨Z',H',I',z⟩:=q;exact⟨Z',H',I'.unwish,z⟩
def AN(f g:XS):XS:=λs=>match f s with
 | some o=>aA o
 | none=>g s
theorem AO{st:cO}{g:XS}{W1 W2:List Nat}(h1:VS X O W1 st f)(h2:VS X O W2 st g):VS X O (W1++W2) st (AN f g):=by
 intro du s Z H D I ⟨H0,fps,sp,out,r,e,k⟩;have s1:∀j,j∉W1++W2->j∉W1:=λj hj z=>hj (av _ z);have s2:∀j,j∉W1++W2->j∉W2:=λj hj z=>hj (au _ z);unfold AN at e;split at e
 ·rename_i o ho;cases e;exact h1 du s Z H D I ⟨H0,fps,sp,_,r,ho,k.same (λj _=>⟨rfl,Kep.refl _⟩) s1⟩
 ·exact h2 du s Z H D I ⟨H0,fps,sp,_,r,e,k.same (λj _=>⟨rfl,Kep.refl _⟩) s2⟩
end
def nms:List ah:=["NoWeb","Apart","NoText","NoOrder","TooMany","NotSettled","NoTree","NoTotal","NoEnds","NoRow","NoName"]
def RM(nm cx:ah):ah->Option Bool:=λn=>if n=nm then aA (decide (cx=nm)) else aB
def BQ(nm:ah):ah->Option Bool:=λn=>if n=nm then aA aD else aB
structure QN(nm:ah)(K:aI)(mg:ah->Option aJ)(C Cb:aM):Prop where
 no:cB K bJ nm=aA (aA (.ref C))
 mgo:mg nm=aA (.ref C)
 mgb:mg "PurseError" = aA (.ref Cb)
 ex:gw K C [.type "ValueError",.type "Exception",.type "BaseException",.type "object"] "ValueError.__new__" = aD
 ec:JD K C
 kb:eU K Cb "BaseException" = aD
 bl:belowIn K C Cb=aD
 cls:∀cx∈nms,∃D,mg cx=aA (.ref D)/\bM K (.ref C) (.ref D)=aA (decide (cx=nm))
 ve:bM K (.ref C) (.type "ValueError")=aA aD
section
variable {X:Cx} {nmC:ah} {C Cb:aM} {e:bK} {f:XE} {cx:ah} {p p2 pos:fN}
theorem Vb(Q:QN nmC X.K X.mg C Cb)(hgi:Gl X "isinstance")(hm:X.mg "isinstance" = aB)(he:VE X e f)(hcx:cx∈nms)(hgc:Gl X cx)(hdb:(cx==("__debug__" : ah))=aC:=by decide)
  (hst:aR [e,.Name cx p2] X.env=(aC,eval e X.env)::aR [.Name cx p2] X.env:=by rfl) (hst2:aR [.Name cx p2] X.env=(aC,eval (.Name cx p2) X.env)::aR [] X.env:=by rfl) (hpl:(cw pos (aR [.Name cx p2] X.env)).any (·.1)=aC:=by rfl):VM X (.Call (.Name "isinstance" p) [e,.Name cx p2] [] pos) (Xx (RM nmC cx) f):=by
 obtain⟨D,hD,hk⟩:=Q.cls cx hcx;refine G8 hgi hm he (.own D) (Dd hgc hD hdb) (λn b h=>?_) hst hst2 hpl;unfold RM at h;split at h
 ·rename_i hn;subst hn;cases h;exact⟨C,Q.no,Q.ec,hk⟩
 ·cases h
theorem Dj(Q:QN nmC X.K X.mg C Cb)(hgi:Gl X "isinstance")(hm:X.mg "isinstance" = aB)(he:VE X e f)(hgc:Gl X "ValueError")(hv:X.mg "ValueError" = aB)
  (hst:aR [e,.Name "ValueError" p2] X.env=(aC,eval e X.env)::aR [.Name "ValueError" p2] X.env:=by rfl) (hst2:aR [.Name "ValueError" p2] X.env=(aC,eval (.Name "ValueError" p2) X.env)::aR [] X.env:=by rfl) (hpl:(cw pos (aR [.Name "ValueError" p2] X.env)).any (·.1)=aC:=by rfl):VM X (.Call (.Name "isinstance" p) [e,.Name "ValueError" p2] [] pos) (Xx (BQ nmC) f):=by
 refine G8 hgi hm he (.ty "ValueError") (De hgc hv (by decide +kernel)) (λn b h=>?_) hst hst2 hpl;unfold BQ at h;split at h
 ·rename_i hn;subst hn;cases h;exact⟨C,Q.no,Q.ec,Q.ve⟩
 ·cases h
end
def sEx(f:XE):XS:=λs=>(f s).map λ_=>.nx s
theorem AQ{X:Cx}{O:List Nat}{e:bK}{f:XE}{pos:fN}(he:VE X e f)(hs:g8 e aB pos.line X.env=pure aC:=by rfl):VS X O [] (.Expr e pos) (sEx f):=PS.imp (Xb he hs) λD Z H ⟨H0,fps,s,out,r,e,k⟩=>by obtain⟨l,e1,rfl⟩:=map_some e;exact⟨λ_=>False,s,l,λ_ z=>z.elim,r.env,e1,λv H' fp sm is _=>k fps Z H' (r.grow sm) λj _=>⟨rfl,Kep.refl _⟩⟩
end VX
namespace PW
open PySem L2 VL
def QU:XS:=(Zk (Zl 1 (ZN []))
  (Zk (Z3 [1] (ZG [Zd Zx [Za 0]]) (.one 2) (Z3 [1] (Yi [Zf ZO (Za 2) (eC (.int 1)),Zd Zx [Za 0]]) (.one 3) (Xz 1 (ZA 1 [2,3] (ZG [Zf Zn (Zf Zn (Za 0) (Za 2)) (Za 3)]) (.one 0) ZZ (eP (Yg [Za 1,Za 2]))))))
  (Ya (Za 1))))
def G9:List PV->Option PV:=Xi 4 QU
end PW
namespace VL
open PySem
theorem LQ{mask:Nat}{ow:Array (Option Nat)}{i p f:Nat}(h:(ow.getD i (aA 0)).isNone=aD):iR mask ow (f+1) i p=aA i:=by unfold iR;have hr:∃r,iA mask i+1-i=r+1:=⟨iA mask i-i,by unfold iA;split<;>omega⟩;obtain⟨r,hr⟩:=hr;rw[hr,gJ,cf];simp only[kh,h]
def LR(ks:List Nat)(j:Nat):Option Nat:=if j∈ks then aA (ks.idxOf j) else aB
def Sx(mask:Nat)(acc:Option (Array (Option Nat)×Nat))(h:Int):Option (Array (Option Nat)×Nat):=acc.bind λz=>(iR mask z.1 (fj mask) (kB h%(mask+1)) (kB h)).bind λj=>aA (z.1.setIfInBounds j (aA z.2),z.2+1)
theorem UQ{ow:Array (Option Nat)}{j:Nat}(h:j<ow.size)(d:Option Nat):ow.getD j d=ow[j]:=by unfold jd;rw[dif_pos h];rfl
end VL
namespace VL
open PySem PySem.Spec PyProof.Rows
theorem Ni{k:Nat}(h:k<=31):kB (k:Int)=k:=by unfold kB;omega
theorem Fb{led:Bool}{t:dB}(ht:Wn led t)(hm:31<=t.mask){k:Nat}(hk:k<=31)(hn:k∉t.place.toList):t.freeSlot (k:Int)=aA (k,aC):=by
 have no:¬t.place[ba t.place k]?=aA k:=λz=>hn (by
  rw[<-eY] at z;exact bN z)
 have hh:dy t.dummies k=aC:=by rw[ht.dum];unfold dy;simp
 have sl:t.slot k = .empty:=by unfold jz;simp only;rw[pE (by simpa using no),hh];rfl
 have st:(t.probeStart (k:Int)).j=k:=by unfold mK;simp only;rw[Ni hk];exact nP (by omega)
 have pr:t.probe (λ_=>(k:Int)+1) (k:Int) (t.probeStart (k:Int))=aA (.empty k aB):=by unfold oU;obtain⟨f,hf⟩:∃f,10*fj t.mask=f+1:=⟨10*fj t.mask-1,by unfold fj;omega⟩;rw[hf];unfold fJ;rw[st,sl];rfl
 unfold js;rw[pr];rfl
def nx8(j:Nat):Nat:=(j*5+1)%8
def Dk:Nat->Nat->Nat
 | 0,j=>j
 | n+1,j=>Dk n (nx8 j)
theorem JE{t:dB}(hd:t.dummies = #[]){j:Nat}(h:t.slot j≠.empty):j∈t.place.toList/\∃i,t.slot j = .live i:=by
 have hh:dy t.dummies j=aC:=by rw[hd];unfold dy;simp
 unfold jz at h ⊢;simp only at h ⊢;by_cases q:(t.place[ba t.place j]?==aA j)=aD
 ·rw[pC q];have q':t.place[ba t.place j]?=aA j:=by simpa using q
  rw[<-eY] at q';exact⟨bN q',_,rfl⟩
 ·rw[pE q,hh] at h;exact absurd rfl h
theorem JF{t:dB}(hd:t.dummies = #[])(hm:t.mask=7){h:Int}:∀(n fuel:Nat)(p:oO),n<fuel->p.more=0->p.i=p.j->p.perturb<32->p.dummy=aB->t.slot (Dk n p.j) = .empty->
  ∃j,fJ t (λ_=>h+1) h fuel p=aA (.empty j aB)
 | n,0,p,hf,_,_,_,_,_=>by omega
 | n,fuel+1,p,hf,h1,h2,h3,h4,he=>by
  unfold fJ;by_cases q:t.slot p.j = .empty
  ·rw[q];exact⟨p.j,by rw[h4]⟩
  ·obtain⟨_,i,hi⟩:=JE hd q;rw[hi];have ne:((h+1:Int)==h)=aC:=by simp;omega
   simp only[ne]
   cases n with
   | zero=>exact absurd he q
   | succ n=>
    have adv:t.advance p={ p with j:=nx8 p.j,more:=0,i:=nx8 p.j,perturb:=0 }:=by
     unfold nM dB.leap iA;have h0:p.perturb/32=0:=by omega
     rw[pE (by omega)];simp only[hm,h2,h0];have lt:(p.j*5+1+0)%(7+1)<8:=m7 _ (by decide);rw[pE (by omega)];unfold nx8;simp
    rw[adv];exact JF hd hm n fuel _ (by omega) rfl rfl (by show 0<32;decide) h4 he
theorem Dl:∀j,j<8->[Dk 0 j,Dk 1 j,Dk 2 j,Dk 3 j,Dk 4 j].Nodup:=by decide
theorem Mj:∀{l m:List Nat},l.Nodup->(∀x∈l,x∈m)->l.length<=m.length
 | [],m,_,_=>gA _
 | x::l,m,nd,sub=>by have nd':=az.mp nd;have hx:=sub x (by simp);have:=Mj (l:=l) (m:=m.erase x) nd'.2 λy hy=>(jJ (λz:y=x=>nd'.1 (by rw[<-z];exact hy))).mpr (sub y (by simp[hy]));rw[kC hx] at this;have:0<m.length:=kj hx;simp only[bA];omega
theorem Fc{led:Bool}{t:dB}(ht:Wn led t)(hm:t.mask=7)(hs:t.place.size<=4){k:Nat}(hk:k<=31):∃j,t.freeSlot (k:Int)=aA (j,aC):=by
 have h8:k%8<8:=m7 _ (by decide)
 obtain⟨n,n5,hn⟩:∃n,n<5/\t.slot (Dk n (k%8)) = .empty:=by
  refine Classical.byContradiction λq=>?_;have all:∀n,n<5->Dk n (k%8)∈t.place.toList:=λn h=>(JE ht.dum λz=>q ⟨n,h,z⟩).1
  have:=Mj (Dl (k%8) h8) (m:=t.place.toList) (λx hx=>by
   simp only[a9,fm,or_false] at hx;rcases hx with rfl | rfl | rfl | rfl | rfl
   ·exact all 0 (by decide)
   ·exact all 1 (by decide)
   ·exact all 2 (by decide)
   ·exact all 3 (by decide)
   ·exact all 4 (by decide))
  simp at this;omega
 have st:t.probeStart (k:Int)={ j:=k%8,more:=0,i:=k%8,perturb:=k,dummy:=aB }:=by unfold mK iA;rw[Ni hk,hm];have:k%(7+1)<8:=m7 _ (by decide);simp only;rw[pE (by omega)];simp
 obtain⟨j,hj⟩:=JF ht.dum hm (h:=(k:Int)) n (10*fj t.mask) { j:=k%8,more:=0,i:=k%8,perturb:=k,dummy:=aB } (by unfold fj;omega) rfl rfl (by show k<32;omega) rfl hn;refine⟨j,?_⟩;unfold js oU;rw[st,hj];rfl
theorem Oz{mask:Nat}(hm:31<=mask):∀(ks dn:List Nat)(ow:Array (Option Nat)),(dn++ks).Nodup->(∀k∈ks,k<=31)->ow.size=mask+1->(∀j,j<=mask->ow.getD j aB=LR dn j)->
  ∃ow',(ks.map λ(k:Nat)=>(k:Int)).foldl (Sx mask) (aA (ow,dn.length))=aA (ow',(dn++ks).length)/\ow'.size=mask+1/\∀j,j<=mask->ow'.getD j aB=LR (dn++ks) j
 | [],dn,ow,_,_,hs,ho=>⟨ow,by simp,hs,by simpa using ho⟩
 | k::ks,dn,ow,nd,hk,hs,ho=>by
  have k7:=hk k (by simp);have kn:k∉dn:=λz=>by rw[cW] at nd;exact nd.2.2 k z k (by simp) rfl
  have fr:(ow.getD k (aA 0)).isNone=aD:=by have:=ho k (by omega);rw[UQ (by omega)] at this;rw[UQ (by omega),this];unfold LR;rw[pE kn];rfl
  obtain⟨f,hf⟩:∃f,fj mask=f+1:=⟨mask+14,rfl⟩;have st:Sx mask (aA (ow,dn.length)) (k:Int)=aA (ow.setIfInBounds k (aA dn.length),dn.length+1):=by unfold Sx;simp only[aE];rw[Ni k7,nP (show k<mask+1 by omega),hf,LQ fr];rfl
  obtain⟨ow',e1,e2,e3⟩:=Oz hm ks (dn++[k]) (ow.setIfInBounds k (aA dn.length)) (by simpa using nd) (λq hq=>hk q (by simp[hq])) (by simpa using hs) (λj hj=>by
   rw[UQ (by simp;omega),Array.getElem_setIfInBounds (by omega)];have o:=ho j hj;rw[UQ (by omega)] at o;by_cases q:k=j
   ·subst q;rw[pC rfl];unfold LR;rw[pC (by simp),nC,pE kn];simp
   ·rw[pE q,o];unfold LR;by_cases z:j∈dn
    ·rw[pC z,pC (by simp[z]),nC,pC z]
    ·rw[pE z,pE (by simp[z];exact λy=>q y.symm)])
  refine⟨ow',?_,e2,by simpa using e3⟩;rw[aZ,fB,st];have:dn.length+1=(dn++[k]).length:=by simp
  rw[this,e1];simp
theorem Px(mask:Nat)(hs:Array Int):ju mask hs=(hs.toList.foldl (Sx mask) (aA (lA (mask+1) aB,0))).map (·.1):=by unfold ju;rw[<-Array.foldl_toList];rfl
theorem Mk{α β:Type}{f g:α->Option β}:∀{l:List α},(∀j∈l,f j=g j)->l.filterMap f=l.filterMap g
 | [],_=>rfl
 | a::l,h=>by rw[di,di,h a (by simp),Mk λj hj=>h j (by simp[hj])]
theorem D7{α β:Type}(p:α->Bool)(g:α->β):∀l:List α,(l.filterMap λj=>if p j=aD then aA (g j) else aB)=(l.filter p).map g
 | []=>rfl
 | a::l=>by
  have:=D7 p g l;cases h:p a<;>simp[di,List.filter,h,this]
theorem IV{ks:List Nat}(nd:ks.Nodup):ks.map (λj=>ks.idxOf j)=aS ks.length:=by
 apply gj
 ·simp
 ·intro i h1 h2;simp only[aH] at h1;rw[i6,ma];have hi:ks.idxOf ks[i]<ks.length:=kD.mpr (cA h1);exact(kK nd).mp (me hi)
theorem IW{t:dB}{es:Array (Int×aJ)}{ks:List Nat}(hk:es.toList.map (·.1)=ks.map λ(k:Nat)=>(k:Int))(nd:ks.Nodup)(h31:∀k∈ks,k<=31)(hl:ks.length<=18)(hp:t.plain=aD) :
  ∃es2 t2,oP t es 20=(es2,t2,aC)/\t2.plain=aD/\t2.mask=31/\es2.toList.map (·.1)=t2.place.toList.map λ(k:Nat)=>(k:Int):=by
 have hsz:es.size=ks.length:=by have:=congrArg dj hk;simpa using this
 obtain⟨ow,e1,e2,e3⟩:=Oz (mask:=31) (by decide) ks [] (lA 32 aB) (by simpa using nd) h31 (by simp) (λj hj=>by
  unfold LR;rw[UQ (by simp;omega)];simp)
 have ls:ju 31 (es.map (·.1))=aA ow:=by rw[Px,Array.toList_map,hk];have:(ks.map λ(k:Nat)=>(k:Int)).foldl (Sx 31) (aA (lA (31+1) aB,0))=aA (ow,([]++ks).length):=e1;rw[this];rfl
 let SJ:=(aS 32).filter λj=>decide (j∈ks)
 have live:((aS (31+1)).filterMap λj=>(ow.getD j aB).map λz=>(j,z))=SJ.map λj=>(j,ks.idxOf j):=by
  rw[<-D7 (λj=>decide (j∈ks)) (λj=>(j,ks.idxOf j))];refine Mk λj hj=>?_;have hj':j<=31:=by have:=bR.mp hj;omega
  rw[e3 j hj'];unfold LR;simp only[jM];by_cases q:j∈ks<;>simp[q]
 have pm:SJ.Perm ks:=(List.perm_ext_iff_of_nodup (i7.filter _) nd).mpr λx=>by show x∈(aS 32).filter (λj=>decide (j∈ks))↔_;rw[gK,bR,decide_eq_true_eq];exact⟨λh=>h.2,λh=>⟨by have:=h31 x h;omega,h⟩⟩
 let t2:dB:={ mask:=31,place:=SJ.toArray,dummies:=#[],finger:=t.finger,led:=t.led,moves:=t.movedTo 31,plain:=t.plain };have rl:t.relaid (es.map (·.1)) 20=aA (t2,(SJ.map λj=>ks.idxOf j).toArray):=by show mV 31 t.finger (t.movedTo 31) t.led t.plain (es.map (·.1))=_;unfold mV;rw[ls];simp only[mI,aE,n9];rw[live,bQ,bQ];simp only[Function.comp_def,List.map_id'];rfl
 have inj:∀j∈SJ,∃e,es[ks.idxOf j]?=aA e/\e.1=(j:Int):=λj hj=>by
  have jk:j∈ks:=pm.mem_iff.mp hj;have li:=kD.mpr jk;have l2:ks.idxOf j<es.size:=by omega
  refine⟨es[ks.idxOf j],by simp[l2],?_⟩;have g:=congrArg (λl=>l[ks.idxOf j]?) hk;simp only[aU] at g;rw[aG li,eY,dq l2] at g;simp only[bF,gR] at g;rw[g,me]
 have em:∀l:List Nat,(∀j∈l,∃e,es[ks.idxOf j]?=aA e/\e.1=(j:Int))->(((l.map λj=>ks.idxOf j).filterMap λi=>es[i]?).map (·.1))=l.map λ(j:Nat)=>(j:Int):=by
  intro l
  induction l with
  | nil=>intro _;rfl
  | cons j l ih=>
   intro h;obtain⟨e,e1,e2⟩:=h j (by simp);rw[aZ,di,e1];simp only[aZ];rw[ih λx hx=>h x (by simp[hx]),e2]
 let es2:=((SJ.map λj=>ks.idxOf j).toArray.filterMap λi=>es[i]?);have e2l:es2.toList.map (·.1)=SJ.map λ(j:Nat)=>(j:Int):=by show((SJ.map λj=>ks.idxOf j).toArray.filterMap λi=>es[i]?).toList.map (·.1)=_;rw[Array.toList_filterMap];exact em SJ inj
 have ln2:es2.size=ks.length:=by have:=congrArg dj e2l;simp only[aH,cJ] at this;rw[this,pm.length_eq]
 have cv:coversAll (SJ.map λj=>ks.idxOf j).toArray es.size=aD:=by unfold coversAll;rw[List.isPerm_iff,hsz,<-IV nd];exact pm.map _
 have ft:t2.fits es2.size=aD:=by unfold mW kE;rw[ln2];have:SJ.length=ks.length:=pm.length_eq;simp[t2,this];omega
 refine⟨es2,t2,?_,hp,rfl,e2l⟩;unfold oP;rw[rl];show(if(coversAll (SJ.map λj=>ks.idxOf j).toArray es.size&&t2.fits es2.size)=aD then(es2,t2,aC) else _)=_;rw[cv,ft];rfl
structure Dm(led:Bool)(Td:Nat)(es:Array (Int×aJ))(t:dB):Prop where
 tab:Wn led t
 plain:t.plain=aD
 fits:t.fits es.size=aD
 val:∀e∈es.toList,∃tg,e.2=dN e.1 tg
 way:∃ks:List Nat,es.toList.map (·.1)=(ks.map λ(k:Nat)=>(k:Int))/\ks.Nodup/\(∀k∈ks,k<=31)/\((t.mask=7/\ks.length<=Td)\/(t.mask=31/\t.place.toList=ks))
theorem Ml{α:Type}(xs:Array α)(p:Nat)(x:α):(fI xs p x).toList=xs.toList.take p++x::xs.toList.drop p:=by
 unfold fI;simp only[eJ,iN,l6];have take:(xs.toList.extract 0 p)=xs.toList.take p:=by simp[kg]
 have drop:(xs.toList.extract p xs.size)=xs.toList.drop p:=by simp only[kg];exact cG (by simp)
 rw[take,drop];simp
theorem VJ{t:dB}{n:Nat}(h:t.fits n=aD):t.place.size=n:=by unfold mW at h;simp only[ak,beq_iff_eq,decide_eq_true_eq] at h;exact h.1
theorem IX{led:Bool}{es:Array (Int×aJ)}{t:dB}(h:Dm led 4 es t){k:Nat}(hk:k<=31)(hn:(k:Int)∉es.toList.map (·.1))(hl:es.size<=17)(tg:Tok) :
  ∃es1 t1,oq t es (k:Int) (.int k tg)=(es1,t1,aC,aC)/\Dm led 5 es1 t1:=by
 obtain⟨ks,e1,nd,h31,way⟩:=h.way;have hsz:ks.length=es.size:=by have:=congrArg dj e1;simpa using this.symm
 have ps:=VJ h.fits;have kn:k∉ks:=λz=>hn (by rw[e1];exact aa.mpr ⟨k,z,rfl⟩)
 obtain⟨j,hj,hB⟩:∃j,t.freeSlot (k:Int)=aA (j,aC)/\(t.mask=31->j=k):=by
  rcases way with⟨m,l4⟩ | ⟨m,pl⟩
  ·obtain⟨j,hj⟩:=Fc h.tab m (by omega) hk;exact⟨j,hj,λz=>by omega⟩
  ·exact⟨k,Fb h.tab (by omega) hk (by rw[pl];exact kn),λ_=>rfl⟩
 have hh:dy t.dummies j=aC:=by rw[h.tab.dum];unfold dy;simp
 let p:=ba t.place j;let t1:dB:={ t with place:=fI t.place p j };let es1:=fI es p ((k:Int),dN (k:Int) tg);have pt:t.put j=(t1,p):=by unfold dB.put;simp only[hh];rfl
 have l1:es1.toList=es.toList.take p++((k:Int),dN (k:Int) tg)::es.toList.drop p:=Ml _ _ _;have lp:t1.place.toList=t.place.toList.take p++j::t.place.toList.drop p:=Ml _ _ _;have s1:es1.size=es.size+1:=by have:=congrArg dj l1;rw[aY,bA,bp,bq] at this;simp only[cJ] at this;omega
 have sp:t1.place.size=es.size+1:=by have:=congrArg dj lp;rw[aY,bA,bp,bq] at this;simp only[cJ] at this;omega
 have ft:t1.fits es1.size=aD:=by
  unfold mW kE;rw[sp,s1];have d:t1.dummies.size=0:=by show t.dummies.size=0;rw[h.tab.dum];rfl
  rw[d];have m:t1.mask=t.mask:=rfl;rw[m];simp only[beq_self_eq_true,kF,decide_eq_true_eq];rcases way with⟨m,l4⟩ | ⟨m,pl⟩<;>omega
 have ly:oq t es (k:Int) (.int k tg)=(es1,t1,aC,aC):=by unfold oq;rw[hj];simp only[pt];show(es1,t1.orStandIn es1.size,aC,!t1.fits es1.size)=_;unfold m6;rw[ft];rfl
 have tk:=LJ h.tab es (k:Int) (.int k tg);rw[ly] at tk;refine⟨es1,t1,ly,tk,h.plain,ft,λe he=>?_,ks.take p++k::ks.drop p,?_,?_,λx hx=>?_,?_⟩
 ·rw[l1] at he;rcases aq.mp he with z | z
  ·exact h.val e (dA z)
  ·rcases a9.mp z with rfl | z
   ·exact⟨tg,rfl⟩
   ·exact h.val e (fH z)
 ·rw[l1,bV,aZ,fT,ip,e1,bV,aZ,fT,ip]
 ·have pm:(ks.take p++k::ks.drop p).Perm (k::ks):=by
   have:=nK (a:=k) (l₁:=ks.take p) (l₂:=ks.drop p)
   rwa [lJ] at this
  exact pm.nodup_iff.mpr (az.mpr ⟨kn,nd⟩)
 ·rcases aq.mp hx with z | z
  ·exact h31 x (dA z)
  ·rcases a9.mp z with rfl | z
   ·exact hk
   ·exact h31 x (fH z)
 ·rcases way with⟨m,l4⟩ | ⟨m,pl⟩
  ·left;refine⟨m,?_⟩;rw[aY,bA,bp,bq];omega
  ·right;refine⟨m,?_⟩;rw[lp,pl,hB m]
def Uq(N:List Int)(k:Int):List Int:=if k∈N then N else N++[k]
section
variable {prog:bE} {w:bg} {A:bc} {E:aJ->aN->Prop} {s:aN}
def SetP(prog:bE)(w:bg)(led:Bool)(h:bw)(a:aM)(N:List Int):Prop:=
 ∃o es ep t,h.get? a=aA o/\o.ExactSet/\o.data = .set es ep t/\ElemsOf (jR prog w) es.toList/\(es.toList.map (·.1)).Perm N/\Dm led 4 es t
theorem SetP.keep{led:Bool}{h h':bw}{a:aM}{N:List Int}(x:SetP prog w led h a N)(k:∀o,h.get? a=aA o->h'.get? a=aA o):SetP prog w led h' a N:=by obtain⟨o,es,ep,t,h1,r⟩:=x;exact⟨o,es,ep,t,k o h1,r⟩
theorem OA{h:bw}{a:aM}{o:dX}{es es':Array (Int×aJ)}{ep:Nat}{t t':dB}(ho:h.get? a=aA o)(hd:o.data = .set es ep t):(h.update a (dX.putSet es' t')).get? a=aA { o with data:=.set es' (ep+1) t' }:=by have:=cC (dX.putSet es' t') ho (by rw[putSet_of _ _ hd];rfl);rw[putSet_of _ _ hd] at this;exact this
theorem Dn{k:Nat}(h:k<=31):hashInt (k:Int)=k:=by
 have:∀k,k<=31->hashInt ((k:Nat):Int)=(k:Int):=by decide +kernel
 exact this k h
theorem Fe{a:aM}{N:List Int}{k:Nat}{tg:Tok}{led:Bool}{Q:Bool->aN->Prop}(hS:SetP prog w led s.heap a N)(k31:k<=31)(hl:N.length<=17)
  (h:∀h' b,gD a s.heap h'->SetP prog w led h' a (Uq N (k:Int))->Q b { s with heap:=h' }):ao (model prog w) A (setAddHashed a (.int k tg) ((jR prog w).hash k)) Q E s:=by
 obtain⟨o,es,ep,t,ho,hx,hd,he,hN,ht⟩:=hS;have hf:=ht.fits;have hz:es.size=N.length:=by have:=hN.length_eq;simpa using this
 have hb:es.size<scanBound:=by have:scanBound=4096:=rfl;omega
 have hki:(jR prog w).is (k:Int) (.int k tg)=aD:=mf _ _ _ _;have hsc:(dN (k:Int) tg).scannable=aD:=rfl
 have hsame:∀e∈es.toList,(jR prog w).is (k:Int) e.2=aD↔e.1=(k:Int):=λe hm=>by
  obtain⟨u,hu⟩:=ht.val e hm;rw[hu];constructor
  ·intro z;exact(jR prog w).inj _ _ _ (mf prog w e.1 u) z
  ·intro z;rw[z];exact mf _ _ _ _
 unfold setAddHashed setAddHashedIn;refine dR (aF (gV ho hd hf ?_));simp only[byScan_of hsc hb he,if_true];unfold setAddByScan;refine aF (aF (oI (aF (wpAny_setScan_of hki ho hd hf he ?_))))
 cases q:List.findIdx? (λe=>(jR prog w).is (k:Int) e.2) es.toList with
 | some j=>
  obtain⟨lj,pj,_⟩:=List.findIdx?_eq_some_iff_getElem.mp q;have hin:(k:Int)∈N:=hN.mem_iff.mp (aa.mpr ⟨_,cA lj,(hsame _ (cA lj)).mp pj⟩);refine aP (aP ?_);have g:=h s.heap aC (gD.refl a s.heap);unfold Uq at g;rw[pC hin] at g;exact g ⟨o,es,ep,t,ho,hx,hd,he,hN,ht⟩
 | none=>
  have nin:(k:Int)∉es.toList.map (·.1):=λz=>by obtain⟨e,hm,e1⟩:=aa.mp z;have:=List.findIdx?_eq_none_iff.mp q e hm;rw[(hsame e hm).mpr e1] at this;cases this
  have nN:(k:Int)∉N:=λz=>nin (hN.mem_iff.mpr z);have hh:(jR prog w).hash (k:Int)=(k:Int):=Dn k31;rw[hh];obtain⟨es1,t1,ly,t5⟩:=IX ht k31 nin (by omega) tg;have pm:=layNew_perm t es (k:Int) (.int k tg);rw[ly,iN] at pm;have he1:ElemsOf (jR prog w) es1.toList:=by have:=he.push hki hsc;rw[hh] at this;exact this.perm pm
  have hN1:(es1.toList.map (·.1)).Perm (Uq N (k:Int)):=by unfold Uq;rw[pE nN];have p2:=pm.map (λe:Int×aJ=>e.1);rw[bV] at p2;exact p2.trans (hN.append_right [(k:Int)])
  have sz1:es1.size=N.length+1:=by have:=hN1.length_eq;unfold Uq at this;rw[pE nN,aY] at this;simpa using this
  simp only[ly];refine aF (aP ?_);refine dD (λ_=>?_) (λz=>absurd t5.plain z);refine aF ?_;rw[hashByValue_scannable 8 hsc];refine aP ?_;have pk:plainKind (dN (k:Int) tg)=aD:=rfl;simp only[pk,if_true];have oz:∀{m:Nat},m<=18->m<=sizeLine:=λ{m} q=>by rw[iH];omega
  have g1:=OA (es':=es1) (t':=t1) ho hd;refine aF (wpAny_storeSet_of ho hd ?_ (oz (by omega)));obtain⟨ks,k1,nd,h31,way⟩:=t5.way;have lk:ks.length=es1.size:=by have:=congrArg dj k1;simpa using this.symm
  refine dD (λz=>?_) (λz=>?_)
  ·have tf:t1.tooFull=aD:=by simpa using z
   unfold nQ kE at tf;rw[VJ t5.fits,t5.tab.dum] at tf;simp only[aV,dk,kh,decide_eq_true_eq] at tf
   have s5:es1.size=5:=by
    rcases way with⟨m,l5⟩ | ⟨m,_⟩
    ·rw[m] at tf;omega
    ·rw[m] at tf;omega
   have gr:dB.grown es1.size=20:=by rw[s5];rfl
   obtain⟨es2,t2,rl,p2,m2,o2⟩:=IW (t:=t1) k1 nd h31 (by omega) t5.plain;have tk:=IC t5.tab es1 20;have ft:=relayAll_fits t1 es1 20;have pr:=relayAll_perm t1 es1 20;rw[rl] at tk ft pr;rw[gr];simp only[rl];refine aF (aP ?_);have g2:=OA (es':=es2) (t':=t2) g1 rfl;have sz2:es2.size=es1.size:=by have:=pr.length_eq;simpa using this
   refine aF (wpAny_storeSet_of g1 rfl ?_ (oz (by omega)));have pl2:t2.place.toList.map (λ(k:Nat)=>(k:Int))=(t2.place.toList).map λ(k:Nat)=>(k:Int):=rfl;have nd2:t2.place.toList.Nodup:=tk.rise.imp λq=>by omega
   have e31:∀x∈t2.place.toList,x<=31:=λx hx'=>by
    have:(x:Int)∈es2.toList.map (·.1):=by rw[o2];exact aa.mpr ⟨x,hx',rfl⟩
    have:=(pr.map (λe:Int×aJ=>e.1)).mem_iff.mp this;rw[k1] at this;obtain⟨y,hy,ey⟩:=aa.mp this;have:=h31 y hy;omega
   exact aP (aP (h _ aD ((cR s.heap a _).trans (cR _ a _)) ⟨_,es2,_,t2,g2,hx,rfl,he1.perm pr,(pr.map (λe:Int×aJ=>e.1)).trans hN1,tk,p2,ft,λe hm=>t5.val e (pr.mem_iff.mp hm),t2.place.toList,o2,nd2,e31,.inr ⟨m2,rfl⟩⟩))
  ·have tf:t1.tooFull=aC:=by
    cases q:t1.tooFull with
    | false=>rfl
    | true=>exact absurd (by rw[q];rfl) z
   have t4:Dm led 4 es1 t1:=by
    refine⟨t5.tab,t5.plain,t5.fits,t5.val,ks,k1,nd,h31,?_⟩;rcases way with⟨m,l5⟩ | r
    ·left;refine⟨m,?_⟩;unfold nQ kE at tf;rw[VJ t5.fits,t5.tab.dum,m] at tf;simp only[aV,dk,kh,decide_eq_false_iff_not] at tf;omega
    ·exact .inr r
   exact aP (aP (h _ aD (cR s.heap a _) ⟨_,es1,_,t1,g1,hx,rfl,he1,hN1,t4⟩))
end
end VL
namespace VW
open PySem PySem.W PyProof.Rows L2 VL
structure LS(led:Bool)(es:Array (Int×aJ))(t:dB):Prop where
 tab:Wn led t
 plain:t.plain=aD
 fits:t.fits es.size=aD
section
variable {prog:bE} {w:bg} {A:bc} {E:aJ->aN->Prop} {s:aN} {it a:aM} {i ep:Nat} {o:dX} {es:Array (Int×aJ)} {t:dB}
theorem QV{Q:Option (aJ×Nat)->aN->Prop}(ho:s.heap.get? a=aA o)(hd:o.data = .set es ep t)(ht:LS (Ri w) es t)(hi:i<=es.size)
  (h:Q (((Tr w a ep es)[i]?).map λe=>(e.2,ND w t (i+1))) s):ao (model prog w) A (setNext a (ND w t i) i ep) Q E s:=by
 have hf:=ht.fits;unfold setNext;refine aF (gV ho hd hf ?_);refine aF (Rj ?_)
 cases q:w.params.followText "set-order" with
 | true=>
  have hO:Tr w a ep es=nO (w.params.setOrder a ep) es:=by unfold Tr;rw[pC q]
  have hs:∀j,ND w t j=0:=λj=>by unfold ND;rw[pC q]
  rw[hO,hs] at h;rw[hs];refine dD (λ_=>?_) (λz=>absurd rfl z);refine dD (λz=>absurd z (by simp)) (λ_=>?_);refine aF ?_;unfold setWalk;refine aF (gV ho hd hf ?_);refine aF (Rj ?_);rw[q];refine dD (λ_=>?_) (λz=>absurd rfl z);exact aF (kU (aP (aP h)))
 | false=>
  have hO:Tr w a ep es=es:=by unfold Tr;rw[pE (by rw[q];decide)]
  have hL:t.led=aD:=by rw[ht.tab.led];unfold Ri;rw[q];rfl
  have hb:ba t.place (ND w t i)=i:=by
   unfold ND;rw[pE (by rw[q];decide)]
   cases i with
   | zero=>exact LG ht.tab.rise
   | succ j=>
    have lj:j<t.place.size:=by rw[VJ ht.fits];omega
    simp only;rw[Su lj];exact LH ht.tab.rise lj
  rw[hO] at h;refine dD (λz=>absurd z (by decide)) (λ_=>?_);refine dD (λz=>absurd (show(!t.plain&&decide (es.size>1))=aD from z) (by rw[ht.plain];simp)) (λ_=>?_);refine aF ?_;refine dD (λz=>absurd z (by rw[hL];simp)) (λ_=>aP ?_);simp only[hb];by_cases z:i<es.size
  ·have lp:i<t.place.size:=by rw[VJ ht.fits];omega
   rw[dq z] at h ⊢;rw[dq lp];simp only[bF] at h;have:ND w t (i+1)=t.place[i]+1:=by unfold ND;rw[pE (by rw[q];decide)];simp only;rw[Su lp]
   rw[this] at h;exact aP h
  ·rw[gC (by omega)] at h ⊢;exact aP h
theorem Py{e:Int×aJ}{Q:Option aJ->aN->Prop}(hit:IsSetIter s.heap it a (ND w t i) i es.size ep)(ho:s.heap.get? a=aA o)(hd:o.data = .set es ep t)(ht:LS (Ri w) es t)(hx:(Tr w a ep es)[i]?=aA e)
  (hQ:∀h',IsSetIter h' it a (ND w t (i+1)) (i+1) es.size ep->gD it s.heap h'->Q (aA e.2) { s with heap:=h' }):ao (model prog w) A (iB (.ref it)) Q E s:=by
 obtain⟨oi,hoi,hc,hdi⟩:=id hit
 have hi:i<es.size:=by
  have:=(cT.mp hx).1
  rwa [Sv] at this
 unfold iB
 refine aF (ik (cz (name:=cP "__next__") hit.typeIs slot_setit_next
  (cS slot_setit_next hit.typeIs VH ?_ (Uk _))))
 unfold ij.«set_iterator.__next__»;refine aF (aP ?_);refine aF (jc hoi hdi ?_);simp only;refine aF (jQ ho hd ht.fits ?_);rw[pE (by simp)];simp only[cL];refine aF (QV ho hd ht (dH hi) ?_);rw[hx];simp only[bF];refine aF (df hoi hdi (by simp) ?_);have g1:(s.heap.update it (dC (·.setIfInBounds 0 (dm (ND w t (i+1)))))).get? it=aA (oi.mapFields (·.setIfInBounds 0 (dm (ND w t (i+1))))):=cC _ hoi (dQ (br hdi _));have d1:=br hdi (·.setIfInBounds 0 (dm (ND w t (i+1))));refine aF (df g1 d1 (by simp) ?_);refine aP ⟨_,rfl,aP (hQ _ ⟨_,cC _ g1 (dQ (br d1 _)),(fG ..).trans ((fG ..).trans hc),?_⟩ ((cR ..).trans (cR ..)))⟩;rw[br d1];simp[dm]
theorem Nj{Q:Option aJ->aN->Prop}(hh:A.handled=aB)(hit:IsSetIter s.heap it a (ND w t es.size) es.size es.size ep)(ho:s.heap.get? a=aA o)(hd:o.data = .set es ep t)(ht:LS (Ri w) es t)
  (hQ:∀h',nX it s.heap h'->Q aB { s with heap:=h' }):ao (model prog w) A (iB (.ref it)) Q E s:=by
 obtain⟨oi,hoi,hc,hdi⟩:=id hit;unfold iB
 refine aF (ik (cz (name:=cP "__next__") hit.typeIs slot_setit_next
  (cS slot_setit_next hit.typeIs VH ?_ (Uk _))))
 unfold ij.«set_iterator.__next__»;refine aF (aP ?_);refine aF (jc hoi hdi ?_);simp only;refine aF (jQ ho hd ht.fits ?_);rw[pE (by simp)];simp only[cL];refine aF (QV ho hd ht (af _) ?_);rw[gC (by rw[Sv];exact af _)];simp only[Option.map_none];refine aF (df hoi hdi (by simp) ?_);show ao _ _ (oJ (.type "StopIteration") [] >>= _) _ _ _;refine aF ?_;simp only[oJ,newTuple];refine aF (bh ?_ (by size_fits));refine aF (m:=gY _ _) (jm (a:=bj) (by first | rfl | (simp only[gY];rfl)) ?_);refine bh ?_ (by size_fits);simp only[raiseNew];refine aF (mT ?_);rw[show A.in1.handled=aB from hh];refine aF (aP (nY ?_));refine aF (kR (T:="StopIteration") (b:=aD) ⟨_,aj _ rfl,rfl⟩ isSubtype_stop ?_);exact aP (hQ _ (((cR ..).extBut.push _).push _))
theorem Ff{Q:aJ->aN->Prop}(ho:s.heap.get? a=aA o)(hx:o.ExactSet)(hd:o.data = .set es ep t)(ht:LS (Ri w) es t)
  (hQ:Q (.ref s.heap.objs.size) { s with heap:=s.heap.push { cls:=.type "set_iterator",data:=.fields #[.int 0 0,.int 0 0,.ref a,.int es.size 0,.int ep 0] } }):ao (model prog w) A (kZ (.ref a)) Q E s:=by
 have hT:s.TypeIs (.ref a) "set":=⟨o,ho,hx.1⟩;have hf:=ht.fits;refine iP hT lM (cS lM hT QR ?_ (PySem.F.args_set_iter_1 _));unfold ij.«frozenset.__iter__» o9;refine aF (aF (aP (aP ?_)));refine aF (aF (jQ ho hd hf (aP ?_)));unfold setDrawn;refine aF (aF (gV ho hd hf (aF (Rj (aP ?_)))));refine dD (λz=>absurd (show(!(w.params.followText "set-order")&&(!t.plain&&decide (es.size>1)))=aD from z) (by rw[ht.plain];simp)) (λ_=>?_);refine aF (aP ?_);unfold setEpoch;refine aF (aF (gV ho hd hf (aP ?_)));refine aF (bh (aP ⟨_,rfl,"set_iterator",_,⟨_,aj _ rfl,rfl⟩,slot_setit_next.lookup,?_⟩));simpa [dm] using hQ
end
section
variable {prog:bE} {w:bg} {a:aM} {ep:Nat} {o:dX} {es:Array (Int×aJ)} {t:dB}
theorem IY{A:bc}{it:aM}(hh:A.handled=aB)(hne:a≠it)(hd:o.data = .set es ep t)(ht:LS (Ri w) es t) :
  Walks prog w A it [it,a] [it] es.size (λi v=>∃e,(Tr w a ep es)[i]?=aA e/\v=e.2) (λi h=>IsSetIter h it a (ND w t i) i es.size ep/\h.get? a=aA o) where
 sub:=λb hb=>by rw[aQ.mp hb];exact ag
 frame:=λ_ _ _ st hk=>⟨st.1.at λo e=>hk _ (by simp) o e,hk a (by simp) o st.2⟩
 item:=λi s' Q E hi st hQ=>by
  have hi':i<(Tr w a ep es).size:=by rw[Sv];exact hi
  refine Py st.1 st.2 hd ht (e:=(Tr w a ep es)[i]) (by simp[hi']) λh' hit sb=>?_;exact hQ _ h' s'.toks ⟨(Tr w a ep es)[i],by simp[hi'],rfl⟩ ⟨hit,sb.extBut a o hne st.2⟩ λb o hb e=>sb.extBut b o (λh=>hb (by simp[h])) e
 done:=λs' Q E st hQ=>Nj hh st.1 st.2 hd ht λh' eb=>hQ h' s'.toks λb o hb e=>eb b o (λh=>hb (by simp[h])) e
 self:=λ_ _ _ _ st hQ=>LK st.1 hQ
theorem Dp(hx:o.ExactSet)(hd:o.data = .set es ep t)(ht:LS (Ri w) es t) :
  KdlSrc prog w "set" a a es.size (λi v=>∃e,(Tr w a ep es)[i]?=aA e/\v=e.2) (λh=>h.get? a=aA o) where
 type:=λ_ hm=>⟨o,hm,hx.1⟩
 there:=λ_ hm=>⟨aW hm,aW hm⟩
 keep:=λ_ _ hm hk=>hk a (.inl rfl) o hm
 notList:=by decide
 notTuple:=by decide
 hint:=λ_ _ _ _ hm hq=>GY ⟨o,hm,hx.1⟩ hq
 iter:=λA s hh hm=>⟨_,λi h=>IsSetIter h s.heap.objs.size a (ND w t i) i es.size ep/\h.get? a=aA o,(λ_ _ hq=>Ff hm hx hd ht hq),IY hh (bH (aW hm)) hd ht,⟨⟨_,aj _ rfl,rfl,by
  have:ND w t 0=0:=by unfold ND;split<;>rfl
  rw[this];rfl⟩,aO _ hm⟩⟩
end
section
variable {prog:bE} {w:bg} {A:bc} {E:aJ->aN->Prop} {s:aN}
theorem LU{a:aM}{ep:Nat}{o:dX}{es:Array (Int×aJ)}{t:dB}{Q:aJ->aN->Prop}(hh:A.handled=aB)(ho:s.heap.get? a=aA o)(hx:o.ExactSet)(hd:o.data = .set es ep t)(ht:LS (Ri w) es t)
  (hv:∀e∈es.toList,∃tg,e.2=dN e.1 tg) (h18:es.size<=20) (h:∀(D:aM)(h1 h':bw)(tk:Nat)(out:Array aJ)(ns':List Int)(e:Nat),(∀b o,s.heap.get? b=aA o->h1.get? b=aA o)->h1.objs.size<=D->(∀b o,h1.get? b=aA o->h'.get? b=aA o)->h'.get? D=aA (seqObj "list" out e)->
   ig out.toList ns'->ns'.Perm (es.toList.map (·.1))->ns'.Pairwise (·<=·)->Q (.ref D) { s with heap:=h',toks:=tk }) :
  ao (model prog w) A (call (.builtin "sorted") [.ref a]) Q E s:=by
 refine Calls.call_function_entry kind_sorted plain_sorted entry_sorted (args_sorted1 _) ?_;unfold ij.«sorted»;refine aF (m:=checkCount "sorted" 1 1 _) (aP ?_);refine aF (kdu_collect (A:=A.in1) (Dp hx hd ht) hh ho (by rw[iH];omega) λh1 tk acc hk hacc=>?_)
 have hvs:acc.toList=(Tr w a ep es).toList.map (·.2):=by
  apply jr;intro i;rw[aU];by_cases q:i<acc.size
  ·have e1:acc.toList[i]?=aA acc[i]:=by simp[q]
   obtain⟨e,e2,e3⟩:=hacc.2 i acc[i] (by simp[q]);rw[e1,eY,e2,e3];rfl
  ·have e1:acc.toList[i]?=aB:=by simp;omega
   have e2:(Tr w a ep es).toList[i]?=aB:=by have:=hacc.1;have:=Sv w a ep es;simp;omega
   rw[e1,e2];rfl
 have hp:acc.toList.Perm (es.toList.map (·.2)):=by rw[hvs];exact(Mb w a ep es).map _
 have hI:ig acc.toList (acc.toList.map IE):=Ox λv hv'=>by obtain⟨e,he,rfl⟩:=aa.mp (hp.mem_iff.mp hv');obtain⟨u,hu⟩:=hv e he;exact⟨_,u,hu⟩
 have hN:(acc.toList.map IE).Perm (es.toList.map (·.1)):=by
  have e1:(es.toList.map (·.2)).map IE=es.toList.map (·.1):=by rw[bQ];refine bO λe he=>?_;obtain⟨u,hu⟩:=hv e he;show IE e.2=e.1;rw[hu];rfl
  rw[<-e1];exact hp.map IE
 have hlen:acc.toList.length<=20:=by have:=hN.length_eq;simp only[aH,cJ] at this;rw[cJ];omega
 refine aF (wpAny_newList ?_ (by rw[iH];omega));have hoL:(h1.push (seqObj "list" acc.toList.toArray 0)).get? h1.objs.size=aA (seqObj "list" acc.toList.toArray 0):=aj _ rfl;show ao _ _ _ _ _ { s with heap:=h1.push (seqObj "list" acc.toList.toArray 0),toks:=tk };refine aF (dR (cS slot_list_sort ⟨_,hoL,rfl⟩ entry_list_sort (list_sort_tree hoL hI (by omega) λout ns' a1 a2 a3=>⟨_,rfl,?_⟩) (args_list_sort _)));obtain⟨e,he⟩:=sortedHeap_at (out:=out) hoL;refine aP ⟨_,rfl,h h1.objs.size h1 _ tk out ns' e hk (af _) (λb o q=>?_) he a1 (a2.trans hN) a3⟩;rw[sortedHeap_old (bH (aW q)) (by rw[size_push'];exact gQ (aW q))];exact aO _ q
end
end VW
namespace VW
open PySem PySem.W PySem.Spec PyProof.Rows L2 VL
def Ur(ns:List Nat):List Int:=(ns.map λ(k:Nat)=>(k:Int)).foldl Uq []
theorem IZ(ns:List Nat)(k:Nat):Ur (ns++[k])=Uq (Ur ns) (k:Int):=by unfold Ur;rw[bV,jq];rfl
theorem Mm:∀(l N:List Int),(l.foldl Uq N).length<=N.length+l.length
 | [],N=>by simp
 | k::l,N=>by
  have:=Mm l (Uq N k)
  have h:(Uq N k).length<=N.length+1:=by
   unfold Uq;split<;>simp
  rw[fB,bA];omega
theorem Mn(ns:List Nat):(Ur ns).length<=ns.length:=by have:=Mm (ns.map λ(k:Nat)=>(k:Int)) [];simpa [Ur] using this
section
variable {prog:bE} {w:bg} {A:bc} {R:om->aN->Prop} {I a:aM} {fp wr:List aM} {G:Array ml->Array ml->Prop} {P:Nat->aJ->Prop} {St:Nat->aN->Prop} {led:Bool} {ns:List Nat}
theorem OB(W:WalksS prog w A.in1 I fp wr G ns.length P St)(ha:a∉fp)(hv:∀i v,P i v->∃t,v = .int ((ns.getD i 0:Nat):Int) t)(h31:∀k∈ns,k<=31)(hl:ns.length<=17) :
  ∀(m i:Nat)(s:aN),i+m=ns.length->St i s->SetP prog w led s.heap a (Ur (ns.take i))->
   (∀s',Moved (a::wr) G s s'->SetP prog w led s'.heap a (Ur ns)->R (.ok (.ret .none)) s')->
   gz (model prog w) A (.builtin "set.update.loop" ⟨[.ref a,.ref I],[]⟩) R s
 | 0,i,s,e,st,hS,k=>by
  have hi:i=ns.length:=by omega
  subst hi;have ha':a∉wr:=λz=>ha (W.sub _ z);rw[dI] at hS;refine fC gs ?_;rw[eB eN _];refine aF (m:=iB (.ref I)) (W.done s _ _ st λs' mv=>?_);exact aP (k s' (mv.mono λb z=>aT _ z) (hS.keep λo z=>mv.heap a o ha' z))
 | m+1,i,s,e,st,hS,k=>by
  have ha':a∉wr:=λz=>ha (W.sub _ z);have hi:i<ns.length:=by omega
  refine fC gs ?_;rw[eB eN _];refine aF (m:=iB (.ref I)) (W.item i s _ _ (by omega) st λv s' hp st' mv=>?_);obtain⟨t,rfl⟩:=hv i v hp;have gd:ns.getD i 0=ns[i]:=by simp[hi]
  rw[gd];refine aF (m:=holding [dN ((ns[i]:Nat):Int) t] (setAdd a (.int ((ns[i]:Nat):Int) t))) (dR ?_);unfold setAdd;refine dR (aF ((jR prog w).pyHash (k:=((ns[i]:Nat):Int)) (mf _ _ _ _) ?_));have hS':SetP prog w led ({ s' with toks:=s'.toks+1 }:aN).heap a (Ur (ns.take i)):=hS.keep λo z=>mv.heap a o ha' z;refine Fe (s:={ s' with toks:=s'.toks+1 }) hS' (h31 _ (cA hi)) (by have:=Mn (ns.take i);rw[bp] at this;omega) λh' bb sb hS2=>?_;have hS3:SetP prog w led h' a (Ur (ns.take (i+1))):=by rw[iS hi,IZ];exact hS2
  refine aP ⟨gv eN _,OB W ha hv h31 hl m (i+1) _ (by omega) (W.frame _ s' _ _ st' (jB _) λb z o e=>?_) hS3 λs'' mv2 hS4=>?_⟩
  ·rw[sb.2 b λq:b=a=>ha (by rw[<-q];exact z)];exact e
  ·refine k s'' (Moved.trans W.gtrans ((mv.mono λb z=>aT _ z).then_heap (jB _) λb o z e=>?_) mv2) hS4;rw[sb.2 b λq:b=a=>z (by rw[q];exact ag)];exact e
end
section
variable {prog:bE} {w:bg} {A:bc} {E:aJ->aN->Prop} {s:aN}
theorem Hb{l:aM}{items:Array aJ}{ns:List Nat}{Q:aJ->aN->Prop}(hh:A.handled=aB)(hl:s.heap.IsTuple l items)(hi:ig items.toList (ns.map λ(k:Nat)=>(k:Int)))(h31:∀k∈ns,k<=31)(hlen:ns.length<=17)
  (h:∀(h':bw)(tk:Nat),SetP prog w (Ri w) h' s.heap.objs.size (Ur ns)->(∀b o,b<s.heap.objs.size->s.heap.get? b=aA o->h'.get? b=aA o)->Q (.ref s.heap.objs.size) { s with heap:=h',toks:=tk }) :
  ao (model prog w) A (call (.type "set") [.ref l]) Q E s:=by
 have hsz:items.size=ns.length:=by have:=Ma hi;simpa using this
 obtain⟨c,tl,hmro⟩:=F.called_set.mro;have x1:=F.called_set.made;have x2:=F.called_set.sub;have x3:=F.called_set.notType;have x4:=F.called_set.canCreate;have x5:=F.typeCall_set_1 (.ref l);refine k6 (codeAny_of_tree ?_);refine aP ⟨Code.quiet_builtin _ (by decide +kernel),fC F.entry_type_call ?_⟩;rw[bc.under_plain (weight_type_call_type "set" [.ref l] []) rfl]
 repeat (any_goals (first | assumption | wp_step))
 refine gE (GX (.ref l) (E:=E) (Q:=λv s₁=>v = .ref s.heap.objs.size/\s₁={ s with heap:=s.heap.push (RV w) }) ⟨rfl,rfl⟩) λr s₁ hr'=>?_
 cases r with
 | error e=>exact hr'
 | ok fl=>
  cases fl with
  | ret v=>
   obtain⟨rfl,rfl⟩:=hr';have g0:(s.heap.push (RV w)).get? s.heap.objs.size=aA (RV w):=aj _ rfl;have ty:aN.TypeIs { s with heap:=s.heap.push (RV w) } (.ref s.heap.objs.size) "set":=⟨_,g0,rfl⟩;have y1:=F.called_set.init.lookup;have y2:=F.called_set.init.bind (.ref s.heap.objs.size)
   repeat (any_goals (first | assumption | wp_step))
   refine gE (l9 (R:=wants (λr s₂=>r = .none/\∃h' tk,s₂={ s with heap:=h',toks:=tk }/\SetP prog w (Ri w) h' s.heap.objs.size (Ur ns)/\∀b o,b<s.heap.objs.size->s.heap.get? b=aA o->h'.get? b=aA o) E) F.called_set.init.plain F.entry_set_init (check_set_init_1 ty ?_)) λr₂ s₂ hr₂=>?_
   ·obtain⟨ol,g1,g2,nl,g3⟩:=hl;obtain⟨oc,od,odt,os⟩:=ol;simp only at g2 g3;subst g2 g3;have g4:(s.heap.push (RV w)).get? l=aA { cls:=.type "tuple",dict:=od,data:=.seq items nl,slots:=os }:=aO _ g1;have g5:(s.heap.push (RV w)).IsTuple l items:=⟨_,g4,rfl,nl,rfl⟩;have u1:=F.sub_tuple_set;have u2:=F.sub_tuple_frozenset;have u3:(jZ "tuple"==jZ "dict")=aC:=by decide
    have u4:(s.heap.push (RV w)).get? s.heap.objs.size=aA { cls:=.type "set",dict:=aB,data:=.set #[] 0 (.fresh 0 0 (Ri w)) }:=g0;unfold ij.«set.__init__» noKeywords ni;generalize hPI:kZ=PI
    wp_walk
    subst hPI;refine j7 g5 (aF (wpAny_runValue ?_));have ll:l<s.heap.objs.size:=aW g1;have hq:A.in1.in1.in1.handled=aB:=by simp[hh]
    have ne:l≠(s.heap.push (RV w)).objs.size:=by rw[eV];exact bH (gQ ll)
    have nf:s.heap.objs.size∉[(s.heap.push (RV w)).objs.size,l]:=by rw[eV];simp only[a9,fm,or_false,not_or];exact⟨bH (gg _),g9 ll⟩
    have ga:((s.heap.push (RV w)).push { cls:=.type "tuple_iterator",data:=.fields #[.ref l,.int 0 0] }).get? s.heap.objs.size=aA (RV w):=aO _ g0;have WW:=(Walks.tuple (prog:=prog) (w:=w) hq _ l ne items).toS;rw[hsz] at WW;refine OB (led:=Ri w) (ns:=ns) WW nf (λi v hv=>?_) h31 hlen ns.length 0 _ (by omega) ⟨⟨_,aj _ rfl,rfl,rfl⟩,g5.push _⟩ ?_ λs' mv z=>?_
    ·have lv:i<items.size:=(cT.mp hv).1;obtain⟨t,e⟩:=ig.int_at hi i v (by rw[eY];exact hv);refine⟨t,e.trans ?_⟩;congr 1;rw[hsz] at lv;simp[lv]
    ·exact⟨_,#[],0,_,ga,⟨rfl,rfl,rfl⟩,rfl,λe he=>by simp at he,je _,IB _,rfl,rfl,λe he=>by simp at he,[],rfl,cM,by simp,.inl ⟨rfl,by simp⟩⟩
    ·obtain⟨h',g',d',tk',os'⟩:=s';have eg:g'=s.gens:=mv.gens;have ed:d'=s.drawn:=mv.drawn;have eo:os'=s.os:=mv.os;subst eg ed eo;refine aP (aP ⟨rfl,h',tk',rfl,z,λb o lb e=>?_⟩);refine mv.heap b o ?_ (aO _ (aO _ e));rw[eV];simp only[a9,fm,or_false,not_or];exact⟨bH lb,bH (gQ lb)⟩
   ·cases r₂ with
    | error e=>exact hr₂
    | ok f₂=>
     cases f₂ with
     | ret r=>
      obtain⟨rfl,h',tk,rfl,z1,z2⟩:=hr₂
      repeat (any_goals (first | assumption | wp_step))
      exact h _ _ z1 z2
     | _=>exact hr₂.elim
  | _=>exact hr'.elim
end
def tSN(K:aI)(ta:TA):TE:=λZ H Q=>ta Z H λvs H1=>∃(p:aM) (ns:List Nat),vs=[.ref p]/\SqT K H1 p (ns.map λ(k:Nat)=>V.int (k:Int))/\(∀k∈ns,k<=31)/\ns.length<=17/\∀l,H1 l=aB->Q (.ref l) (upd H1 l (.lst ((VL.sortI (Ur ns)).map V.int)))
section
variable {X:Cx} {a:bK} {ta:TA} {p p2 pos pos2:fN}
theorem Pz(hc:X.calm=aD)(hgl:Gl X "sorted")(hml:X.mg "sorted" = aB)(hgr:Gl X "set")(hmr:X.mg "set" = aB)(ha:PA X [a] ta)(hs:aR [a] X.env=[(aC,eval a X.env)]:=by rfl)
  (he:aR [.Call (.Name "set" p2) [a] [] pos2] X.env=(aC,eval (.Call (.Name "set" p2) [a] [] pos2) X.env)::aR [] X.env:=by rfl) (hpl:(cw pos (aR [] X.env)).any (·.1)=aC:=by rfl) :
  PE X (.Call (.Name "sorted" p) [.Call (.Name "set" p2) [a] [] pos2] [] pos) (tSN X.K ta):=by
 intro du s Z H Q I h;refine cZ (XX I hgl hml (u:=.builtin "sorted") (by decide +kernel) ?_);refine fZ (id:="sorted") ?_ he hpl;rw[he];show ao _ _ (spliced ((aC,eval (.Call (.Name "set" p2) [a] [] pos2) X.env)::[])) _ _ s;refine iD ?_;refine Call_ (XX I hgr hmr (u:=.type "set") (by decide +kernel) (cF (Yo (ha pos2 du s Z H _ I h) λus s1 ⟨vs,H1,I1,r1,q1⟩=>?_) hs rfl));obtain⟨b,ns,e,hq,h31,hlen,q⟩:=q1;subst e
 cases r1 with
 | cons r rr=>
  cases rr;cases r;obtain⟨pA,rv,pl,hz⟩:=I1.tuple hq;rw[Mc] at rv;refine Hb (items:=pA.toArray) (ns:=ns) (I.ok.hd hc) pl (TJ rv) h31 hlen λh' tk hS hk=>iK ?_;obtain⟨o,es,ep,t,ho,hx,hd,he',hN,ht⟩:=hS;have ls:=Mn ns;have lz:es.size=(Ur ns).length:=by have:=hN.length_eq;simpa using this
  refine LU (I.ok.hd hc) ho hx hd ⟨ht.tab,ht.plain,ht.fits⟩ ht.val (by omega) λD h1 h2 tk2 out ns' e k1 k2 k3 k4 a1 a2 a3=>?_;have I2:Inv X du Z H1 { s1 with heap:=h1,toks:=tk2 }:=I1.kept (t':=tk2) λb o z=>k1 b o (hk b o (aW z) z);have en:ns'=VL.sortI (Ur ns):=VL.sortI_eq (a2.trans hN) a3;subst en;have lo:(VL.sortI (Ur ns)).length<=17:=by rw[(VL.sortI_perm _).length_eq];omega
  refine⟨.ref D,_,I2.laid (t':=tk2) k3 k2 (show ObjOk X.prog X.w _ _ _ (.lst ((VL.sortI (Ur ns)).map V.int)) from⟨?_,out.toList,e,?_,?_⟩),rfl,q D (I2.hok.fresh k2)⟩
  ·rw[aH,iH];omega
  ·exact V9 a1
  ·rw[jE];exact k4
end
def inS(ns:List Int):Bool:=ns.all (λk=>decide (0<=k)&&decide (k<=31))&&decide (ns.length<=17)
def gSN:PV->Option PV
 | .tup l=>(YD l).bind λns=>if inS ns=aD then aA (.lst (iL (VL.sortI (ns.foldl Uq [])))) else aB
 | _=>aB
theorem vm_sortedSetN{X:Cx}{a:bK}{fa:XE}{p p2 pos pos2:fN}(hc:X.calm=aD)(hgl:Gl X "sorted")(hml:X.mg "sorted" = aB)(hgr:Gl X "set")(hmr:X.mg "set" = aB)(ha:VE X a fa)(hs:aR [a] X.env=[(aC,eval a X.env)]:=by rfl)
  (he:aR [.Call (.Name "set" p2) [a] [] pos2] X.env=(aC,eval (.Call (.Name "set" p2) [a] [] pos2) X.env)::aR [] X.env:=by rfl) (hpl:(cw pos (aR [] X.env)).any (·.1)=aC:=by rfl) :
  VM X (.Call (.Name "sorted" p) [.Call (.Name "set" p2) [a] [] pos2] [] pos) (RI gSN fa):=
 PE.imp (Pz hc hgl hml hgr hmr (Zb ha Zh hs) hs he hpl) λZ H Q ⟨s,l,env,e,k⟩=>by
  obtain⟨x,e1,e2⟩:=Ze e;refine⟨λ_=>False,s,[x],λ_ z=>z.elim,env,by show(fa s).bind _=_;rw[e1];rfl,λvs H1 fp s1 i1 _=>?_⟩;obtain⟨v,rfl,iv⟩:=i1.one_inv
  cases x with
  | tup m=>
   unfold gSN at e2;obtain⟨ns,e3,e4⟩:=Ze e2;split at e4
   case isFalse=>cases e4
   rename_i hr;cases e4;have em:=YR e3;subst em;obtain⟨p,xs,rfl,hp,hi⟩:=iv.tup_inv;obtain⟨rfl,rfl⟩:=hi.iL;unfold inS at hr;simp only[ak,decide_eq_true_eq,bC] at hr
   have en:ns=(ns.map i8).map λ(k:Nat)=>(k:Int):=by
    rw[bQ]
    conv=>lhs;rw[<-lg ns]
    refine bO λz hz=>?_;have:=hr.1 z hz;show z=((z.toNat:Nat):Int);omega
   have ev:ns.map V.int=(ns.map i8).map λ(k:Nat)=>V.int (k:Int):=by rw[Mc,<-en]
   have eo:Ur (ns.map i8)=ns.foldl Uq []:=by unfold Ur;rw[<-en]
   refine⟨p,ns.map i8,rfl,?_,?_,by rw[aH];exact hr.2,λq hq=>?_⟩
   ·rw[<-ev];exact .inl (.inl hp)
   ·intro j hj;obtain⟨z,hz,rfl⟩:=aa.mp hj;have:=hr.1 z hz;omega
   ·rw[eo];refine k _ _ [q] (s1.trans (Same.new hq _)) (Is.lst upd_same (Iss.ofInts _)) (by simp) λr hr'=>?_;rw[aQ.mp hr'];exact⟨Same.off s1 hq,by rw[upd_same];exact cE⟩
  | _=>cases e2
end VW
namespace VW
open PySem PySem.Spec PyProof.Rows L2 VL
def tLS(K:aI)(ta:TA):TE:=λZ H Q=>ta Z H λvs H1=>∃(p:aM) (ns:List Int),vs=[.ref p]/\SqL K H1 p (ns.map V.int)/\ns.length<=1000/\Q (.int ((ns.foldl oV []).length:Int)) H1
theorem Hd(ns:List Int):firstMet (λi=>ns.getD i 0) ns.length=ns.foldl oV []:=by
 unfold firstMet;congr 1;apply gj
 ·simp
 ·intro i h1 h2;simp[h2]
section
variable {X:Cx} {a:bK} {ta:TA} {p p2 pos pos2:fN}
theorem He(hc:X.calm=aD)(hgl:Gl X "len")(hml:X.mg "len" = aB)(hgr:Gl X "set")(hmr:X.mg "set" = aB)(ha:PA X [a] ta)(hs:aR [a] X.env=[(aC,eval a X.env)]:=by rfl)
  (he:aR [.Call (.Name "set" p2) [a] [] pos2] X.env=(aC,eval (.Call (.Name "set" p2) [a] [] pos2) X.env)::aR [] X.env:=by rfl) (hpl:(cw pos (aR [] X.env)).any (·.1)=aC:=by rfl) :
  PE X (.Call (.Name "len" p) [.Call (.Name "set" p2) [a] [] pos2] [] pos) (tLS X.K ta):=by
 intro du s Z H Q I h;refine cZ (XX I hgl hml (u:=.builtin "len") (by decide +kernel) ?_);refine fZ (id:="len") ?_ he hpl;rw[he];show ao _ _ (spliced ((aC,eval (.Call (.Name "set" p2) [a] [] pos2) X.env)::[])) _ _ s;refine iD ?_;refine Call_ (XX I hgr hmr (u:=.type "set") (by decide +kernel) (cF (Yo (ha pos2 du s Z H _ I h) λus s1 ⟨vs,H1,I1,r1,q1⟩=>?_) hs rfl));obtain⟨b,ns,e,hq,hl,q⟩:=q1;subst e
 cases r1 with
 | cons r rr=>
  cases rr;cases r;obtain⟨pA,rv,pl,hz⟩:=I1.list hq;have hlen:pA.length=ns.length:=by have:=rv.length;rw[aH] at this;exact this.symm
  have sb:scanBound=4096:=rfl;refine call_set_list (ns:=ns) (items:=pA.toArray) (I.ok.hd hc) pl.isList (TJ rv) (by rw[aV];omega) λh' tk hS hk=>iK ?_;obtain⟨o,es,ep,t,ho,hx,hd,_,_,hb,hf,hn⟩:=hS;have I2:Inv X du Z H1 { s1 with heap:=h',toks:=tk }:=I1.kept (t':=tk) λb o z=>hk b o (aW z) z;refine PySem.call_len_set ho hx hd hf (by omega) ?_;rw[hn,aV,hlen,Hd];exact⟨.int _,H1,I2.tok _ |>.tok _,⟨_,rfl⟩,q⟩
end
def gLS:PV->Option PV
 | .lst l=>(YD l).bind λns=>if ns.length<=1000 then aA (.int ((ns.foldl oV []).length:Int)) else aB
 | _=>aB
theorem ve_lenSet{X:Cx}{a:bK}{fa:XE}{p p2 pos pos2:fN}(hc:X.calm=aD)(hgl:Gl X "len")(hml:X.mg "len" = aB)(hgr:Gl X "set")(hmr:X.mg "set" = aB)(ha:VE X a fa)(hs:aR [a] X.env=[(aC,eval a X.env)]:=by rfl)
  (he:aR [.Call (.Name "set" p2) [a] [] pos2] X.env=(aC,eval (.Call (.Name "set" p2) [a] [] pos2) X.env)::aR [] X.env:=by rfl) (hpl:(cw pos (aR [] X.env)).any (·.1)=aC:=by rfl) :
  VM X (.Call (.Name "len" p) [.Call (.Name "set" p2) [a] [] pos2] [] pos) (RI gLS fa):=
 PE.imp (He hc hgl hml hgr hmr (Zb ha Zh hs) hs he hpl) λZ H Q ⟨s,l,env,e,k⟩=>by
  obtain⟨x,e1,e2⟩:=Ze e;refine⟨λ_=>False,s,[x],λ_ z=>z.elim,env,by show(fa s).bind _=_;rw[e1];rfl,λvs H1 fp s1 i1 _=>?_⟩;obtain⟨v,rfl,iv⟩:=i1.one_inv
  cases x with
  | lst m=>
   unfold gLS at e2;obtain⟨ns,e3,e4⟩:=Ze e2;split at e4
   case isFalse=>cases e4
   rename_i hr;cases e4;have em:=YR e3;subst em;obtain⟨p,xs,fq,rfl,hp,hi,_⟩:=iv.lst_inv;obtain⟨rfl,rfl⟩:=hi.iL;exact⟨p,ns,rfl,.inl (.inl hp),hr,k _ _ [] s1 (by simp[Is]) (by simp) (by simp)⟩
  | _=>cases e2
end VW
namespace PW
open PySem L2 VL VX
def Vq:XS:=(Zk (Zl 3 (RI Rh (Zd Zx [Za 0])))
  (Zk (Z3 [3] (S7 (Za 2)) (.one 4) (Zk (Zl 5 (eP (Zf Zn (Za 1) (Za 4))))
  (Zk (Zl 6 (eP (Zf Zn (Za 3) (Zf Zn (Za 5) (eC (.int 0))))))
  (Zk (Zl 7 (eP (Zf Zn (Za 3) (Zf Zn (Za 5) (eC (.int 1))))))
  (Zl 3 (ZA 1 [6,7] (YW (Za 3)) (.one 0) ZZ (eP (HM (xB (Zf (YN aC) (Za 0) (Za 2))) (Za 1) (Za 0)))))))))
  (Ya (Za 3))))
def YS:List PV->Option PV:=Xi 8 Vq
def Tb:XS:=(Zk (Zl 2 (Zd Y3 [Za 0]))
  (Zk (Wb (Gs (xB (Zf (YN aD) (Zd Zx [Za 1]) (Zf Xo (Zd Zx [Za 0]) (eC (.int 1))))) (WK (xB (Zd OV [ZA 1 [2] (S7 (Za 1)) (.one 0) ZZ (HN EK S4 (eC (.int 0)) (Za 0) (Zd Zx [Za 1]))])))) (Ya (eP (eC (.bl aC)))) ZI)
  (Ya (eP (Qo (Zf (YN aC) (Zd TQ [Za 1]) (RI VW.gSN (Za 1))) (Zf (YN aC) (RI VW.gLS (Zd YS [Za 0,Za 2,Za 1])) (eC (.int 1))))))))
def WZ:List PV->Option PV:=Xi 3 Tb
end PW
namespace L2
open PySem PySem.Spec PyProof.Rows
theorem QW{x y:ah}{a c:aM}(h:([(x,a)]:List (ah×aM)).lookup y=aA c):c=a:=by
 simp only[b8,nj] at h;split at h
 ·exact(bB h).symm
 ·cases h
theorem RN{x y:ah}{a c:aM}(h:([(x,a)]:List (ah×aM)).lookup y=aA c):y=x:=by
 simp only[b8,nj] at h;split at h
 ·rename_i e;simpa using e
 ·cases h
end L2
namespace VL
open PySem PySem.Spec PyProof.Rows L2
variable {K:aI}
def QX(H:Hp)(e:aM):Hp:=λb=>if b=e then aB else H b
theorem Nk{H:Hp}{e:aM}:QX H e e=aB:=by unfold QX;rw[pC rfl]
theorem Wc{H:Hp}{e b:aM}(h:b≠e):QX H e b=H b:=by unfold QX;rw[pE h]
theorem Tc{H:Hp}{e b:aM}(h:H b=aB):QX H e b=aB:=by
 unfold QX;split
 ·rfl
 ·exact h
theorem Dq{H:Hp}{e b:aM}{o:HO}(h:QX H e b=aA o):b≠e/\H b=aA o:=by
 unfold QX at h;split at h
 ·cases h
 ·rename_i n;exact⟨n,h⟩
theorem Vc{H:Hp}{e b:aM}{o u:HO}(he:H e=aA o)(hb:H b=aA u)(d:u≠o):b≠e:=λz=>by rw[z,he] at hb;exact d (bB hb).symm
section
variable {P:bE} {w:bg} {H H':Hp} {h h':bw} {e:aM} {eo:dX} {fs:List aM}
theorem Fg(x:HOk P w H h)(he:H e=aA (.frz eo (.own 1))):HOk P w (QX H e) h:=λa o ha=>by
 obtain⟨ne,ha⟩:=Dq ha
 exact(x a o ha).stay (λ_ _ _ q=>q) (λb q=>by rw[Wc (Vc he q (by nofun))];exact q) (λb xs q=>by rw[Wc (Vc he q (by nofun))];exact q)
  λb u q=>by rw[Wc (Vc he q (by intro z;cases z))];exact q
theorem JG(x:HOk P w H h)(he:H e=aB)(ho:h.get? e=aA eo):HOk P w (upd H e (.frz eo (.own 1))) h:=λb u q=>by
 by_cases z:b=e
 ·subst z;rw[upd_same] at q;cases q;exact⟨ho,_,ho⟩
 ·rw[upd_ne z] at q;exact(x b u q).stay (λ_ _ _ r=>r) (λc r=>by rw[upd_ne (Zp r he)];exact r) (λc xs r=>by rw[upd_ne (Zp r he)];exact r) λc v r=>by rw[upd_ne (Zp r he)];exact r
theorem TabsH.rm{mg:ah->Option aJ}{base:bw}(t:TabsH K mg base H)(he:H e=aA (.frz eo (.own 1))):TabsH K mg base (QX H e):=λq c hq hc=>by obtain⟨Pt,ps,tk,e1,e2,e3,e4⟩:=t q c hq hc;exact⟨Pt,ps,tk,e1,by rw[Wc (Vc he e2 (by nofun))];exact e2,e3,e4⟩
theorem TabsH.add{mg:ah->Option aJ}{base:bw}(t:TabsH K mg base H)(he:H e=aB):TabsH K mg base (upd H e (.frz eo (.own 1))):=λq c hq hc=>by obtain⟨Pt,ps,tk,e1,e2,e3,e4⟩:=t q c hq hc;exact⟨Pt,ps,tk,e1,by rw[upd_ne (Zp e2 he)];exact e2,e3,e4⟩
theorem Dr(u:Un fs [] (QX H e) H' h h')(he:H e=aA (.frz eo (.own 1)))(hn:H' e=aB):Un fs [] H (upd H' e (.frz eo (.own 1))) h h' where
 keep b o q n hf hx:=u.keep b o q (Tc n) hf hx
 slot b o q n hf hx:=u.slot b o q (Tc n) hf hx
 free b o q n hx:=by rw[upd_ne (λz=>by rw[z,he] at n;cases n)];exact u.free b o q (Tc n) hx
 there:=u.there
 tups b xs q:=by have ne:=Vc he q (by nofun);rw[upd_ne ne];exact u.tups b xs (by rw[Wc ne];exact q)
 frzs b o v q:=by
  by_cases z:b=e
  ·subst z;rw[he] at q;cases q;exact upd_same
  ·rw[upd_ne z];exact u.frzs b o v (by rw[Wc z];exact q)
 tbls b ps q:=by have ne:=Vc he q (by nofun);obtain⟨more,z⟩:=u.tbls b ps (by rw[Wc ne];exact q);exact⟨more,by rw[upd_ne ne];exact z⟩
theorem Bq(u:Un fs [] (upd H e (.frz eo (.own 1))) H' h h')(he:H e=aB)(ho:h.get? e=aA eo)(hf:e∉fs)(hok:HOk P w H' h'):Un fs [] H (QX H' e) h h':=by
 have h1:H' e=aA (.frz eo (.own 1)):=u.frzs e eo _ upd_same;have h2:h'.get? e=aA eo:=(hok e _ h1).1;refine⟨λb o q n hb hx=>?_,λb o q n hb hx=>?_,λb o q n hx=>?_,u.there,λb xs q=>?_,λb o v q=>?_,λb ps q=>?_⟩
 ·by_cases z:b=e
  ·subst z;rw[ho] at q;cases q;exact h2
  ·exact u.keep b o q (by rw[upd_ne z];exact n) hb hx
 ·have z:b≠e:=λz=>hf (z▸hb);exact u.slot b o q (by rw[upd_ne z];exact n) hb hx
 ·by_cases z:b=e
  ·subst z;exact Nk
  ·exact Tc (u.free b o q (by rw[upd_ne z];exact n) hx)
 ·have z:=Zp q he;rw[Wc z];exact u.tups b xs (by rw[upd_ne z];exact q)
 ·have z:=Zp q he;rw[Wc z];exact u.frzs b o v (by rw[upd_ne z];exact q)
 ·have z:=Zp q he;obtain⟨more,y⟩:=u.tbls b ps (by rw[upd_ne z];exact q);exact⟨more,by rw[Wc z];exact y⟩
end
mutual
def YJ:PV->Bool
 | .non=>aD
 | .bl _=>aD
 | .int _=>aD
 | .str _=>aD
 | .ty _=>aD
 | .exc _=>aC
 | .exf _ _=>aC
 | .clo _ _=>aC
 | .tup l=>XD l
 | .lst l=>XD l
 | .cst l=>XD l
 | .dK _ l=>XD l
 | .dT _ l=>XD l
def XD:List PV->Bool
 | []=>aD
 | x::r=>YJ x&&XD r
end
theorem Rd.rm{H:Hp}{e:aM}{eo:dX}(he:H e=aA (.frz eo (.own 1))){p:aM}{u:HO}(hu:u≠.own 1)(hf:∀o v,u≠.frz o v)(r:Rd H p u):Rd (QX H e) p u:=by
 rcases r with r | ⟨o,r⟩
 ·exact .inl (by rw[Wc (Vc he r (hf _ _))];exact r)
 ·exact .inr ⟨o,by rw[Wc (Vc he r (by intro z;cases z;exact hu rfl))];exact r⟩
mutual
theorem Is.rm{H:Hp}{e:aM}{eo:dX}(he:H e=aA (.frz eo (.own 1))):∀(l:PV)(v:V)(fp:List aM),YJ l=aD->Is K H l v fp->Is K (QX H e) l v fp
 | .non,_,_,_,h=>by simpa only[Is] using h
 | .bl _,_,_,_,h=>by simpa only[Is] using h
 | .int _,_,_,_,h=>by simpa only[Is] using h
 | .str _,_,_,_,h=>by simpa only[Is] using h
 | .ty _,_,_,_,h=>by simpa only[Is] using h
 | .exc _,_,_,hp,_=>by simp[YJ] at hp
 | .exf _ _,_,_,hp,_=>by simp[YJ] at hp
 | .clo _ _,_,_,hp,_=>by simp[YJ] at hp
 | .tup l,v,fp,hp,h=>by simp only[Is] at h ⊢;obtain⟨p,xs,e1,h1,hi⟩:=h;exact⟨p,xs,e1,by rw[Wc (Vc he h1 (by nofun))];exact h1,Iss.rm he l xs fp (by simpa only[YJ] using hp) hi⟩
 | .lst l,v,fp,hp,h=>by simp only[Is] at h ⊢;obtain⟨p,xs,fq,e1,h1,hi,e2⟩:=h;exact⟨p,xs,fq,e1,by rw[Wc (Vc he h1 (by nofun))];exact h1,Iss.rm he l xs fq (by simpa only[YJ] using hp) hi,e2⟩
 | .cst l,v,fp,hp,h=>by
  simp only[Is] at h ⊢;obtain⟨p,xs,e1,h1,hi⟩:=h;refine⟨p,xs,e1,?_,Iss.rm he l xs fp (by simpa only[YJ] using hp) hi⟩;rcases h1 with⟨o,h1⟩ | h1
  ·exact .inl ⟨o,by rw[Wc (Vc he h1 (by intro z;cases z))];exact h1⟩
  ·exact .inr h1
 | .dK ks l,v,fp,hp,h=>by simp only[Is] at h ⊢;obtain⟨p,oy,fq,e1,h1,hk,hi,e2⟩:=h;exact⟨p,oy,fq,e1,Rd.rm he (λz=>HO.noConfusion z) (λ_ _ z=>HO.noConfusion z) h1,hk,Iss.rm he l _ fq (by simpa only[YJ] using hp) hi,e2⟩
 | .dT ks l,v,fp,hp,h=>by simp only[Is] at h ⊢;obtain⟨p,oy,fq,e1,h1,hk,hi,e2⟩:=h;exact⟨p,oy,fq,e1,Rd.rm he (λz=>HO.noConfusion z) (λ_ _ z=>HO.noConfusion z) h1,hk,Iss.rm he l _ fq (by simpa only[YJ] using hp) hi,e2⟩
theorem Iss.rm{H:Hp}{e:aM}{eo:dX}(he:H e=aA (.frz eo (.own 1))):∀(l:List PV)(xs:List V)(fp:List aM),XD l=aD->Iss K H l xs fp->Iss K (QX H e) l xs fp
 | [],_,_,_,h=>by simpa only[Iss] using h
 | l::ls,xs,fp,hp,h=>by simp only[XD,ak] at hp;obtain⟨x,r,f1,f2,e1,h1,h2,e2⟩:=h.inv;subst e1 e2;exact Iss.cons (Is.rm he l x f1 hp.1 h1) (Iss.rm he ls r f2 hp.2 h2)
end
structure Sy(N ps:List ah)(L:Lam):Prop where
 kind:L.scope.kind = .function
 co:L.scope.isCoroutine=aC
 gen:L.scope.isGenerator=aC
 nocell:∀y∈L.scope.names,y.2≠.cell
 nd:N.Nodup
 eq:N=ps++[L.free]
 par:∀x∈ps,L.scope.names.lookup x=aA .local
 fre:L.scope.names.lookup L.free=aA .free
 one:∀y∈L.scope.names,y.2 = .free->y.1=L.free
 qn:RQ L.qual=aC
def Fh(P:bE)(w:bg)(K:aI)(mg:ah->Option aJ)(base:bw)(N:List ah)(L:Lam)(f c e:aM)(A:bc)(outer:List lP)(s:aN)(H:Hp):Cx where
 prog:=P
 w:=w
 K:=K
 mg:=mg
 base:=base
 A:=A.deeper (jU L.qual L.scope s.heap.objs.size f (.ref c) [(L.free,e)])
 N:=N
 s₀:=s
 H₀:=H
 env:=jU L.qual L.scope s.heap.objs.size f (.ref c) [(L.free,e)]
 outer:=outer
 stack:=jU L.qual L.scope s.heap.objs.size f (.ref c) [(L.free,e)]::outer
 ex:=[]
 calm:=aD
 fn:=λ_=>aC
 pn:=[]
 xe:=λ_ _=>False
theorem Fj:∀{ps:List ah}{us:List aJ}{i:Nat}{x:ah}{u:aJ},ps.Nodup->ps[i]?=aA x->us[i]?=aA u->(ps.zip us).reverse.lookup x=aA u:=by
 intro ps
 induction ps with
 | nil=>intro us i x u _ h _;simp at h
 | cons p r ih=>
  intro us i x u nd hx hu
  cases us with
  | nil=>simp at hu
  | cons v us=>
   rw[dt,List.reverse_cons,List.lookup_append]
   cases i with
   | zero=>
    have e1:p=x:=by simpa using hx
    have e2:v=u:=by simpa using hu
    subst e1 e2
    have nm:(r.zip us).reverse.lookup p=aB:=by
     rw[List.lookup_eq_none_iff];intro q hq;have:=(hU (List.mem_reverse.mp hq)).1;simp only[beq_eq_false_iff_ne,ne_eq,i9,bne_iff_ne]
     first
      | (intro z;rw[<-z] at this;exact(az.mp nd).1 this)
      | (simp;intro z;rw[<-z] at this;exact(az.mp nd).1 this)
    rw[nm];simp[b8]
   | succ i=>
    rw[ih (az.mp nd).2 (by simpa using hx) (by simpa using hu)];rfl
end VL
namespace VL
open PySem PySem.Spec PyProof.Rows L2
variable {K:aI}
section
variable {P:bE} {w:bg} {mg:ah->Option aJ} {base:bw}
theorem Ds{N ps:List ah}{L:Lam}{f c e:aM}{A:bc}{outer:List lP}{s:aN}{H:Hp}{us:List aJ}{vs:List V}{x:V}{u:aJ}{h₁:bw}{tk:Nat}
  (S:Sy N ps L) (hd:A.handled=aB) (e0:Env0 P w K mg base A outer s H) (hl:vs.length=ps.length) (r:Vals vs us) (he:H e=aB) (hc:s.heap.IsCell e (aA u)) (rx:RelV x u)
  (hns:h₁.Ns s.heap.objs.size (λy=>(ps.zip us).reverse.lookup y)) (old:∀b o,s.heap.get? b=aA o->h₁.get? b=aA o) :
  Inv (Fh P w K mg base N L f c e A outer s H) [] (vs.map aA++[aA x]) H { s with heap:=h₁,toks:=tk }:=by
 have noA:∀b:aM,b∉(Fh P w K mg base N L f c e A outer s H).ex:=λb z=>absurd (show b∈([]:List aM) from z) (by simp);have ndP:ps.Nodup:=by have:=S.nd;rw[S.eq] at this;exact(cW.mp this).1
 have hcl:h₁.IsCell e (aA u):=hc.keeps old
 refine⟨⟨e0.mod,S.kind,rfl,rfl,af _,λy z a h1 h2=>(RN h1).trans (RN h2).symm,λy hy=>?_,λy a z=>(by cases z),λ_=>hd,lV e0.frames,.inr ⟨rfl,rfl⟩,λb z=>absurd z (noA b),e0.bs,e0.bsz,λb _ _=>noA b,λb z=>absurd z (noA b),e0.funs,e0.frf,e0.tab,λq _ hq hn=>?_⟩,
  rfl,e0.bare,Un.kept old,⟨_,hns,λi y v h1 h2 h3=>?_⟩,λy a h=>?_,e0.hok.fresh (af _),λy a h=>?_,λp hp=>absurd (show p∈([]:List (aM×dX)) from hp) (by simp),e0.hok.kept old,?_⟩
 ·have hy:L.scope.names.lookup y=aA .cell\/L.scope.names.lookup y=aA .free:=hy;rcases hy with hy | hy
  ·exact absurd rfl (S.nocell _ (dJ hy))
  ·have ey:y=L.free:=S.one _ (dJ hy) rfl;refine⟨e,?_⟩;show([(L.free,e)]:List (ah×aM)).lookup y=_;rw[ey];simp[b8]
 ·have:q=L.qual:=(KU (show L.qual++_=q++_ from hq)).symm;rw[this,S.qn] at hn;cases hn
 ·have h1:N[i]?=aA y:=h1;rw[S.eq] at h1;by_cases hi:i<vs.length
  ·rw[bP (by simpa using hi),aU] at h2;rw[bP (by omega)] at h1
   cases q:vs[i]? with
   | none=>rw[q] at h2;cases h2
   | some a=>
    rw[q] at h2;cases h2;obtain⟨z,hz,rv⟩:=r.get q;exact⟨z,rv,.inl ⟨S.par y (bN h1),Fj ndP h1 hz⟩⟩
  ·rw[bX (by simpa using hi),aH] at h2;rw[bX (by omega)] at h1
   have e1:i-vs.length=0:=by
    cases q:i-vs.length with
    | zero=>rfl
    | succ n=>rw[q] at h2;simp at h2
   have e2:i-ps.length=0:=by omega
   rw[e1] at h2;rw[e2] at h1;have e3:x=v:=by simpa using h2
   have e4:L.free=y:=by simpa using h1
   subst e3 e4;refine⟨u,rx,.inr ⟨.inr S.fre,e,?_,hcl⟩⟩;show([(L.free,e)]:List (ah×aM)).lookup L.free=_;simp[b8]
 ·have h:([(L.free,e)]:List (ah×aM)).lookup y=aA a:=h;rw[QW h];exact⟨_,hcl⟩
 ·have h:([(L.free,e)]:List (ah×aM)).lookup y=aA a:=h;rw[QW h];exact he
 ·show _=N.length;rw[S.eq];simp[hl]
def spL(K:aI)(L:Lam)(f:aM)(D:PV->List PV->Option PV)(n:Nat):Sp:=λvs H Q _=>vs.length=n/\∃l ls u x fp fps r,CloAt H L (.ref f) u/\RelV x u/\Is K H l x fp/\YJ l=aD/\Iss K H ls vs fps/\XD ls=aD/\D l ls=aA r/\ZY r=aD/\
 ∀v H',Same H H'->Is K H' r v []->Q v H'
def Mo(P:bE)(w:bg)(K:aI)(mg:ah->Option aJ)(base:bw)(k:Nat)(L:Lam)(D:PV->List PV->Option PV)(n:Nat):Prop:=
 ∀(A:bc)(outer:List lP)(s:aN)(H:Hp)(f:aM)(us:List aJ)(vs:List V)(Q:VK)(E:XK),Room k A->Env0 P w K mg base A outer s H->Vals vs us->spL K L f D n vs H Q E->
  gz (model P w) A (.call (.ref f) ⟨us,[]⟩) (CR Lk outer P w H s Q E) s
theorem Env0.rm{A:bc}{outer:List lP}{s:aN}{H:Hp}{e:aM}{eo:dX}(e0:Env0 P w K mg base A outer s H)(he:H e=aA (.frz eo (.own 1))):Env0 P w K mg base A outer s (QX H e):=
 ⟨e0.frames,e0.mod,λb o q=>⟨(e0.bs b o q).1,Tc (e0.bs b o q).2⟩,e0.bsz,e0.funs,λb hb=>Tc (e0.frf b hb),TabsH.rm e0.tab he,Fg e0.hok he,e0.bare⟩
theorem Fm{N ps:List ah}{L:Lam}{k n:Nat}(f:XE)(S:Sy N ps L)
  (hb:∀(cl:List (ah×aM))(pm cdv ct:aJ)(us:List aJ),us.length=ps.length->kN (gZ "<lambda>" L.qual L.params L.body L.scope cl pm cdv ct) ⟨us,[]⟩=pure (ps.zip us)) (hn:ps.length=n)
  (hbody:∀(fa c e:aM)(A:bc)(outer:List lP)(s:aN)(H:Hp),Room k (A.deeper (jU L.qual L.scope s.heap.objs.size fa (.ref c) [(L.free,e)]))->VE (Fh P w K mg base N L fa c e A outer s H) L.body f) :
  Mo P w K mg base (k+1) L (λl ls=>f (ls.map aA++[aA l])) n:=by
 intro A outer s H fa us vs Q E hr e0 rv hsp;obtain⟨hl,l,ls,u,x,fp,fps,r,⟨fa',fo,c,oc,e,eo,pm,ct,hv,hf,hfo,hc,hco,he,heo⟩,rx,il,pl,is,pls,hD,pr,q⟩:=hsp;cases hv;have ho:s.heap.get? fa=aA fo:=(e0.hok fa _ hf).1;have hoc:s.heap.get? c=aA oc:=(e0.hok c _ hc).1;have hoe:s.heap.get? e=aA eo:=(e0.hok e _ he).1;obtain⟨cvs,ctk,hcd,hcq⟩:=hco;have hle:vs.length=ps.length:=by rw[hl,hn]
 have lim:s.heap.NoLimit:=e0.mod.nolimit.keeps λb o e=>(e0.bs b o e).1;refine PySem.W.kla_callFunE hr.depth ho hfo S.co S.gen rfl ⟨c,oc,cvs,ctk,rfl,hoc,hcd,hcq⟩ ?_;rw[hb _ _ _ _ us (by rw[<-rv.length];exact hle)];refine aP (lY S.nocell (λy hy=>S.par y.1 (hU hy).1) (λh₁ hns hsb=>?_) S.kind);have old:∀b o,s.heap.get? b=aA o->h₁.get? b=aA o:=λb o q=>hsb.extBut b o (bH (aW q)) (aO _ q);refine⟨lim.keeps old,?_⟩;show gz _ _ (.expr L.body (jU L.qual L.scope s.heap.objs.size fa (.ref c) [(L.free,e)])) _ _;refine PySem.W.kla_codeExpr ?_;have e1:=Env0.rm e0 he;have I:=Ds (f:=fa) (c:=c) (tk:=s.toks+(ps.zip us).length) S hr.hd e1 hle rv Nk ⟨eo,hoe,heo⟩ rx hns old
 have env:EnvIs K (λ_=>False) (QX H e) (ls.map aA++[aA l]) (vs.map aA++[aA x]):=⟨λi a hi=>by
  have hlv:=is.len;by_cases hlt:i<ls.length
  ·rw[bP (by simpa using hlt),aU] at hi
   cases z:ls[i]? with
   | none=>rw[z] at hi;cases hi
   | some b=>
    rw[z] at hi;cases hi;obtain⟨v,f1,h1,h2,_⟩:=is.get z;refine⟨v,f1,?_,Is.rm he _ _ _ ?_ h2,λ_ _ z=>z⟩
    ·rw[bP (by rw[aH];omega),aU,h1];rfl
    ·have all:∀(m:List PV),XD m=aD->∀y∈m,YJ y=aD:=by
      intro m
      induction m with
      | nil=>intro _ y hy;simp at hy
      | cons a r ih=>
       intro hm y hy;simp only[XD,ak] at hm;rcases a9.mp hy with rfl | hy
       ·exact hm.1
       ·exact ih hm.2 y hy
     exact all ls pls _ (bN z)
  ·rw[bX (by simpa using hlt),aH] at hi
   have z:i-ls.length=0:=by
    cases q:i-ls.length with
    | zero=>rfl
    | succ n=>rw[q] at hi;simp at hi
   rw[z] at hi;have e3:l=a:=by simpa using hi
   subst e3;refine⟨x,fp,?_,Is.rm he _ _ _ pl il,λ_ _ z=>z⟩;rw[bX (by rw[aH];omega),aH,show i-vs.length=0 by omega];rfl⟩
 refine cH (hbody fa c e A outer s (QX H e) (hr.deeper _) [] _ _ _ (λv H'=>Same (QX H e) H'/\∃fq,Is K H' r v fq) I ⟨λ_=>False,_,r,λ_ z=>z.elim,env,hD,λv H' fq sm i _=>⟨sm,fq,i⟩⟩) (λy s' hs=>?_) λ_ _ hs=>hs.elim;obtain⟨v,H',J,ry,sm,fq,i⟩:=hs;have hn':H' e=aB:=J.freeC L.free e (by show([(L.free,e)]:List (ah×aM)).lookup L.free=_;simp[b8]);have hb':Un (OH outer) [] (QX H e) H' s.heap s'.heap:=J.base;have enf:e∉OH outer:=λz=>by rw[e0.frf e z] at he;cases he
 have he':s'.heap.get? e=aA eo:=hb'.keep e eo hoe Nk enf (by simp);have i2:=Is.pure _ _ _ pr i;subst i2
 have sm2:Same H (upd H' e (.frz eo (.own 1))):=λb o hb=>by
  by_cases z:b=e
  ·subst z;rw[he] at hb;cases hb;exact upd_same
  ·rw[upd_ne z];exact sm b o (by rw[Wc z];exact hb)
 show CE outer P w H s Q y s';exact⟨v,_,J.os,J.bare,Dr hb' he hn',JG J.hok hn' he',ry,q v _ sm2 (i.mono (Same.new hn' _))⟩
end
def Mp(T:Lam->PV->List PV->Option PV)(i:Nat)(fs:List XE):XE:=λs=>match s[i]? with
 | some (aA (.clo L l))=>(T9 fs s).bind λls=>if(YJ l&&XD ls)=aD then(T L l ls).bind (λr=>if ZY r=aD then aA r else aB) else aB
 | _=>aB
section
variable {X:Cx} {x:ah} {k:Nat} {e:bK} {es:List bK} {fs:List XE} {p pos:fN}
theorem Br(i:Nat){T:Lam->PV->List PV->Option PV}{n:Nat}(hN:X.N[i]?=aA x)(hv:A5 X.env.scope x)(hT:∀L,(∃l ls r,T L l ls=aA r)->Mo X.prog X.w X.K X.mg X.base k L (T L) n)(hr:Room k X.A)(ha:VA X (e::es) fs)(hn:fs.length=n:=by rfl)
  (hdb:(x==("__debug__" : ah))=aC:=by decide) (hcd:(x==("__classdict__" : ah))=aC:=by decide) (he:aR (e::es) X.env=(aC,eval e X.env)::aR es X.env:=by rfl) (hpl:(cw pos (aR es X.env)).any (·.1)=aC:=by rfl) :
  VM X (.Call (.Name x p) (e::es) [] pos) (Mp T i fs):=by
 intro du s Z H Q I ⟨st,r,env,ev,q⟩;unfold Mp at ev;split at ev
 ·rename_i L l hs;obtain⟨ls,e1,e2⟩:=Ze ev;split at e2
  ·rename_i hp;simp only[ak] at hp;obtain⟨r',e3,e4⟩:=Ze e2;split at e4
   ·rename_i hpr;cases e4;obtain⟨v,fp,hv1,hi,_⟩:=env.is i _ hs;have hi':=hi;simp only[Is] at hi';obtain⟨u,y,hclo,ry,il⟩:=hi';obtain⟨f,fo,c,oc,ce,eo,pm,ct,ev1,hf,hfo,_⟩:=id hclo;subst ev1;have fnat:∀{s1:aN}{H1:Hp},Inv X du Z H1 s1->H1 f=aA (.frz fo (.own 0))->PySem.W.FnAt f s1.heap:=λ{s1 H1} I1 h1=>by have:=(I1.hok f _ h1).1;obtain⟨oc',od',dat,sl'⟩:=fo;cases (show dat=_ from hfo);exact⟨_,_,_,_,this⟩
    refine cZ (Yo (HR (pos:=p) hN hv hdb hcd du s Z H (λv1 H1=>v1 = .ref f/\H1=H) I ⟨_,hv1,rfl,rfl⟩) λuf s1 ⟨v1,H1,I1,r1,ef,eH⟩=>?_);subst ef eH;obtain rfl:uf=b7 f:=r1;refine PySem.W.callWith_F (fnat I1 hf) (Yo (ha pos du s1 Z H1 (λvs H2=>Same H1 H2/\∃fps,Iss X.K H2 ls vs fps) I1 ⟨λ_=>False,st,ls,λ_ z=>z.elim,env,e1,λvs H2 fps sm i2 _=>⟨sm,fps,i2⟩⟩) λus s2 ⟨vs,H2,I2,rv,sm,fps,i2⟩=>⟨fnat I2 (sm f _ hf),?_⟩) he hpl;refine k6 (gE (hT L ⟨l,ls,r,e3⟩ X.A X.stack s2 H2 f us vs Q E0 hr I2.env0 rv ⟨by rw[i2.len,V2 e1,hn],l,ls,u,y,fp,fps,r,hclo.tr (Same.tk2 sm),ry,il.mono sm,hp.1,i2,hp.2,e3,hpr,λv H' sm' i'=>q v H' [] (sm.trans sm') i' cM λp hp=>by simp at hp⟩) λrr s' hq=>?_)
    cases rr with
    | error er=>exact(show False from hq).elim
    | ok fl=>
     cases fl with
     | ret u'=>exact I2.after hq
     | next=>exact cq hq
     | brk=>exact cq hq
     | cont=>exact cq hq
   ·cases e4
  ·cases e2
 ·cases ev
end
end VL
namespace VL
open PySem PySem.Spec PyProof.Rows L2
variable {K:aI}
theorem LV{pos pos':fN}{c v:aJ}{a b:Int}(l:List aJ)(h:TriplesOk l)(hv:jY pos (l++[dm a,dm b,c])=aA v):jY pos l=aA v\/v=c:=by
 fun_induction TriplesOk l with
 | case1=>
  simp only[jM,jY,dm] at hv;split at hv
  ·exact .inr (bB hv).symm
  ·cases hv
 | case2 a' t b' u x Zt ih=>
  simp only[i0,jY] at hv ⊢;split at hv
  ·rename_i hc;rw[pC hc];exact .inl hv
  ·rename_i hc;rw[pE hc];exact ih h hv
 | case3 l h1 h2=>exact h.elim
def Za4(X:Cx)(L:Lam):TE:=λ_ H Q=>∀f fo c oc e pm ct H1,Same H H1->H1 f=aA (.frz fo (.own 0))->fo.data = .func (gZ "<lambda>" L.qual L.params L.body L.scope [(L.free,e)] pm (.ref c) ct)->
 H1 c=aA (.frz oc (.own 0))->M6 oc L.qual->X.env.cells.lookup L.free=aA e->Q (.ref f) H1
section
variable {X:Cx}
theorem Bs{q:ah}{L:Lam}{lpos:fN}(hfn:X.env.func≠aB)(hq:X.env.qual=q++".<locals>.")(hlm:RQ q=aD)(hL:L.qual=Qa q)(hdef:oW L.params X.env=([],[]))
  (hcl:∃e,X.env.cells.lookup L.free=aA e/\kd L.scope X.env=pure [(L.free,e)]):PE X (.Lambda L.params L.body L.scope lpos) (Za4 X L):=by
 intro du s Z H Q I h;obtain⟨e,hce,hcl⟩:=hcl;have hcod:=I.ok.cod q hfn hq hlm
 obtain⟨c₀,hcode⟩:∃c₀,X.env.code = .ref c₀:=by
  cases z:X.env.code with
  | ref c=>exact⟨c,rfl⟩
  | _=>rw[z] at hcod;simp[dY] at hcod
 rw[hcode] at hcod;obtain⟨Pt,ps,tk,hC,hP,hq0,hB⟩:=(TabsH.un I.ok.tab I.base) q c₀ hlm hcod;obtain⟨q',tk',ps',eq,hg,ht1,ht2⟩:=(show ObjOk X.prog X.w H s.heap Pt (.tbl ps) from I.hok Pt _ hP);rw[hq0] at eq;cases eq;have hns:s.heap.Ns bJ X.mg:=I.mod.glob.keeps I.bk;have hgP:bJ≠Pt:=λz=>by obtain⟨o,es,ep,e1,hd,_⟩:=hns;rw[z,hg] at e1;cases e1;cases hd
 have hB':s.heap.BuiltinsAt X.mg Pt:=by obtain⟨bm,ob,b1,b2,b3,b4,b5,b6⟩:=hB;exact⟨bm,ob,b1,b2,b3,b4,I.bk _ _ b5,b6⟩
 have hqual:X.env.qual++"<lambda>" = L.qual:=by rw[hq,hL];rfl
 have fresh:∀b,s.heap.objs.size<=b->H b=aB:=λb hb=>I.hok.fresh hb;refine PySem.W.kla_eval hdef ?_;rw[hqual]
 cases hf:jY lpos ps'.toList with
 | none=>
  refine PySem.W.kla_makeFunction (mg:=X.mg) hcl I.ok.glob hns hcode (hC.keeps I.bk) hg ht1 hf hgP hB' λc' ctv h' tk2 hx hge hlt hrec htb=>?_;obtain⟨c2,oc,vs,t,e2,hoc,hd,hv⟩:=hrec;cases e2;generalize hfo:PySem.W.kla_obj "<lambda>" L.qual L.params L.body L.scope [(L.free,e)] ((X.mg "__name__").getD .none) c' ctv=fo;have hfd:fo.data = .func (gZ "<lambda>" L.qual L.params L.body L.scope [(L.free,e)] ((X.mg "__name__").getD .none) (.ref c') ctv):=by rw[<-hfo]
  have hfne:h'.objs.size≠c':=g9 hlt;have hsz:s.heap.objs.size<=h'.objs.size:=cu hge (dH hlt);have nc:H c'=aB:=fresh _ hge;have nf:H h'.objs.size=aB:=fresh _ hsz;have hP1:Pt<s.heap.objs.size:=aW hg;have up:∀b o,H b=aA o->upd (upd H c' (.frz oc (.own 0))) h'.objs.size (.frz fo (.own 0)) b=aA o:=λb o hb=>by rw[upd_ne (Zp hb nf),upd_ne (Zp hb nc)];exact hb
  have kk:∀b o,b≠Pt->s.heap.get? b=aA o->(h'.push fo).get? b=aA o:=λb o hb hbo=>aO _ (hx b o hb hbo);have gP:(h'.push fo).get? Pt=aA (g7 (ps'++#[dm lpos.line,dm lpos.col,.ref c'])):=aO _ htb
  have un:Un X.fs [] H (upd (upd H c' (.frz oc (.own 0))) h'.objs.size (.frz fo (.own 0))) s.heap (h'.push fo):=by
   refine⟨λb o hb n _ _=>kk b o (λz=>by rw[z,hP] at n;cases n) hb,λb o hb n _ _=>⟨o.slots,kk b o (λz=>by rw[z,hP] at n;cases n) hb⟩,λb o hb n _=>?_,λb o hb _=>?_,λb xs hb=>up b _ hb,λb o u hb=>up b _ hb,λb ps hb=>⟨#[],by rw[up b _ hb];simp⟩⟩
   ·have hlb:=aW hb;rw[upd_ne (bH (ar hlb hsz)),upd_ne (bH (ar hlb hge))];exact n
   ·by_cases z:b=Pt
    ·rw[z];exact⟨_,gP⟩
    ·exact⟨o,kk b o z hb⟩
  have gc:(h'.push fo).get? c'=aA oc:=aO _ hoc;have gf:(h'.push fo).get? h'.objs.size=aA fo:=aj _ (by rw[<-hfo];rfl);have upc:upd (upd H c' (.frz oc (.own 0))) h'.objs.size (.frz fo (.own 0)) c'=aA (.frz oc (.own 0)):=by rw[upd_ne (cY hfne),upd_same]
  have hok:HOk X.prog X.w (upd (upd H c' (.frz oc (.own 0))) h'.objs.size (.frz fo (.own 0))) (h'.push fo):=λb u hb=>by
   by_cases z1:b=h'.objs.size
   ·subst z1;rw[upd_same] at hb;cases hb;exact⟨gf,_,gf⟩
   ·rw[upd_ne z1] at hb;by_cases z2:b=c'
    ·subst z2;rw[upd_same] at hb;cases hb;exact⟨gc,_,gc⟩
    ·rw[upd_ne z2] at hb;by_cases z3:b=Pt
     ·subst z3;rw[hP] at hb;cases hb;refine⟨_,tk,_,hq0,gP,?_,λpos v hv'=>?_⟩
      ·rw[eJ];exact TriplesOk_snoc _ _ _ _ ht1
      ·rw[eJ] at hv';rcases LV (pos':=pos) _ ht1 hv' with hv' | hv'
       ·obtain⟨c3,o3,e1,e2,e3⟩:=ht2 pos v hv';exact⟨c3,o3,e1,up _ _ e2,e3⟩
       ·exact⟨c',oc,hv',upc,vs,t,hd,by rw[<-hL];exact hv⟩
     ·exact(I.hok b u hb).stay (λb' o hb' q=>kk b' o (by
       rcases hb' with z | z
       ·rw[z];exact z3
       ·exact λz'=>by rw[z',hP] at z;cases z) q) (λb' q=>up _ _ q) (λb' xs q=>up _ _ q) λb' u' q=>up _ _ q
  have I1:=I.un (t':=tk2) un hok;exact⟨.ref h'.objs.size,_,I1,rfl,h _ fo c' oc e _ ctv _ up upd_same hfd upc ⟨vs,t,hd,hv⟩ hce⟩
 | some cv=>
  obtain⟨c',oc,e1,hc1,hc2⟩:=ht2 lpos cv hf;subst e1;refine PySem.W.kla_makeFunctionHit (mg:=X.mg) hcl I.ok.glob hns hcode (hC.keeps I.bk) hg ht1 hf hB' λctv h' tk2 hk hsz=>?_;generalize hfo:({ cls:=.type "function",data:=.func (gZ "<lambda>" L.qual L.params L.body L.scope [(L.free,e)] ((X.mg "__name__").getD .none) (.ref c') ctv) }:dX)=fo;have hfd:fo.data = .func (gZ "<lambda>" L.qual L.params L.body L.scope [(L.free,e)] ((X.mg "__name__").getD .none) (.ref c') ctv):=by rw[<-hfo]
  have nf:H h'.objs.size=aB:=fresh _ hsz;have up:∀b o,H b=aA o->upd H h'.objs.size (.frz fo (.own 0)) b=aA o:=λb o hb=>by rw[upd_ne (Zp hb nf)];exact hb
  have kk:∀b o,s.heap.get? b=aA o->(h'.push fo).get? b=aA o:=λb o hbo=>aO _ (hk b o hbo);have gf:(h'.push fo).get? h'.objs.size=aA fo:=aj _ (by rw[<-hfo];rfl);have un:Un X.fs [] H (upd H h'.objs.size (.frz fo (.own 0))) s.heap (h'.push fo):=Un.laid kk hsz nf;have hok:HOk X.prog X.w (upd H h'.objs.size (.frz fo (.own 0))) (h'.push fo):=I.hok.laid kk hsz ⟨gf,_,gf⟩;have I1:=I.un (t':=tk2) un hok;exact⟨.ref h'.objs.size,_,I1,rfl,h _ fo c' oc e _ ctv _ up upd_same hfd (up _ _ hc1) (by rw[hL];exact hc2) hce⟩
end
section
variable {X:Cx} {x:ah} {ps:List ah} {sp:Sp} {k:Nat} {e:bK} {es:List bK} {t:TA} {p pos:fN}
def Bt(X:Cx)(i:Nat)(y:ah)(sp:Sp)(t:TA):TE:=λZ H Q=>t Z H λvs H1=>∀ce eo u v,X.env.cells.lookup y=aA ce->H1 ce=aB->Z[i]?=aA (aA v)->RelV v u->eo.data = .cell (aA u)->
 ∃Q':VK,sp vs (upd H1 ce (.frz eo (.own 1))) Q' E0/\∀z H',H' ce=aA (.frz eo (.own 1))->Q' z H'->Q z (QX H' ce)
theorem Fo(C:Xf X.prog X.w X.K X.mg X.base x ps sp k)(hr:Room k X.A)(hg:Gl X x)(i:Nat){y:ah}(hN:X.N[i]?=aA y)(hk:X.env.scope.names.lookup y=aA .cell)(hfn:X.fn y=aD)(hZ:∀Z H Q,t Z H Q->∃v,Z[i]?=aA (aA v))(ha:PA X (e::es) t)
  (hdb:(x==("__debug__" : ah))=aC:=by decide) (he:aR (e::es) X.env=(aC,eval e X.env)::aR es X.env:=by rfl) (hpl:(cw pos (aR es X.env)).any (·.1)=aC:=by rfl) :
  PE X (.Call (.Name x p) (e::es) [] pos) (Bt X i y sp t):=by
 obtain⟨f,fd,hm,hkp,hb,F⟩:=C.ex;intro du s Z H Q I h;obtain⟨v,hv⟩:=hZ Z H _ h;refine cZ (UY I hg hm ?_ hdb);refine j8 (h₀:=X.base) I.ok.mod.kin hkp (Yo (ha pos du s Z H _ I h) λus s1 ⟨vs,H1,I1,r,q⟩=>⟨I1.kIn,?_⟩) he hpl;obtain⟨m,hns,hl⟩:=I1.loc;obtain⟨u,ru,lk⟩:=hl i y v hN hv (.inr (.inl hk));rcases lk with⟨z,_⟩ | ⟨_,ce,hce,eo,heo,hd⟩
 ·have z:X.env.scope.names.lookup y=aA .local:=z;rw[hk] at z;cases z
 have hn1:H1 ce=aB:=I1.freeC y ce hce;obtain⟨Q',hsp,hQ'⟩:=q ce eo u v hce hn1 hv ru hd;have hab:X.s₀.heap.objs.size<=ce:=I1.ok.cab y ce hfn hce
 have nfs:ce∉OH X.stack:=λz=>by
  rcases a9.mp (I1.stkSub ce z) with z | z
  ·exact I1.cne y ce hce z
  ·obtain⟨_,o,ho,_⟩:=I1.ok.funs.mem z;exact absurd (ar (aW ho) hab) (cU _)
 have e0:=I1.env0
 have e1:Env0 X.prog X.w X.K X.mg X.base X.A X.stack s1 (upd H1 ce (.frz eo (.own 1))):=by
  refine⟨e0.frames,e0.mod,λb o hb=>⟨(e0.bs b o hb).1,?_⟩,e0.bsz,e0.funs,λb hb=>?_,TabsH.add e0.tab hn1,JG e0.hok hn1 heo,e0.bare⟩
  ·have:b≠ce:=λz=>by have:=aW hb;have h2:=I1.ok.bsz;rw[z] at this;exact absurd (ar this (cu h2 hab)) (cU _)
   rw[upd_ne this];exact(e0.bs b o hb).2
  ·have nb:b≠ce:=λz=>by rw[z] at hb;exact nfs hb
   rw[upd_ne nb];exact e0.frf b hb
 have hle:us.length=ps.length:=by rw[<-r.length];exact F.len _ _ _ _ hsp
 have hbd:=hb s1 us I1.kIn (by simpa using hle);rw[dU] at hbd;refine k6 (gE (F.run X.A X.stack s1 _ ⟨us,[]⟩ us vs Q' E0 hr e1 hbd r hsp) λrr s' hq=>?_)
 cases rr with
 | error er=>exact(show False from hq).elim
 | ok fl=>
  cases fl with
  | ret u'=>
   obtain⟨v',H',os,bare,un,hok,rv,qq⟩:=(show CE X.stack X.prog X.w _ s1 Q' u' s' from hq);have h1:H' ce=aA (.frz eo (.own 1)):=un.frzs ce eo _ upd_same;exact I1.after ⟨v',QX H' ce,os,bare,Bq un hn1 heo nfs hok,Fg hok h1,rv,hQ' v' H' h1 qq⟩
  | next=>exact cq hq
  | brk=>exact cq hq
  | cont=>exact cq hq
end
end VL
namespace VL
open PySem PySem.Spec PyProof.Rows L2
variable {K:aI}
def UR(D:List PV->Option PV)(f1 f2:XE)(L:Lam)(i:Nat):XE:=λs=>(f1 s).bind λl1=>(f2 s).bind λl2=>match s[i]? with
 | some (aA l)=>(D [l1,l2,.clo L l]).bind λr=>if YJ r=aD then aA r else aB
 | _=>aB
section
variable {X:Cx} {x:ah} {ps:List ah} {k:Nat} {a b:bK} {f1 f2:XE} {p pos lpos:fN}
theorem Fp{q:ah}{L:Lam}{D:List PV->Option PV}(C:Xf X.prog X.w X.K X.mg X.base x ps (YY X.K D 3) k)(hr:Room k X.A)(hg:Gl X x)(i:Nat)(hN:X.N[i]?=aA L.free)(hk:X.env.scope.names.lookup L.free=aA .cell)(hfn:X.fn L.free=aD)
  (h1:VE X a f1) (h2:VE X b f2) (hfu:X.env.func≠aB) (hq:X.env.qual=q++".<locals>.") (hlm:RQ q=aD) (hL:L.qual=Qa q) (hdef:oW L.params X.env=([],[]))
  (hcl:∃e,X.env.cells.lookup L.free=aA e/\kd L.scope X.env=pure [(L.free,e)])
  (hs1:aR (a::b::[.Lambda L.params L.body L.scope lpos]) X.env=(aC,eval a X.env)::aR (b::[.Lambda L.params L.body L.scope lpos]) X.env) (hs2:aR (b::[.Lambda L.params L.body L.scope lpos]) X.env=(aC,eval b X.env)::aR [.Lambda L.params L.body L.scope lpos] X.env)
  (hs3:aR [.Lambda L.params L.body L.scope lpos] X.env=(aC,eval (.Lambda L.params L.body L.scope lpos) X.env)::aR [] X.env) (hpl:(cw pos (aR (b::[.Lambda L.params L.body L.scope lpos]) X.env)).any (·.1)=aC)
  (hdb:(x==("__debug__" : ah))=aC:=by decide):VM X (.Call (.Name x p) (a::b::[.Lambda L.params L.body L.scope lpos]) [] pos) (UR D f1 f2 L i):=by
 have pa:=ZW h1 (ZW h2 (ZW (Bs (lpos:=lpos) hfu hq hlm hL hdef hcl) YU hs3) hs2) hs1;have pa2:=PA.imp pa (t':=λZ H Q=>(∃v,Z[i]?=aA (aA v))/\_) λZ H Q z=>z.2;refine PE.imp (Fo (t:=_) C hr hg i hN hk hfn (λZ H Q z=>z.1) pa2 hdb hs1 hpl) λZ H Q ⟨s,r,env,e,qq⟩=>?_;unfold UR at e;obtain⟨l1,e1,e⟩:=Ze e;obtain⟨l2,e2,e⟩:=Ze e;split at e
 ·rename_i lc hs;obtain⟨r',hD,e⟩:=Ze e;split at e
  ·rename_i hpr;cases e;obtain⟨v,fpc,hv,ic,_⟩:=env.is i _ hs;refine⟨⟨v,hv⟩,λ_=>False,s,l1,λ_ z=>z.elim,env,e1,λv1 H1 fp1 s1 i1 _=>⟨λ_=>False,s,l2,λ_ z=>z.elim,env.mono s1,e2,λv2 H2 fp2 s2 i2 _=>?_⟩⟩;intro f fo c oc ce' pm ct H3 s3 hf hfd hc hco hce' ce eo u v' hce hn hv' ru hd;have hce2:ce'=ce:=bB (hce'.symm.trans hce);subst hce2;rw[hv] at hv';cases hv';have s4:Same H3 (upd H3 ce' (.frz eo (.own 1))):=Same.new hn _;have icl:Is X.K (upd H3 ce' (.frz eo (.own 1))) (.clo L lc) (.ref f) fpc:=by simp only[Is];exact⟨u,v,⟨f,fo,c,oc,ce',eo,pm,ct,rfl,s4 _ _ hf,hfd,s4 _ _ hc,hco,upd_same,hd⟩,ru,ic.mono (((s1.trans s2).trans s3).trans s4)⟩
   refine⟨λz H'=>∃fq,Same (upd H3 ce' (.frz eo (.own 1))) H'/\Is X.K H' r z fq/\fq.Nodup/\∀p∈fq,upd H3 ce' (.frz eo (.own 1)) p=aB/\Vx (H' p),?_,λz H' hz ⟨fq,sm,ir,nd,nw⟩=>?_⟩
   ·exact⟨rfl,[l1,l2,.clo L lc],_,r,Iss.cons (i1.mono ((s2.trans s3).trans s4)) (Iss.cons (i2.mono (s3.trans s4)) (Iss.one icl)),hD,λz H' fq sm ir nd nw=>⟨fq,sm,ir,nd,nw⟩⟩
   ·have s5:Same H (QX H' ce'):=λy o hy=>by have h3:H3 y=aA o:=((s1.trans s2).trans s3) y o hy;rw[Wc (Zp h3 hn)];exact sm y o (s4 y o h3)
    refine qq z _ fq s5 (Is.rm hz _ _ _ hpr ir) nd λy hy=>?_;obtain⟨n1,n2⟩:=nw y hy;have ne:y≠ce':=λz=>by rw[z,upd_same] at n1;cases n1
    rw[upd_ne ne] at n1;exact⟨Same.off ((s1.trans s2).trans s3) n1,by rw[Wc ne];exact n2⟩
  ·cases e
 ·cases e
theorem Mq{q:ah}{L:Lam}{pa:mC}{bo:bK}{sc:gk}{i:Nat}{D:List PV->Option PV}(hLa:L.params=pa)(hLb:L.body=bo)(hLs:L.scope=sc)(C:Xf X.prog X.w X.K X.mg X.base x ps (YY X.K D 3) k)(hr:Room k X.A)(hg:Gl X x)(hN:X.N[i]?=aA L.free)(hk:X.env.scope.names.lookup L.free=aA .cell)(hfn:X.fn L.free=aD)
  (h1:VE X a f1) (h2:VE X b f2) (hfu:X.env.func≠aB) (hq:X.env.qual=q++".<locals>.") (hlm:RQ q=aD) (hL:L.qual=Qa q) (hdef:oW pa X.env=([],[]))
  (hcl:∃e,X.env.cells.lookup L.free=aA e/\kd sc X.env=pure [(L.free,e)])
  (hs1:aR (a::b::[.Lambda pa bo sc lpos]) X.env=(aC,eval a X.env)::aR (b::[.Lambda pa bo sc lpos]) X.env) (hs2:aR (b::[.Lambda pa bo sc lpos]) X.env=(aC,eval b X.env)::aR [.Lambda pa bo sc lpos] X.env)
  (hs3:aR [.Lambda pa bo sc lpos] X.env=(aC,eval (.Lambda pa bo sc lpos) X.env)::aR [] X.env) (hpl:(cw pos (aR (b::[.Lambda pa bo sc lpos]) X.env)).any (·.1)=aC)
  (hdb:(x==("__debug__" : ah))=aC:=by decide):VM X (.Call (.Name x p) (a::b::[.Lambda pa bo sc lpos]) [] pos) (UR D f1 f2 L i):=by
 subst hLa hLb hLs;exact Fp C hr hg i hN hk hfn h1 h2 hfu hq hlm hL hdef hcl hs1 hs2 hs3 hpl hdb
end
end VL
namespace VL
open PySem PySem.Spec PyProof.Rows L2
variable {K:aI}
def RO(K:aI):List (ah×aM×aM):=(["tree_of","still_by","made_of"]:List ah).filterMap λx=>(iu K x).map λcp=>(x,cp)
def Sz(K:aI)(q:bE):Bool:=
 oX K&&decide ((RO K).map (·.2.2)).Nodup&&(RO K).all (λr=>((recsOf q).find? (λe=>e.name==r.1)).isSome)&&
 K.all λp=>match p.2.data with
  | .fields vs=>(match vs.toList with
   | _::.str n _::_=>!(RQ n) || (match iu K n with
    | some (c,_)=>c==p.1
    | none=>aC)
   | _=>aD)
  | _=>aD
theorem Hf{x:ah}{c Pt:aM}(h:(x,c,Pt)∈RO K):iu K x=aA (c,Pt)/\RQ x=aD:=by
 unfold RO at h;obtain⟨y,hy,e⟩:=iC.mp h
 cases z:iu K y with
 | none=>rw[z] at e;cases e
 | some cp=>
  rw[z] at e;have e:(y,cp)=(x,c,Pt):=bB e;cases e;refine⟨z,?_⟩;simp only[a9,fm,or_false] at hy;rcases hy with rfl | rfl | rfl<;>decide
theorem Fq{x:ah}{c Pt:aM}(h:iu K x=aA (c,Pt))(hl:RQ x=aD):(x,c,Pt)∈RO K:=by
 unfold RO;refine iC.mpr ⟨x,?_,by rw[h];rfl⟩;unfold RQ at hl;simp only[n8,beq_iff_eq] at hl;simp only[a9,fm,or_false];rcases hl with(h | h) | h
 ·exact .inl h
 ·exact .inr (.inl h)
 ·exact .inr (.inr h)
theorem LW{q:bE}(g:Sz K q=aD){x:ah}{c:aM}(hl:RQ x=aD)(hc:dY K (.ref c) x=aD):∃Pt,(x,c,Pt)∈RO K:=by
 unfold Sz at g;simp only[ak] at g;have hall:=g.2
 have hc:(match K.lookup c with
   | some ⟨_,_,.fields vs,_⟩=>(match vs.toList with | _::.str n _::_=>n==x | _=>aC)
   | _=>aC)=aD:=hc
 split at hc
 ·rename_i oc od vs sl hlk;split at hc
  ·rename_i y n t r hvs;have hn:n=x:=beq_iff_eq.mp hc;subst hn;have h1:=bC.mp hall (c,_) (kl hlk);simp only[hvs,hl,gN,oZ] at h1;split at h1
   ·rename_i c2 P2 h2;have:c2=c:=beq_iff_eq.mp h1;subst this;exact⟨P2,Fq h2 hl⟩
   ·cases h1
  ·cases hc
 ·cases hc
theorem Mr:∀{l:List (ah×aM×aM)}{x:ah}{c Pt:aM},(l.map (·.2.2)).Nodup->(x,c,Pt)∈l->l.find? (λr=>r.2.2==Pt)=aA (x,c,Pt)
 | [],_,_,_,_,h=>by simp at h
 | r::l,x,c,Pt,nd,h=>by
  rw[aZ] at nd;rw[cf];rcases a9.mp h with e | h
  ·subst e;simp
  ·have:r.2.2≠Pt:=λz=>(az.mp nd).1 (aa.mpr ⟨_,h,z.symm⟩);have e2:(r.2.2==Pt)=aC:=by simpa using this
   rw[e2];exact Mr (az.mp nd).2 h
def LX(l:List (ah×aM×aM))(H:Hp):Hp:=λb=>match l.find? (λr=>r.2.2==b) with
 | some r=>aA (.tbl #[.str (Qa r.1) 0])
 | none=>H b
theorem Hg{l:List (ah×aM×aM)}{H:Hp}{b:aM}(h:∀r∈l,r.2.2≠b):LX l H b=H b:=by unfold LX;rw[gH.mpr λr hr=>by simpa using h r hr]
theorem TY(l:List (ah×aM×aM))(H:Hp)(b:aM):(∃r∈l,r.2.2=b/\LX l H b=aA (.tbl #[.str (Qa r.1) 0]))\/((∀r∈l,r.2.2≠b)/\LX l H b=H b):=by
 unfold LX
 cases z:l.find? (λr=>r.2.2==b) with
 | some r=>exact .inl ⟨r,gp z,by simpa using lC z,rfl⟩
 | none=>exact .inr ⟨λr hr=>by simpa using gH.mp z r hr,rfl⟩
theorem Hh{P:bE}{w:bg}{mg mb:ah->Option aJ}{k:Nat}{fa a:aM}{fd:fX}{x:ah}{D:List PV->Option PV}{s₁:aN}{vs:List aJ}{ns:List Int}{l:List (ah×aM×aM)}
  (KX:K.In s₁.heap) (hns:s₁.heap.Ns bJ mg) (hb:s₁.heap.Ns kY mb) (hbb:∀x:ah,x≠"__name__"->mb x=dG x) (hlim:s₁.heap.NoLimit) (hg:s₁.gens = #[])
  (hbm:∃bm ob,mg "__builtins__" = aA (.ref bm)/\bm≠kY/\s₁.heap.get? bm=aA ob/\ob.cls = .type "module"/\ob.dict=aA kY/\ob.data = .plain)
  (hT:∀r∈l,lQ s₁.heap r.2.1 r.2.2/\s₁.heap.get? r.2.2=aA (g7 #[])) (hK:oX K=aD) (hcov:∀(q:ah)(c:aM),RQ q=aD->dY K (.ref c) q=aD->∃Pt,(q,c,Pt)∈l) (hnd:(l.map (·.2.2)).Nodup)
  (ha:s₁.heap.get? a=aA { cls:=.type "list",data:=.seq vs.toArray }) (hi:ig vs ns) (hl:ns.length<=sizeLine) (hr:Room k nE)
  (F:∀base:bw,K.In base->base.Ns bJ mg->SV P w K mg base Lk k fa fd [x] (YY K D 1)) (hbind:∀(s:aN)(u:aJ),mq s fd ⟨[u],[]⟩ [(x,u)])
  (hD:D [.cst (iL ns)]=aA (.bl aD)) :
  gz (model P w) nE (.call (.ref fa) ⟨[.ref a],[]⟩) (λr s'=>r = .ok (.ret (.bool aD))/\OldK s₁.heap s'.heap/\s'.os=s₁.os/\jl s'.gens) s₁:=by
 have rv:=P6 hi;have lenV:=hi.length
 have core:∀H0:Hp,CsK K H0 a (ns.map V.int)->(H0 a=aB\/(K.lookup a=aB/\∃xs,H0 a=aA (.frz { cls:=.type "list",data:=.seq vs.toArray } (.lst xs))/\ObjOk P w H0 s₁.heap a (.frz { cls:=.type "list",data:=.seq vs.toArray } (.lst xs))))->(∀b,b≠a->H0 b=aB)->
   gz (model P w) nE (.call (.ref fa) ⟨[.ref a],[]⟩) (λr s'=>r = .ok (.ret (.bool aD))/\OldK s₁.heap s'.heap/\s'.os=s₁.os/\jl s'.gens) s₁:=by
  intro H0 hS hA hO;have na:∀r∈l,r.2.2≠a:=λr hr z=>by have e:=(hT r hr).2;rw[z,ha] at e;cases e
  generalize hH:LX l H0=H;have tb:∀r∈l,H r.2.2=aA (.tbl #[.str (Qa r.1) 0]):=λr hr=>by rw[<-hH];unfold LX;rw[Mr (x:=r.1) (c:=r.2.1) (Pt:=r.2.2) hnd hr]
  have Ha:H a=H0 a:=by rw[<-hH];exact Hg na
  have free:∀{b:aM}{o:dX},s₁.heap.get? b=aA o->o≠g7 #[]->b≠a->H b=aB:=λ{b o} e no nb=>by
   rw[<-hH];rcases TY l H0 b with⟨r,hr,e2,_⟩ | ⟨_,e2⟩
   ·have e3:=(hT r hr).2;rw[e2,e] at e3;exact absurd (bB e3) no
   ·rw[e2];exact hO b nb
  have base_of:∀{b:aM}{o:dX},s₁.heap.get? b=aA o->H b=aB->(Po s₁.heap H).get? b=aA o:=λe n=>HQ e n;have nsK:∀{b:aM}{m:ah->Option aJ},s₁.heap.Ns b m->(Po s₁.heap H).Ns b m:=λ{b m} ⟨o,es,ep,e,d,r⟩=>⟨o,es,ep,base_of e (free e (λz=>by rw[z] at d;cases d) λz=>by rw[z,ha] at e;cases e;cases d),d,r⟩
  have hKb:K.In (Po s₁.heap H):=λb o e=>base_of (KX b o e) (by
   by_cases z:b=a
   ·subst z;rw[Ha];rcases hA with h | ⟨h,_⟩
    ·exact h
    ·rw[e] at h;cases h
   ·refine free (KX b o e) (λz2=>?_) z;have h2:=bC.mp hK (b,o) (kl e);subst z2;exact absurd (show aC=aD from h2) aw)
  have hM:Mod K mg (Po s₁.heap H):=⟨hKb,nsK hns,⟨mb,nsK hb,hbb⟩,let⟨mc,h1,h2⟩:=hlim;⟨mc,nsK h1,h2⟩⟩
  have hok:HOk P w H s₁.heap:=λb u e=>by
   rw[<-hH] at e;rcases TY l H0 b with⟨r,hr,e2,e3⟩ | ⟨hn,e3⟩
   ·rw[e3] at e;cases e;refine⟨Qa r.1,0,#[],rfl,?_,trivial,λpos v hv=>?_⟩
    ·rw[<-e2];exact(hT r hr).2
    ·simp[jY] at hv
   ·rw[e3] at e;by_cases z:b=a
    ·subst z;rcases hA with h | ⟨_,xs,h,ok⟩
     ·rw[h] at e;cases e
     ·rw[h] at e;cases e;obtain⟨o1,o2⟩:=ok;exact⟨o1,o2⟩
    ·rw[hO b z] at e;cases e
  have tab:TabsH K mg (Po s₁.heap H) H:=λq c h1 h2=>by
   obtain⟨Pt,hm⟩:=hcov q c h1 h2;obtain⟨⟨o,us,file,tf,flags,tg,inF,text,tt,f1,f2,f3,f4,f5,f6,f7,f8,f9,f10⟩,hP⟩:=hT _ hm;obtain⟨bm,ob,b1,b2,b3,b4,b5,b6⟩:=hbm;refine⟨Pt,_,0,⟨o,us,file,tf,flags,tg,inF,text,tt,base_of f1 (free f1 (λz=>by rw[z] at f2;cases f2) λz=>?_),f2,f3,f4,f5,f6,f7,f8,f9,f10⟩,tb _ hm,rfl,bm,ob,b1,b2,λz=>?_,λz=>?_,base_of b3 (free b3 (λz=>by rw[z] at b4;cases b4) λz=>?_),b4,b5,b6⟩
   ·rw[z,ha] at f1;cases f1;injection f2 with f2;exact absurd f2 (by decide)
   ·obtain⟨o',es,ep,e',hd',_⟩:=hns;rw[z,e'] at b3;cases b3;rw[hd'] at b6;cases b6
   ·rw[z,hP] at b3;cases b3;cases b4
   ·rw[z,ha] at b3;cases b3;injection b4 with b4;exact absurd b4 (by decide)
  have e0:Env0 P w K mg (Po s₁.heap H) nE [] s₁ H:=⟨rfl,hM,λb o e=>F6 e,Nat.le_of_eq (JY _ _),trivial,λb hb=>absurd (show b∈([]:List aM) from hb) (by simp),tab,hok,.of_eq hg⟩
  have hS':CsK K H a (ns.map V.int):=by
   rcases hS with⟨o,h⟩ | h
   ·exact .inl ⟨o,by rw[Ha];exact h⟩
   ·exact .inr h
  refine gE ((F _ hKb (nsK hns)).run nE [] s₁ H ⟨[.ref a],[]⟩ [.ref a] [.ref a] (λv _=>v = .bl aD) E0 hr e0 (hbind s₁ (.ref a)) (.cons rfl .nil)
   ⟨rfl,[.cst (iL ns)],[],.bl aD,Iss.one (Is.cst hS' (Iss.ofInts ns)),hD,λv H' fq _ i _ _=>i.bl_inv.1⟩) λr s' h=>?_
  cases r with
  | error e=>exact(show False from h).elim
  | ok fl=>
   cases fl with
   | next=>exact cq h
   | brk=>exact cq h
   | cont=>exact cq h
   | ret u=>
    obtain⟨v,H',os,bare,un,hok',r',q⟩:=h;have q':v = .bl aD:=q;subst q';obtain rfl:u=gW aD:=r'
    have key:∀b o,s₁.heap.get? b=aA o->s'.heap.get? b=aA o\/(isCodeTable s₁.heap b/\o=g7 #[]/\∃ps,s'.heap.get? b=aA (g7 ps)):=λb o e=>by
     cases z:H b with
     | none=>exact .inl (un.keep b o e z (by intro z;exact absurd (show b∈([]:List aM) from z) (by simp)) (by simp))
     | some u=>
      have z':=z;rw[<-hH] at z';rcases TY l H0 b with⟨r,hr,e2,e3⟩ | ⟨hn,e3⟩
      ·rw[e3] at z';cases z';obtain⟨more,z4⟩:=un.tbls b _ z;obtain⟨_,_,ps',_,e4,_⟩:=(show ObjOk P w H' s'.heap b (.tbl _) from hok' b _ z4);have h5:=(hT r hr);rw[e2] at h5;refine .inr ⟨(h5.1.tab h5.2).isCodeTable,?_,ps',e4⟩;rw[e] at h5;exact bB h5.2
      ·rw[e3] at z';by_cases y:b=a
       ·subst y;rcases hA with h | ⟨_,xs,h,_⟩
        ·rw[h] at z';cases z'
        ·rw[h] at z';cases z';have z2:=un.frzs b _ _ z;have e1:=(hok b _ z).1;have e2:=(hok' b _ z2).1;rw[e] at e1;cases e1;exact .inl e2
       ·rw[hO b y] at z';cases z'
    refine⟨rfl,⟨λb o e=>?_,λb o e=>?_⟩,os,bare⟩
    ·rcases key b o e with h | ⟨h1,h2,ps,h3⟩
     ·exact .inl h
     ·subst h2;exact .inr (.inl ⟨h1,rfl,#[],ps,rfl,by rw[Array.empty_append];exact h3⟩)
    ·rcases key b o e with h | ⟨h1,h2,ps,h3⟩
     ·exact⟨_,h⟩
     ·exact⟨_,h3⟩
 cases hk:K.lookup a with
 | some o=>
  have e:=KX a o hk;rw[ha] at e;cases e;exact core (λ_=>aB) (.inr ⟨_,vs.toArray,_,hk,rfl,rfl,rfl,by rw[aV,lenV];exact hl,by simpa using rv⟩) (.inl rfl) λ_ _=>rfl
 | none=>
  refine core (λb=>if b=a then aA (.frz { cls:=.type "list",data:=.seq vs.toArray } (.lst (ns.map V.int))) else aB) (.inl ⟨{ cls:=.type "list",data:=.seq vs.toArray },pC rfl⟩) (.inr ⟨hk,_,pC rfl,ha,?_⟩) λb hb=>pE hb;exact⟨by rw[aH];exact hl,vs,_,rv,ha⟩
open PySem.W PySem.Calls in
theorem law_walkT{l:PySem.W.OpenLaw}{q:bE}{loose:List ah}{XP:(ah->Option aJ)->bw->Prop}{YP:bg->bw->Prop}{d:DefRec}{KK:Params->aI}{x:ah}{D:List PV->Option PV}(k:Nat)(hn:l.most=aA 63)(hdf:d.params.defaults=[])
  (hr:Room k nE) (htab:∀w:bg,Sz (KK w.params) q=aD) (hD:∀ns:List Int,ns.length<=63->(∀n∈ns,n.natAbs.log2<=1048576)->D [.cst (iL ns)]=aA (.bl aD))
  (hY:∀(w:bg)(h:bw),YP w h->(KK w.params).In h)
  (F:∀(w:bg)(mg:ah->Option aJ)(fa:aM)(h:bw),(KK w.params).In h->h.Ns bJ mg->mg d.name=aA (.ref fa)->
   ∃fd:fX,(∀(s:aN)(u:aJ),mq s fd ⟨[u],[]⟩ [(x,u)])/\∀base:bw,(KK w.params).In base->base.Ns bJ mg->SV l.prog w (KK w.params) mg base Lk k fa fd [x] (YY (KK w.params) D 1)) :
  PySem.W.WalkO q loose XP YP l.row.toRowW d [] (λf vs=>PySem.call f vs):=by
 intro w s₀ s₁ mg mb gr yy fa o pm cd doc dv kv ho hd hcd hdd hmg hgen args vals as hpre hlay hrd hwl hlo;obtain rfl:dv = .none:=Dflts.none hdd hdf;obtain rfl:kv = .none:=Dflts.noKw hdd;obtain⟨a,vs,ns,rfl,rfl,hobj,hints,hlen⟩:=Att.script_of hn hpre hwl
 have hw:∀n∈ns,n.natAbs.log2<=1048576:=λn h=>by
  have h1:(WData.list (ns.map nJ)).layable=aD:=bC.mp hlay _ (aQ.mpr rfl);unfold WData.layable at h1;have h2:=of_decide_eq_true (Bool.and_eq_true_iff.mp h1).2;have h3:WData.weightAll (ns.map nJ)<=1048576:=by simpa [WData.weight] using h2
  exact cu (QQ h) h3
 have kx:=hY w _ yy;obtain⟨fd,hb,hF⟩:=F w mg fa _ kx gr.T.g hmg;have g:=htab w;have g':=g;unfold Sz at g';simp only[ak] at g';obtain⟨⟨⟨g1,g2⟩,g3⟩,_⟩:=g';have hT:∀r∈RO (KK w.params),lQ s₁.heap r.2.1 r.2.2/\s₁.heap.get? r.2.2=aA (g7 #[]):=λr hm=>by obtain⟨d',hd'⟩:=cj.mp (bC.mp g3 r hm);exact PySem.W.tab_of gr.T kx hd' (Hf (x:=r.1) (c:=r.2.1) (Pt:=r.2.2) hm).1
 have hbm:=gr.T.bmain;refine enter_call (gE (Hh kx gr.T.g gr.T.b gr.T.builtins gr.T.nolimit hgen (let⟨bm,ob,b1,b2,b3,b4,b5,b6⟩:=hbm;⟨bm,ob,b1,b2,b3,b4,b5,b6⟩) hT g1 (λq c h1 h2=>LW g h1 h2) (of_decide_eq_true g2) hobj hints (cu hlen (by decide)) hr hF hb (hD ns hlen hw)) λr s' hq=>?_);obtain⟨rfl,h2,h3,h4⟩:=hq;exact⟨.inl ⟨.bool aD,.bool aD,[],rfl,λ_=>rfl,.bool aD,Att.post_true l _,λ_=>⟨List.Pairwise.nil,λ_ hm=>(nomatch hm)⟩⟩,h2,h3,h4⟩
end VL
namespace VX
open PySem PySem.Spec PyProof.Rows L2 VL
section
variable {X:Cx} {k:Nat} {e e2:bK} {te te2:TE} {y y2:ah} {p1 p2 p3 p4 p5:fN} {jj j2:Nat}
def AR(te te2:TE):TE:=λZ H Q=>te Z H λv H1=>(∃i:Int,v = .int i/\i.natAbs.log2<1920)/\te2 Z H1 λv2 H2=>D6 H2 v2/\∀z,Q (.str z) H2
theorem Dt(hr:Room k X.A)(he:PE X e te)(he2:PE X e2 te2)(hy:y.length<=1000:=by decide)(hy2:y2.length<=1000:=by decide) :
  PE X (.JoinedStr [.Constant (.str y) jj p1,.FormattedValue e (-1) aB p2,.Constant (.str y2) j2 p4,.FormattedValue e2 (-1) aB p5] p3) (AR te te2):=by
 intro du s Z H Q I h;refine wpAny_JoinedStr ?_;show ao _ _ (eval (.Constant (.str y) jj p1) X.env) _ _ s;refine Yo (HV (X:=X) (x:=y) (j:=jj) (pos:=p1) du s Z H (λv H1=>v = .str y/\H1=H) I ⟨rfl,rfl⟩) λu s1 ⟨v,H1,I1,r,hv,hH⟩=>?_;subst hv hH;obtain⟨t,rfl⟩:=r;have e0:(kM++y).length=y.length:=by rw[fS];show 0+_=_;omega
 have sz:(2000:Nat)+202000<=sizeLine:=by decide
 refine⟨y,t,rfl,by omega,?_⟩;show ao _ _ (eval (.FormattedValue e (-1) aB p2) X.env) _ _ s1;refine jf ?_;refine Yo (he du s1 Z H1 _ I1 h) λu s2 ⟨v,H2,I2,r,⟨i,hv,hi⟩,q⟩=>?_;subst hv;obtain⟨t2,rfl⟩:=r;refine lN hi ?_;have li:=jg (k:=1920) (by decide) hi;generalize hx:(cP (toString i))=x;have lx:x.length<=1940:=by rw[<-hx,iW];omega
 refine⟨x,_,by rw[<-hx],by rw[fS,e0];omega,?_⟩;show ao _ _ (eval (.Constant (.str y2) j2 p4) X.env) _ _ _;refine Yo (HV (X:=X) (x:=y2) (j:=j2) (pos:=p4) du _ Z H2 (λv H3=>v = .str y2/\H3=H2) (I2.tok _) ⟨rfl,rfl⟩) λu s4 ⟨v,H3,I4,r,hv,hH⟩=>?_;subst hv hH;obtain⟨t4,rfl⟩:=r;have e1:(kM++y++x++y2).length<=4000:=by rw[fS,fS,e0];omega
 refine⟨y2,t4,rfl,by omega,?_⟩;show ao _ _ (eval (.FormattedValue e2 (-1) aB p5) X.env) _ _ s4;refine jf ?_;refine Yo (he2 du s4 Z H3 _ I4 q) λu s2 ⟨v,H2,I2,r,sh,q⟩=>?_
 have fin:∀(z:ah)(u:Tok)(s3:aN),z.length<=200000->Inv X du Z H2 s3->∃(b:ah) (t2:Tok),kI z u=kI b t2/\(kM++y++x++y2++b).length<=sizeLine/\(kM++y++x++y2++b).length<=sizeLine/\EP X du Z Q (.str (kM++y++x++y2++b) s3.toks) { s3 with toks:=s3.toks+1 }:=λz u s3 hz I3=>by
  refine⟨z,u,rfl,?_,?_,.str _,H2,I3.tok _,⟨_,rfl⟩,q _⟩
  ·rw[fS];omega
  ·rw[fS];omega
 rcases sh with rfl | ⟨i,rfl,hi⟩ | ⟨a,is,rfl,ha,hl,hs⟩
 ·obtain rfl:u=bj:=r;refine wpAny_formatField_none ?_;have I3:Inv X du Z H2 { s2 with toks:=s2.toks+1+1 }:=I2.kept (t':=s2.toks+1+1) λ_ _ z=>z;exact fin "None" _ _ (by decide) I3
 ·obtain⟨t2,rfl⟩:=r;refine lN hi ?_;have:=jg (k:=1920) (by decide) hi;exact fin (toString i) _ _ (by rw[iW];omega) (I2.tok _)
 ·obtain rfl:u=b7 a:=r;obtain⟨_,pA,rv,ob,ho,hc,n,hd⟩:=(show ObjOk X.prog X.w H2 s2.heap a (.tup (is.map V.int)) from I2.hok a _ ha);have rd:Reads s2.heap (.ref a) (.tuple (is.map fR)) []:=.tuple ho hc hd (Oy (by simpa using rv))
  have sl:(ot (is.map fR)).shown.length<=3+is.length*(1930+2):=by
   show(tupleText (kz (is.map fR))).length<=_;rw[IH];have:=Nh (ts:=is.map λi=>cP (toString i)) (m:=1930) λt ht=>by obtain⟨i,hi,rfl⟩:=aa.mp ht;have:=jg (k:=1920) (by decide) (hs i hi);rw[iW];omega
   rwa [aH] at this
  have s2':is.length*(1930+2)<=193200:=by omega
  have hu:=hr.un;have dp:=II is
  refine formatField_of_reads rd (Nf hs) (λz=>by rw[show(ot (is.map fR)).hasDict=jt (is.map fR) from rfl,LM] at z;cases z) hr.gd (by
   show X.A.units+(nB (.tuple (is.map fR))+2)<fE;simp only[nB];omega) (λ_ _ z=>z) (λh' u tk hk=>?_) (by omega)
  have I3:Inv X du Z H2 { s2 with heap:=h',toks:=tk }:=I2.kept hk;exact fin _ u _ (by omega) I3
end
def LY:PV->Bool
 | .int i=>decide (i.natAbs.log2<1920)
 | _=>aC
def Ms(x:ah)(f g:XE):XR:=λs=>(f s).bind λl=>(g s).bind λm=>if(LY l&&JC m)=aD then aA x else aB
section
variable {X:Cx} {O:List Nat} {E:XK} {B newId initId:String} {bmB:List aJ} {C Cb:aM} {x y y2 nmC:ah} {e e2:bK} {f g:XE} {k:Nat} {p1 p2 p3 p4 p5 np p6 pos:fN} {jj j2:Nat}
theorem Hi(F:ExcBaseFacts B newId initId bmB)(hq:gw X.K C bmB newId=aD)(hg:Gl X x)(hm:X.mg x=aA (.ref C))(hns:cB X.K bJ x=aA (aA (.ref C)))(hcalm:X.calm=aD)(DX:G0 X E)(hr:Room k X.A)(he:VE X e f)(he2:VE X e2 g)
  (hy:y.length<=1000:=by decide) (hy2:y2.length<=1000:=by decide) (hdb:(x==("__debug__" : ah))=aC:=by decide) (hst:aR [.JoinedStr [.Constant (.str y) jj p1,.FormattedValue e (-1) aB p2,.Constant (.str y2) j2 p4,.FormattedValue e2 (-1) aB p5] p3] X.env=(aC,eval (.JoinedStr [.Constant (.str y) jj p1,.FormattedValue e (-1) aB p2,.Constant (.str y2) j2 p4,.FormattedValue e2 (-1) aB p5] p3) X.env)::aR [] X.env:=by rfl) :
  VX X O E (.Raise (aA (.Call (.Name x np) [.JoinedStr [.Constant (.str y) jj p1,.FormattedValue e (-1) aB p2,.Constant (.str y2) j2 p4,.FormattedValue e2 (-1) aB p5] p3] [] p6)) aB pos) (Ms x f g):=
 PS.imp (G1 F hq hg hm hcalm DX (Dt hr he he2 hy hy2) hdb hst) λD Z H ⟨H0,fps,s,cls,r,e,q⟩=>by
  obtain⟨l,hl,e⟩:=Ze e;obtain⟨m,hm',e⟩:=Ze e;split at e
  ·rename_i hs;simp only[ak] at hs;cases e;refine⟨λ_=>False,s,l,λ_ z=>z.elim,r.env,hl,λv H1 fp sm i _=>⟨?_,λ_=>False,s,m,λ_ z=>z.elim,r.env.mono sm,hm',λv2 H2 fp2 sm2 i2 _=>?_⟩⟩
   ·cases l with
    | int j=>exact⟨j,i.int_inv.1,of_decide_eq_true hs.1⟩
    | _=>cases hs.1
   ·obtain⟨sh,rfl⟩:=G6 i2 hs.2;exact⟨sh,λz=>⟨rfl,q C H2 hns (r.same.trans (sm.trans sm2))⟩⟩
  ·cases e
end
section
variable {X:Cx} {O W:List Nat} {C Cb:aM} {x nmC nm:ah} {ps:List ah} {R:List PV->Option ah} {n k i:Nat} {e:bK} {es:List bK} {fs:List XE} {b₀:cO} {suite:List cO} {Zt:List gx} {f:XS} {p np cp ep hp pos:fN}
theorem Fs(Q:QN nmC X.K X.mg C Cb)(CX:CalX X.prog X.w X.K X.mg X.base x ps (spX X.K R n) k)(hR:∀ls m,R ls=aA m->m=nmC)(hr:Room k X.A)(hg:Gl X x)(ha:VA X.nox (e::es) fs)(hx:X.ex=[])(hst:X.stack=X.env::X.outer)(hfr:X.env.frame=aA X.env.locals)
  (hN:X.N.Nodup) (hi:X.N[i]?=aA nm) (hk:X.env.scope.names.lookup nm=aA .local) (hgc:Gl X "PurseError")
  (hs:∀e,Ip (Cx.mark X e) O W (b₀::suite) f) (hiO:i∉O) (hsw:g8 (.Call (.Name x p) (e::es) [] cp) aB ep.line X.env=pure aC:=by rfl) (hn:fs.length=n:=by rfl)
  (hdb:(x==("__debug__" : ah))=aC:=by decide) (he:aR (e::es) X.env=(aC,eval e X.env)::aR es X.env:=by rfl) (hpl:(cw cp (aR es X.env)).any (·.1)=aC:=by rfl) :
  VS X O (i::W) (.Try [.Expr (.Call (.Name x p) (e::es) [] cp) ep] (.ExceptHandler (aA (.Name "PurseError" np)) (aA nm) (b₀::suite) hp::Zt) [] [] pos) (IM R fs i f):=
 Bp CX hr hg ha hx hst hfr hN hi hk hgc Q.mgb Q.kb (λls m h=>by rw[hR ls m h];exact⟨C,Q.no,Q.ec.kt,Q.bl⟩) hs hiO hsw hn hdb (by decide) he hpl
end
end VX
namespace VL
open PySem PySem.Spec PyProof.Rows L2
theorem Hj(a d:aJ):oR "min" ⟨[a],[(cP "default",d)]⟩:=by unfold oR;kernel_rfl
theorem JH:(toString "min"++toString ".loop" : String) = "min.loop":=by decide
section
variable {prog:bE} {w:bg} {A:bc} {R:om->aN->Prop} {I:aM} {fp wr:List aM} {n:Nat} {P:Nat->aJ->Prop} {St:Nat->bw->Prop} {kw:List (ah×aJ)}
theorem Hk(T:Walks prog w A.in1 I fp wr n P St)(bt:Nat->Nat->Bool)(cm:CmpOf prog w A.in1 .Lt P bt)(S:aM)(nS:S∉fp) :
  ∀(k j:Nat)(s:aN)(vb:aJ)(c:Nat),n-(j+1)=k->j+1<=n->St (j+1) s.heap->P (iQ bt j) vb->s.heap.get? S=aA { cls:=.type "list",dict:=aB,data:=.seq #[vb,vb] c,slots:=#[] }->
   (∀v g tk,P (iQ bt (n-1)) v->(∀b o,b∉wr->b≠S->s.heap.get? b=aA o->g.get? b=aA o)->R (.ok (.ret v)) { s with heap:=g,toks:=tk })->gz (model prog w) A (.builtin "min.loop" ⟨[.ref I,.none,.ref S],kw⟩) R s:=by
 have nw:S∉wr:=λz=>nS (T.sub _ z);intro k
 induction k with
 | zero=>
  intro j s vb c e1 e2 st pb oS done;have en:j+1=n:=by omega
  refine fC F.entry_min_loop ?_;rw[eB F.plain_min_loop _];change ao _ A.in1 (mF (.ref S) >>= _) _ _ s;refine aF (iO oS rfl ?_);change ao _ A.in1 (tryCatch (iB (.ref I)) _ >>= _) _ _ s;refine aF (iT (T.done s _ _ (en▸st) λg tk kp=>?_));have oS2:=kp S _ nw oS;change ao _ A.in1 (updateSeq S (λ_=>#[]) >>= _) _ _ _;refine aF ?_;refine lE oS2 rfl (aF (lh (aP ?_)));exact done vb _ tk (by rw[<-en];exact pb) λb o h1 h2 q=>(bY _ _ (cY h2)).trans (kp b o h1 q)
 | succ k ih=>
  intro j s vb c e1 e2 st pb oS done;have lt:j+1<n:=by omega
  refine fC F.entry_min_loop ?_;rw[eB F.plain_min_loop _];change ao _ A.in1 (mF (.ref S) >>= _) _ _ s;refine aF (iO oS rfl ?_);change ao _ A.in1 (tryCatch (iB (.ref I)) _ >>= _) _ _ s;refine aF (iT (T.item (j+1) s _ _ lt st λv g tk pv st2 kp=>?_));have oS2:=kp S _ nw oS;change ao _ A.in1 (tryCatch (holding [v,v] (richCompare .Lt v vb >>= _)) _ >>= _) _ _ _;refine aF (iT (dR (aF (cm (j+1) (iQ bt j) v vb _ _ _ pv pb ?_))));refine aF (dR (cV ?_));refine aF (lh (aP ?_))
  cases z:bt (j+1) (iQ bt j) with
  | true=>
   simp only[if_true];refine aF ?_;refine lE oS2 rfl (aF (lh ?_));rw[JH];refine aP ⟨gv F.plain_min_loop _,ih (j+1) _ v _ (by omega) lt (T.frame _ _ _ st2 λb hb o q=>?_) (by simp only[iQ,z,if_true];exact pv) (cC _ oS2 rfl) λv2 g2 tk2 p2 k2=>?_⟩
   ·exact(bY _ _ (λy:S=b=>nS (by rw[y];exact hb))).trans q
   ·exact done v2 g2 tk2 p2 λb o h1 h2 q=>k2 b o h1 h2 ((bY _ _ (cY h2)).trans (kp b o h1 q))
  | false=>
   simp only[b9,if_false];refine aF (lh ?_);rw[JH];exact aP ⟨gv F.plain_min_loop _,ih (j+1) _ vb c (by omega) lt st2 (by simp only[iQ,z,b9,if_false];exact pb) oS2 λv2 g2 tk2 p2 k2=>done v2 g2 tk2 p2 λb o h1 h2 q=>k2 b o h1 h2 (kp b o h1 q)⟩
theorem LZ(T:Walks prog w A.in1 I fp wr n P St)(bt:Nat->Nat->Bool)(cm:CmpOf prog w A.in1 .Lt P bt)(S:aM)(nS:S∉fp){d:aJ}{s:aN}{c:Nat}(st:St 0 s.heap)
  (oS:s.heap.get? S=aA { cls:=.type "list",dict:=aB,data:=.seq #[] c,slots:=#[] })
  (done:∀v g tk,(n=0/\v=d)\/(0<n/\P (iQ bt (n-1)) v)->(∀b o,b∉wr->b≠S->s.heap.get? b=aA o->g.get? b=aA o)->R (.ok (.ret v)) { s with heap:=g,toks:=tk }) :
  gz (model prog w) A (.builtin "min.loop" ⟨[.ref I,.none,.ref S],[(cP "default",d)]⟩) R s:=by
 have nw:S∉wr:=λz=>nS (T.sub _ z);refine fC F.entry_min_loop ?_;rw[eB F.plain_min_loop _];change ao _ A.in1 (mF (.ref S) >>= _) _ _ s;refine aF (iO oS rfl ?_);change ao _ A.in1 (tryCatch (iB (.ref I)) _ >>= _) _ _ s;by_cases hn:n=0
 ·refine aF (iT (T.done s _ _ (hn▸st) λg tk kp=>?_));refine aF (oI ?_);exact aP (done d g tk (.inl ⟨hn,rfl⟩) λb o h1 _ q=>kp b o h1 q)
 ·have hn:0<n:=Nat.pos_of_ne_zero hn;refine aF (iT (T.item 0 s _ _ hn st λv g tk pv st2 kp=>?_));have oS2:=kp S _ nw oS;change ao _ A.in1 (updateSeq S (λ_=>#[v,v]) >>= _) _ _ _;refine aF ?_;refine lE oS2 rfl ?_;rw[JH];refine aP ⟨gv F.plain_min_loop _,Hk T bt cm S nS _ 0 _ v _ rfl hn (T.frame _ _ _ st2 λb hb o q=>?_) pv (cC _ oS2 rfl) λv2 g2 tk2 p2 k2=>?_⟩
  ·exact(bY _ _ (λy:S=b=>nS (by rw[y];exact hb))).trans q
  ·exact done v2 g2 tk2 (.inr ⟨hn,p2⟩) λb o h1 h2 q=>k2 b o h1 h2 ((bY _ _ (cY h2)).trans (kp b o h1 q))
end
section
variable {prog:bE} {w:bg} {A:bc} {E:aJ->aN->Prop} {s:aN}
theorem Hl{x d:aJ}{Q:aJ->aN->Prop}
  (h:ao (model prog w) A.in1 (kZ x) (λit s₂=>∃I fp wr n P St bt,it = .ref I/\Walks prog w A.in1 I fp wr n P St/\St 0 s₂.heap/\(∀b∈fp,b<s₂.heap.objs.size)/\CmpOf prog w A.in1 .Lt P bt/\
   ∀v g tk,(n=0/\v=d)\/(0<n/\P (iQ bt (n-1)) v)->(∀b o,b∉wr->s₂.heap.get? b=aA o->g.get? b=aA o)->Q v { s₂ with heap:=g,toks:=tk }) E s) :
  ao (model prog w) A (call (.builtin "min") [x] [(cP "default",d)]) Q E s:=by
 refine kmk_tree PySem.F.kind_min PySem.F.plain_min PySem.F.entry_min (Hj _ _) ?_;change ao _ A.in1 (jV "min" ["key","default"] 0 ⟨[],[(cP "default",d)]⟩ >>= _) _ _ s;refine aF (jm (show jV "min" ["key","default"] 0 ⟨[],[(cP "default",d)]⟩=pure [aB,aA d] from rfl) ?_);refine aF (aP ?_);refine aF (cH h (λit s₂ h₂=>?_) λ_ _ e=>e);obtain⟨I,fp,wr,n,P,St,bt,rfl,T,st,hfp,cm,hQ⟩:=h₂;refine aF (bh ?_);have nS:s₂.heap.objs.size∉fp:=λhm=>cU _ (hfp _ hm);rw[JH];refine aP ⟨gv F.plain_min_loop _,LZ T bt cm s₂.heap.objs.size nS (T.frame _ _ _ st λb _ o e=>aO _ e) (aj _ rfl) λv g tk hP hk=>?_⟩;exact hQ v g tk hP λb o hbw e=>hk b o hbw (bH (aW e)) (aO _ e)
end
def JI:PV->Option PV
 | .tup l=>(YD l).bind λns=>if ns=[] then aA (.int 0) else aA (.int (Rf ns))
 | _=>aB
section
variable {X:Cx} {e:bK} {f:XE} {np kp cp pos:fN} {j:Nat}
theorem Du(hc:X.calm=aD)(hg:Gl X "min")(hm:X.mg "min" = aB)(hv:dG "min" = aA (.builtin "min"))(ha:VE X e f)
  (hs:aR [e] X.env=(aC,eval e X.env)::aR [] X.env:=by rfl) (he:cw pos (aR [e] X.env)=(aC,eval e X.env)::cw pos (aR [] X.env):=by rfl) (hpl:(cw pos (aR [e] X.env)).any (·.1)=aC:=by rfl) :
  VE X (.Call (.Name "min" np) [e] [⟨aA "default",.Constant (.int 0) j cp,kp⟩] pos) (RI JI f):=by
 intro du s Z H Q I ⟨Rm,st,l,hd,env,ev,q⟩;unfold RI at ev;obtain⟨m,e1,e2⟩:=Ze ev;refine cZ (XX I hg hm hv ?_);refine callWith_kw (Yo ((Zb ha Zh hs) pos du s Z H (λvs H1=>∃v fp,vs=[v]/\Same H H1/\Is X.K H1 m v fp) I ⟨Rm,st,[m],hd,env,by simp only[T9,e1,aE,bF],λvs H1 fp sm i _=>?_⟩) λus s1 ⟨vs,H1,I1,rv,v,fp,ev,sm,i⟩=>?_) he hpl
 ·obtain⟨v,r,f1,f2,e3,i1,i2,_⟩:=i.inv;simp only[Iss] at i2;exact⟨v,f1,by rw[e3,i2.1],sm,i1⟩
 ·subst ev;obtain⟨u,rfl,ru⟩:=Uv rv;refine kws_cons (Yo (HS (X:=X) (i:=0) (j:=j) (pos:=cp) du s1 Z H1 (λv2 H2=>v2 = .int 0/\H2=H1) I1 ⟨rfl,rfl⟩) λdu s2 ⟨v2,H2,I2,r2,e4,e5⟩=>?_);subst e4 e5;obtain⟨t0,rfl⟩:=r2;refine kws_nil ?_
  cases m with
  | tup ms=>
   obtain⟨ns,e6,e7⟩:=Ze (show(YD ms).bind _=_ from e2);have em:=YR e6;subst em;obtain⟨p,xs,rfl,hp,his⟩:=i.tup_inv;cases ru;obtain⟨rfl,rfl⟩:=his.iL;obtain⟨pA,rv2,hseq,hz⟩:=I2.seqB (b:=aC) (a:=p) (xs:=ns.map V.int) (SqT.of hp);have hp2:p<s2.heap.objs.size:=let⟨_,e⟩:=hseq.has;aW e;have hl:=rv2.length;rw[aH] at hl
   have hval:∀(i:Nat)(v:aJ),pA.toArray[i]?=aA v->∃t,v=dN (ns.getD i 0) t:=λ(i:Nat) (v:aJ) hv=>by
    have hv:pA[i]?=aA v:=by simpa using hv
    have hi:i<ns.length:=by rw[hl];exact(aX.mp hv).1
    obtain⟨u,hu,ru⟩:=rv2.get (i:=i) (x:=.int ns[i]) (by rw[aU,aG hi];rfl);rw[hv] at hu;cases hu;obtain⟨t,rfl⟩:=ru;refine⟨t,?_⟩;show dN ns[i] t=dN (ns.getD i 0) t;rw[aL,aG hi];rfl
   refine Hl (XG hseq ?_);refine⟨_,_,_,_,_,_,λi j=>decide (ns.getD i 0<ns.getD j 0),rfl,Walks.seqB (A:=X.A.in1) aC (I2.ok.hd hc) s2.heap.objs.size p (bH hp2) pA.toArray,⟨IterB.new (aj _ rfl),hseq.at λo e=>aO _ e⟩,λc hcm=>?_,CmpOf.ints_lt (λi=>ns.getD i 0) hval,λv h' tk hv hk=>?_⟩
   ·show c<(s2.heap.push _).objs.size;rw[eV];rcases a9.mp hcm with rfl | hcm
    ·exact gg _
    ·rw[aQ.mp hcm];exact gQ hp2
   ·have fin:∀z t,v=dN z t->l = .int z->EP X du Z Q v { s2 with heap:=h',toks:=tk }:=λz t ez el=>by subst ez el;refine⟨.int z,H2,I2.kept (λc o hco=>hk c o ?_ (aO _ hco)),⟨t,rfl⟩,q _ H2 [] sm (Is.int _) λp hp=>by simp at hp⟩;intro hm;rw[aQ.mp hm] at hco;exact absurd (aW hco) (cU _)
    rcases hv with⟨h0,rfl⟩ | ⟨h0,hv⟩
    ·have en:ns=[]:=fg.mp (by rw[hl];simpa using h0);rw[pC en] at e7;exact fin 0 t0 rfl (bB e7).symm
    ·have hne:ns≠[]:=λz=>by rw[aV,<-hl,z] at h0;simp at h0
     rw[pE hne] at e7;obtain⟨t,rfl⟩:=hval _ _ hv;obtain⟨g1,g2⟩:=QL (λi=>ns.getD i 0) (pA.toArray.size-1);have hpos:0<ns.length:=List.length_pos_iff.mpr hne;rw[aV,<-hl] at g1 g2
     have e:Rf ns=ns.getD (iQ (λi j=>decide (ns.getD i 0<ns.getD j 0)) (pA.toArray.size-1)) 0:=by
      rw[aV,<-hl];refine E3 ?_ λx hx=>?_
      ·rw[aL,aG (by omega)];exact cA _
      ·obtain⟨j,hj,ej⟩:=eM hx;have:=g2 j (by omega);rw[aL (i:=j),aG hj,ej] at this;exact this
     exact fin _ t rfl (by rw[<-e];exact(bB e7).symm)
  | _=>cases e2
end
end VL
namespace VX
open PySem PySem.Spec PyProof.Rows L2 VL
def SA(n0:ah)(fx:XR):Prop:=∀s m,fx s=aA m->m=n0
section
variable {n0:ah}
theorem Mu:SA n0 Bl:=λ_ _ e=>nomatch e
theorem Ft{fc:XT}{f g:XR}(hf:SA n0 f)(hg:SA n0 g):SA n0 (AI fc f g):=λs m e=>by
 obtain⟨c,_,e⟩:=Ze e;split at e
 ·exact hf s m e
 ·exact hg s m e
theorem Hm{f1:XR}{f:XS}{g:XR}(hf:SA n0 f1)(hg:SA n0 g):SA n0 (Md f1 f g):=λs m e=>by
 unfold Md at e;split at e
 ·rename_i c hc;cases e;exact hf s _ hc
 ·split at e
  ·exact hg _ m e
  ·cases e
theorem Fu{m:Nat}{fx:XR}(h:SA n0 fx):∀ls n,AL m fx ls=aA n->n=n0:=λls n e=>h _ n e
end
end VX
namespace VL
open PySem L2
def AS:cO->Option (mC×bK×gk)
 | .Return (aA (.Call _ [_,_,.Lambda a b sc _] _ _)) _=>aA (a,b,sc)
 | .Assign _ (.Call _ [_,_,.Lambda a b sc _] _ _) _=>aA (a,b,sc)
 | _=>aB
def JJ(st:cO)(i:Nat)(q free:ah):Lam:=match (YV st)[i]? with
 | some s=>(match AS s with
  | some (a,b,sc)=>⟨Qa q,a,b,sc,free⟩
  | none=>⟨Qa q,XY st,.Name free ⟨0,0,0,0⟩,Zm st,free⟩)
 | none=>⟨Qa q,XY st,.Name free ⟨0,0,0,0⟩,Zm st,free⟩
end VL
namespace VX
open PySem L2 VL
theorem L4{n0 n:ah}{f g:XE}(h:n=n0):SA n0 (Ms n f g):=λs m e=>by
 obtain⟨l,_,e⟩:=Ze e;obtain⟨k,_,e⟩:=Ze e;split at e
 ·cases e;exact h
 ·cases e
end VX
namespace PW
open PySem L2 VL VX
def Td(i:Nat):cO:=jW.main.body.getD i (.Pass ⟨0,0,0,0⟩)
def Yu:Lam:=JJ (Td 25) 1 "tree_of" "purse"
def Te:XE:=(Zf S4 (Zf Zn (Za 3) (Za 1)) (Za 2))
def Yf:Lam:=JJ (Td 30) 1 "still_by" "tree"
def Ua:XE:=(Zf (YC aC) (Za 0) (Za 3))
open Classical in
def VN(L:Lam)(l:PV)(ls:List PV):Option PV:=if L=Yu then Te (ls.map aA++[aA l]) else if L=Yf then Ua (ls.map aA++[aA l]) else aB
def Tf:XS:=(Zk (Zl 4 (ZN [eP (Za 3)]))
  (Zk (Z3 [4] (ZG [Za 2]) (.one 5) (Wb (xB (Zf (YN aD) (Za 5) (Za 3))) (WQ 4 (Zf ZO (eC (.int 1)) (Zf Z9 (Zd Zr [Za 0,Zf ZO (Za 1) (Za 5)]) (Zd Zx [Za 4]))) (Za 5)) ZI))
  (Ya (Za 4))))
def Wg:List PV->Option PV:=Xi 6 Tf
def Tg:XS:=(Zk (Zl 3 (Zd Wg [Za 0,eC (.int 30),Zd Zx [Za 1],Za 2]))
  (Zk (Zl 4 (Zf W9 (ZN [eC (.int 0)]) (Zd Zx [Za 1])))
  (Zk (Z3 [4] (Yi [eC (.int 1),Zd Zx [Za 3]]) (.one 5) (Zk (Zl 6 (eP (Zf Zn (Za 3) (Za 5))))
  (Zk (Zl 7 (Zd Zr [Za 0,Zf ZO (eC (.int 38)) (Za 6)]))
  (Zk (Zl 8 (eP (Zd V3 [ZA 1 [1,6] (YW (Up O0 (Za 3) UB (VR (Za 5)))) (.one 0) ZZ (Zf Zn (Zf Zn (Za 1) (Za 2)) (Za 0))])))
  (Zk (Xu 4 (Za 6) (Zf Z9 (Zf XJ (Za 7) (eC (.int 4))) (Zd Tw [eC (.int 1),Za 8])))
  (Wb (xB (Zf (YN aC) (Zf Z9 (Za 7) (eC (.int 4))) (eC (.int 1)))) (Zk (Zl 9 (eP (Zd V3 [Zf Zn (Za 1) (Za 6)])))
  (Xu 4 (Za 6) (Zf Zn (ZN [Zf Xo (Za 9) (eC (.int 1)),Za 9,Zf Z9 (Zf XJ (Za 7) (eC (.int 16))) (eC (.int 4)),RI NY (eC (.int 1))]) (Zf Z9 (Zf XJ (Za 7) (eC (.int 4))) (eC (.int 4)))))) ZI))))))
  (Zk (Zl 7 (Zd Zr [Za 0,eC (.int 46)]))
  (Zk (Xu 4 (Za 2) (Zf Xo (Zf Z9 (Zf XJ (Za 7) (eC (.int 2))) (eC (.int 41))) (eC (.int 20))))
  (Zk (Wb (xB (Zf (YN aC) (Zf Z9 (Za 7) (eC (.int 2))) (eC (.int 1)))) (Xu 4 (Za 2) (Zf Xo (Zf Z9 (Zf XJ (Za 7) (eC (.int 2))) (Zf ZO (Zf Jy (eC (.int 2)) (Zf Lp (eC (.int 10)) (eC (.int 29)))) (eC (.int 1)))) (Zf Lp (eC (.int 10)) (eC (.int 29))))) ZI)
  (Ya (eP (Zd Y7 [Za 4])))))))))
def W0:List PV->Option PV:=Xi 10 Tg
def Xr:XS:=(Zk (Z3 [] (WC aD [Za 0]) (.many [3,4]) (Wb (Wr (xB (Zf (YC aD) (Za 3) (Za 1))) (xB (Zf (YN aD) (Zf (YC aC) (Zf Zn (Za 4) (eC (.int 0))) (Za 2)) (Zf (YC aC) (Zf Zn (Za 4) (eC (.int 1))) (Za 2))))) (Ya (eP (Za 3))) ZI))
  (Ya (eP (eC .non))))
def Z1:List PV->Option PV:=Xi 5 Xr
def SD:XS:=(Zk (Zl 3 (Zd Y3 [Za 0]))
  (Zk (Zl 4 (ZN [eP (Za 1)]))
  (Zk (Zl 5 (ZN []))
  (Zk (Zl 6 (ZN []))
  (Zk (Zl 7 (Zd Z1 [Za 3,Za 5,Za 4]))
  (Zk (Vu (xB (Tq aD (Za 7))) (Zk (Zy 5 (eP (Za 7)))
  (Zk (Zl 8 (eP (HM (xB (Zf (YC aC) (Zf Zn (Zf Zn (Za 3) (Za 7)) (eC (.int 0))) (Za 4))) (Zf Zn (Zf Zn (Za 3) (Za 7)) (eC (.int 1))) (Zf Zn (Zf Zn (Za 3) (Za 7)) (eC (.int 0))))))
  (Zk (Zl 9 (eP (Zd Zx [ZA 1 [8,3] (YW (Za 5)) (.one 0) (xB (Zf (YC aC) (Za 1) (Up Xq (Zf Zn (Za 2) (Za 0)) UB (VR (eC (.int 2)))))) (Za 0)])))
  (Zk (Wb (xV (Mp VN 2 [Za 7,Za 8,Za 9])) (Zk (Zy 4 (eP (Za 8)))
  (Zy 6 (eP (Yg [Za 7,Za 8,Za 9])))) ZI)
  (Zl 7 (Zd Z1 [Za 3,Za 5,Za 4])))))))
  (Ya (Za 6))))))))
def Yz:List PV->Option PV:=Xi 10 SD
def Th:XS:=(Ya (eP (Zd Y7 [Zd X5 [ZA 1 [] (YW (Zd Yz [Za 0,Za 1,Za 2])) (.one 0) ZZ (Zf Zn (Za 0) (eC (.int 0)))]])))
def W3:List PV->Option PV:=Xi 3 Th
def WT:XS:=(Ya (eP (Qo (Zf (YN aC) (Zd Zx [Zd Wf [Za 1,Za 2]]) (eC (.int 0))) (Zf (YN aC) (Zd Zx [Zd WR [Za 0,Za 1,Za 2]]) (Zd Zx [Za 0])))))
def ZE:List PV->Option PV:=Xi 3 WT
def Xs:List PV->Option ah:=AL 3 (Md (AI (WK (xB (Zd ZE [Za 0,Za 2,Za 1]))) (Ms "NotSettled" (Za 1) (Za 2)) Bl) (Wb (WK (xB (Zd ZE [Za 0,Za 2,Za 1]))) UN ZI)
  Bl)
theorem Nl:∀ls m,Xs ls=aA m->m = "NotSettled":=Fu (Hm (Ft (L4 rfl) Mu) Mu)
def Ti:XS:=(Zk (Wb (WK (xB (Zd ZE [Za 0,Za 2,Za 1]))) UN ZI)
  (Ya (UR W3 (Za 0) (Za 1) Yu 2)))
def ZU:List PV->Option PV:=Xi 3 Ti
def Ub:XS:=(Zk (Zl 3 (Zf W9 (ZN [eC (.int 0)]) (Zd Zx [Za 0])))
  (Zk (Zl 4 (UR Yz (Za 0) (Za 1) Yf 2))
  (Zk (Z3 [3] (YW (Za 4)) (.many [5,6,7]) (Xu 3 (Za 6) (Zf Xo (Za 7) (eC (.int 1)))))
  (Ya (eP (Zd Y7 [Za 3]))))))
def Wh:List PV->Option PV:=Xi 8 Ub
def Uc:XS:=(Zk (Wb (WK (xB (Zd WZ [Za 0,Za 2]))) UN ZI)
  (Ya (Zd Wh [Za 0,Za 1,Za 2])))
def Wi:List PV->Option PV:=Xi 3 Uc
def Ud:XS:=(Zk (Zl 3 (Zd Zr [Za 0,Za 1]))
  (Zk (Wb (Wr (xB (Zf (YN aC) (Zf Z9 (Za 3) (eC (.int 2))) (eC (.int 1)))) (xB (Tq aD (Zd YI [Zf W6 (Za 3) (eC (.int 2)),Za 2,eC (.int 30),eC (.int 9)])))) (Ya (Zd YI [Zf W6 (Za 3) (eC (.int 2)),Za 2,eC (.int 30),eC (.int 9)])) ZI)
  (Zk (Zl 4 (eC (.dT [] [])))
  (Zk (Zl 5 (eP (eC (.int 30))))
  (Zk (Z3 [4] (Yi [eC (.int 1),Za 2]) (.one 6) (Zk (Zl 7 (Zd Zr [Za 0,Zf ZO (Za 1) (Za 6)]))
  (Zk (Zl 8 (eP (Zd Uj [Zf Zn (ZN [eC (.int 1),eC (.int 1),eC (.int 1),eC (.int 2),eC (.int 3),eC (.int 9)]) (Zf Z9 (Zf W6 (Za 7) (Za 6)) (eC (.int 6))),Zf Xo (Za 5) (Zf Xo (Zf Xo (Za 2) (eC (.int 1))) (Za 6))])))
  (Zk (sDPut 4 (Yg [Zf Z9 (Za 7) (Za 6),Za 6]) (Za 8))
  (Zl 5 (eP (Zf Xo (Za 5) (Za 8))))))))
  (Zk (Zl 9 (eP (Zf ZO (Za 1) (eC (.int 7)))))
  (Zk (Z3 [4] (ZG [Za 2]) (.one 10) (Z3 [4] (Yi [Zf ZO (Za 10) (eC (.int 1)),Za 2]) (.one 11) (Zk (Zl 8 (eP (Zf Zn (ZN [eC (.int 0),eC (.int 1),eC (.int 0),eC (.int 1),eC (.int 2),eC (.int 0),eC (.int 0)]) (Zf Z9 (Zd Zr [Za 0,Za 9]) (eC (.int 7))))))
  (Zk (Zl 9 (eP (Zf ZO (Za 9) (eC (.int 1)))))
  (Wb (Wr (xB (LB aD (Yg [Za 10,Za 11]) (Za 4))) (xB (HN S4 EK (eC (.int 0)) (Za 8) (Za 5)))) (Zk (sDPut 4 (Yg [Za 10,Za 11]) (Za 8))
  (Zl 5 (eP (Zf Xo (Za 5) (Za 8))))) ZI)))))
  (Ya (Zd Vo [Za 4,Zf W6 (Zd Zr [Za 0,Za 1]) (eC (.int 7)),Za 2])))))))))
def Xj:List PV->Option PV:=Xi 12 Ud
def WU:XS:=(Zk (Zl 3 (ZN [eP (Za 2)]))
  (Zk (Z3 [3] (ZG [Zd Zx [Za 0]]) (.one 4) (Z3 [3] (ZG [Zd Zx [Za 0]]) (.one 5) (Zk (Zl 6 (eP (Zd V3 [ZA 1 [0,5] (YW (Za 3)) (.one 0) ZZ (Zf Zn (Zf Zn (Za 1) (Za 2)) (Za 0))])))
  (Wb (Wr (xB (Zf (YC aD) (Za 5) (Za 3))) (xB (Zf S4 (Zf Zn (Za 1) (Za 5)) (Za 6)))) (Zy 3 (eP (Za 5))) ZI))))
  (Ya (eP (Zf (YN aC) (Zd Zx [Za 3]) (Zd Zx [Za 0]))))))
def X6:List PV->Option PV:=Xi 7 WU
def Vr:XS:=(Zk (Zl 3 (eP (Zf WD (Up Xq (Za 1) UB (VR (Za 2))) (Up Xq (Za 1) (VR (Zf ZO (Za 2) (eC (.int 1)))) UB))))
  (Zk (Wb (xB (Zf S4 (RI JI (Za 3)) (eC (.int 0)))) (Ya (eP (eC (.bl aC)))) ZI)
  (Ya (Zd X6 [Za 0,Za 1,Za 2]))))
def Xk:List PV->Option PV:=Xi 4 Vr
def SE:XS:=(Zk (Zl 1 (ZN [eP (Xx (RM "NotSettled" "NoWeb") (Za 0)),eP (Xx (RM "NotSettled" "Apart") (Za 0)),eP (Xx (RM "NotSettled" "NoText") (Za 0)),eP (Xx (RM "NotSettled" "NoOrder") (Za 0))]))
  (Zk (Zl 1 (Zf Vm (Za 1) (ZN [Xx (RM "NotSettled" "TooMany") (Za 0),Xx (RM "NotSettled" "NotSettled") (Za 0),Xx (RM "NotSettled" "NoTree") (Za 0)])))
  (Zk (Zl 1 (Zf Vm (Za 1) (ZN [Xx (RM "NotSettled" "NoTotal") (Za 0),Xx (RM "NotSettled" "NoEnds") (Za 0),Xx (RM "NotSettled" "NoRow") (Za 0),Xx (RM "NotSettled" "NoName") (Za 0)])))
  (Zk (Wb (Gs (WK (xB (Xx (BQ "NotSettled") (Za 0)))) (xB (Zf (YN aD) (Zf Sw (Za 1) (eC (.bl aD))) (eC (.int 1))))) (Ya (eP (RI NY (eC (.int 1))))) ZI)
  (Ya (eP (Zf R7 (Za 1) (eC (.bl aD)))))))))
def VP:List PV->Option PV:=Xi 2 SE
def Vs:XS:=(Zk (Zl 3 (eP (eC .non)))
  (Zk (AN (IM Xs [Za 0,Za 1,Za 2] 4 (Zl 3 (eP (Za 4)))) (sEx (Zd ZU [Za 0,Za 1,Za 2])))
  (Ya (eP (Qo (Tq aD (Za 3)) (Zf (YN aC) (Zd VP [Za 3]) (eC (.int 5))))))))
def Xl:List PV->Option PV:=Xi 5 Vs
def SF:XS:=(Zk (Z3 [] (ZG [Zd Zx [Za 0]]) (.one 3) (Wb (Wr (xB (Zf (YC aD) (Za 3) (Za 1))) (xB (Zf (YN aD) (Zf (YC aC) (Zf Zn (Zf Zn (Za 0) (Za 3)) (eC (.int 0))) (Za 2)) (Zf (YC aC) (Zf Zn (Zf Zn (Za 0) (Za 3)) (eC (.int 1))) (Za 2))))) (Ya (eP (Za 3))) ZI))
  (Ya (eP (eC .non))))
def X7:List PV->Option PV:=Xi 4 SF
def X8:XS:=(Zk (Zl 3 (ZN []))
  (Zk (Z3 [6,7,8] (ZG [Zd Zx [Za 0]]) (.one 4) (Z3 [6,7,8] (Yi [Zf ZO (Za 4) (eC (.int 1)),Zd Zx [Za 0]]) (.one 5) (Zl 3 (Zf Vm (Za 3) (Zf W9 (ZN [Yg [Za 4,Za 5]]) (Zf Zn (Zf Zn (Za 0) (Za 4)) (Za 5)))))))
  (Zk (Zl 6 (ZN [eP (Za 1)]))
  (Zk (Zl 7 (ZN []))
  (Zk (Zl 8 (ZN []))
  (Zk (Zl 9 (Zd X7 [Za 3,Za 7,Za 6]))
  (Zk (Vu (xB (Tq aD (Za 9))) (Zk (Zy 7 (eP (Za 9)))
  (Zk (Zl 10 (eP (Zf Zn (ZN [Zf Zn (Zf Zn (Za 3) (Za 9)) (eC (.int 0)),Zf Zn (Zf Zn (Za 3) (Za 9)) (eC (.int 1))]) (Zd UA [Zf (YC aC) (Zf Zn (Zf Zn (Za 3) (Za 9)) (eC (.int 0))) (Za 6)]))))
  (Zk (Zl 11 (eP (Zd Zx [ZA 1 [10,3] (YW (Za 7)) (.one 0) (xB (Zf (YC aC) (Za 1) (Zf Zn (Za 2) (Za 0)))) (Za 0)])))
  (Zk (Wb (xB (Zf S4 (Zf Zn (Za 2) (Za 10)) (Za 11))) (Zk (Zy 6 (eP (Za 10)))
  (Zy 8 (eP (Za 9)))) ZI)
  (Zl 9 (Zd X7 [Za 3,Za 7,Za 6])))))))
  (Ya (eP (Zd Y7 [Zd X5 [Za 8]]))))))))))
def Yr:List PV->Option PV:=Xi 12 X8
def JK:XS:=(Zk (Zl 1 (eP (Zf ZO (eC (.int 1)) (Zf Z9 (Zd Zr [Za 0,eC (.int 0)]) (eC (.int 7))))))
  (Zk (Zl 2 (Zd XC [Zd Xj [Za 0,eC (.int 1),Za 1],Za 1]))
  (Zk (Zl 3 (eP (Zf Z9 (Zd Zr [Za 0,eC (.int 29)]) (Za 1))))
  (Zk (Zl 4 (Zd W0 [Za 0,Za 2,Za 3]))
  (Zk (Wb (WK (xB (Zd Xk [Za 2,Za 4,Za 3]))) (Ya (Zd Xl [Za 2,Za 3,Za 4])) ZI)
  (Zk (Zl 5 (Zd ZU [Za 2,Za 3,Za 4]))
  (Zk (Wb (Gs (WK (xB (Zd Y4 [Za 5,Zf Xo (Za 1) (eC (.int 1))]))) (xB (Zf (YN aD) (Za 5) (Zd Yr [Za 2,Za 3,Za 4])))) (Ya (eP (eC (.bl aC)))) ZI)
  (Zk (Zl 6 (eP (Zf WD (Zf WD (Up Xq (Za 4) UB (VR (Za 3))) (Yg [eC (.int 0)])) (Up Xq (Za 4) (VR (Zf ZO (Za 3) (eC (.int 1)))) UB))))
  (Zk (Zl 7 (Zd Wi [Za 2,Za 3,Za 5]))
  (Zk (Wb (Gs (WK (xB (Zd Y4 [Za 7,Za 1]))) (xB (Zf (YN aD) (Za 7) (Za 6)))) (Ya (eP (eC (.bl aC)))) ZI)
  (Ya (eP (Qo (Zf (YN aC) (Zd ZU [Za 2,Za 3,Za 6]) (Za 5)) (Zf (YN aC) (Zd ZU [Za 2,Za 3,Za 4]) (Za 5)))))))))))))))
def D_law:List PV->Option PV:=Xi 8 JK
section
variable {P:bE} {w:bg} {K:aI} {mg:ah->Option aJ} {base:bw}
theorem L5:Sy (["tie","house","seen","purse"]:List ah) (["tie","house","seen"]:List ah) Yu:=⟨rfl,rfl,rfl,by decide +kernel,by decide +kernel,rfl,by decide +kernel,rfl,by decide +kernel,by decide +kernel⟩
theorem L6(B:Uy mg):Mo P w K mg base 1 Yu (λl ls=>Te (ls.map aA++[aA l])) 3:=
 Fm (k:=0) Te L5 (λ_ _ _ _ us hl=>match us,hl with | [_,_,_],_=>rfl) rfl (λfa c e A outer s H hr=>(Aw (Zq (Zc (pv 3)) (Zc (pv 1))) (Zc (pv 2))))
theorem Mv:Sy (["tie","house","seen","tree"]:List ah) (["tie","house","seen"]:List ah) Yf:=⟨rfl,rfl,rfl,by decide +kernel,by decide +kernel,rfl,by decide +kernel,rfl,by decide +kernel,by decide +kernel⟩
theorem Mw(B:Uy mg):Mo P w K mg base 1 Yf (λl ls=>Ua (ls.map aA++[aA l])) 3:=
 Fm (k:=0) Ua Mv (λ_ _ _ _ us hl=>match us,hl with | [_,_,_],_=>rfl) rfl (λfa c e A outer s H hr=>(Om hr.units (Zc (pv 0)) (Zc (pv 3))))
theorem Dv(B:Uy mg):∀L,(∃l ls r,VN L l ls=aA r)->Mo P w K mg base 1 L (VN L) 3:=by
 intro L ⟨l,ls,r,h⟩;by_cases e_tree_of:L=Yu
 ·have q:VN L=λl ls=>Te (ls.map aA++[aA l]):=by funext l ls;unfold VN;rw[pC e_tree_of]
  rw[q,e_tree_of];exact L6 B
 by_cases e_still_by:L=Yf
 ·have q:VN L=λl ls=>Ua (ls.map aA++[aA l]):=by funext l ls;unfold VN;rw[pE e_tree_of,pC e_still_by]
  rw[q,e_still_by];exact Mw B
 unfold VN at h;rw[pE e_tree_of,pE e_still_by] at h;cases h
abbrev TZ:cO:=Td 37
theorem sc_l_square:Zz (["_law_times_here","_law_many","_law_rows","_law_one","_law_other"]:List ah) (["_law_times_here","_law_many"]:List ah) (Zm TZ):=⟨rfl,rfl,rfl,by decide +kernel,rfl,by decide +kernel,by decide +kernel⟩
theorem Mx(Df:Def K mg "_law_square" TZ)(B:Uy mg):Xf P w K mg base "_law_square" (["_law_times_here","_law_many"]:List ah) (YY K XC 2) 1:=
 Z6 (O:=[2]) (k:=0) 5 V8 Df sc_l_square (λ_ _ _ _ _ _ us hl=>match us,hl with | [_,_],_=>rfl) rfl rfl (by decide) (λfa cdv A outer s H E hr=>
  (Zg (Jr (["_law_house"]:List ah) (["_law_many"]:List ah) [1] (i:=2) sc_l_square.nd rfl rfl rfl (YE rfl B.range (Zb (Zc (pv 1)) Zh)) (by kernel_rfl) (λ_ _ _ _ _=>(Zv (i:=0) (show((["_law_house"]:List ah)++(["_law_many"]:List ah)).Nodup by decide +kernel) rfl (ay rfl) (.inr rfl))) (λ_ _ _ _ _=>Wm) (λ_ _ _ _ _=>(O3 (Wy (Zb Zi Zh)) (Zc (pv 1)))))
  (Zg (Jq (OI bG rfl (OQ (pv 0)) (Uu (n:=2) rfl (Yh (Zv (i:=3) sc_l_square.nd rfl (ay rfl)) (Yh (Zv (i:=4) sc_l_square.nd rfl (ay rfl)) Vg))) (Zg (Ol (TH (O2 (RH hr) (Zc (pv 0)) (Wx (Zb (Zc (pv 3)) (Zb (Zc (pv 4)) Zh)))) (TF (KZ ix_list (pv 2) (Zc (pv 3)) (λ_ _=>rfl)) (Zc (pv 4)) W4)))
  (Zj (Ol (TH (O2 (RH hr) (Zc (pv 0)) (Wx (Zb (Zc (pv 3)) (Zb (Zc (pv 4)) Zh)))) (TF (KZ ix_list (pv 2) (Zc (pv 4)) (λ_ _=>rfl)) (Zc (pv 3)) W4)))))))
  (Zj (ZS (VE.pure (XH YZ VB rfl B.tuple (by decide +kernel) (Zb (WO (["_law_row"]:List ah) ([]:List ah) [] rfl (WN (Zc (pv 2))) (by kernel_rfl) (λ_ _ _ _ _=>(Zv (i:=0) (show((["_law_row"]:List ah)++([]:List ah)).Nodup by decide +kernel) rfl (ay rfl) (.inr rfl))) (λ_ _ _ _ _=>Wm) (λ_ _ _ _ _=>(XH YZ VB rfl B.tuple (by decide +kernel) (Zb (Zc (pv 0)) Zh)))) Zh))))))))
abbrev QY:cO:=Td 32
theorem Hn:Zz (["_law_script","_law_k"]:List ah) (["_law_script","_law_k"]:List ah) (Zm QY):=⟨rfl,rfl,rfl,by decide +kernel,rfl,by decide +kernel,by decide +kernel⟩
theorem Ho(Df:Def K mg "_law_cell" QY)(B:Uy mg):Xf P w K mg base "_law_cell" (["_law_script","_law_k"]:List ah) (YY K Zr 2) 1:=
 Z6 (O:=[]) (k:=0) 2 QK Df Hn (λ_ _ _ _ _ _ us hl=>match us,hl with | [_,_],_=>rfl) rfl rfl (by decide) (λfa cdv A outer s H E hr=>
  (Zj (ZS (VE.pure (Zq (VM.ve (R5 (Of (Zc (pv 0)) (Vk (Zc (pv 1))) (Vk (Y5 (Zc (pv 1)) Zi))) (Wy (Zb Zi Zh)))) Zi)))))
abbrev Rk:cO:=Td 42
theorem sc_n_order:Zz (["_law_script","_law_at","_law_many","_law_base","_law_order_here","_law_house"]:List ah) (["_law_script","_law_at","_law_many","_law_base"]:List ah) (Zm Rk):=⟨rfl,rfl,rfl,by decide +kernel,rfl,by decide +kernel,by decide +kernel⟩
theorem L7(Df:Def K mg "_law_order" Rk)(B:Uy mg)(C_l_cell:Xf P w K mg base "_law_cell" (["_law_script","_law_k"]:List ah) (YY K Zr 2) 1):Xf P w K mg base "_law_order" (["_law_script","_law_at","_law_many","_law_base"]:List ah) (YY K Wg 4) 2:=
 Z6 (O:=[4]) (k:=1) 6 Tf Df sc_n_order (λ_ _ _ _ _ _ us hl=>match us,hl with | [_,_,_,_],_=>rfl) rfl rfl (by decide) (λfa cdv A outer s H E hr=>
  (Zg (Zo (i:=4) sc_n_order.nd rfl (ay rfl) (XZ (Xw (VE.pure (Zc (pv 3))) Xc)))
  (Zg (YF bG rfl (YE rfl B.range (Zb (Zc (pv 2)) Zh)) (Zv (i:=5) sc_n_order.nd rfl (ay rfl)) (Zj (Xh (RJ hr.units (Zc (pv 5)) (Zc (pv 3))) (Zj (Oj (Xb (W5 bW kG kH P9 (pv 4) (ZW (Y5 Zi (Y6 (VM.ve (Zs C_l_cell (hr.mono (by decide)) rfl (Zb (Zc (pv 0)) (Zb (Y5 (Zc (pv 1)) (Zc (pv 5))) Zh)))) (Zu ZM Ym rfl B.len (by decide +kernel) (Zb (Zc (pv 4)) Zh)))) (ZW (Zc (pv 5)) YU)))))) Z5)))
  (Zj (U3 (pv 4))))))
abbrev Rl:cO:=Td 43
theorem sc_n_purse:Zz (["_law_script","_law_web","_law_base","_law_order_here","_law_found","_law_k","_law_house","_law_cell_here","_law_ahead","_law_near"]:List ah) (["_law_script","_law_web","_law_base"]:List ah) (Zm Rl):=⟨rfl,rfl,rfl,by decide +kernel,rfl,by decide +kernel,by decide +kernel⟩
theorem L8(Df:Def K mg "_law_purse" Rl)(B:Uy mg)(C_n_order:Xf P w K mg base "_law_order" (["_law_script","_law_at","_law_many","_law_base"]:List ah) (YY K Wg 4) 2)(C_l_cell:Xf P w K mg base "_law_cell" (["_law_script","_law_k"]:List ah) (YY K Zr 2) 1):Xf P w K mg base "_law_purse" (["_law_script","_law_web","_law_base"]:List ah) (YY K W0 3) 3:=
 Z6 (O:=[4]) (k:=2) 10 Tg Df sc_n_purse (λ_ _ _ _ _ _ us hl=>match us,hl with | [_,_,_],_=>rfl) rfl rfl (by decide) (λfa cdv A outer s H E hr=>
  (Zg (Zo (i:=3) sc_n_purse.nd rfl (ay rfl) (Zs C_n_order (hr.mono (by decide)) rfl (Zb (Zc (pv 0)) (Zb Zi (Zb (Zu ZM Ym rfl B.len (by decide +kernel) (Zb (Zc (pv 1)) Zh)) (Zb (Zc (pv 2)) Zh))))))
  (Zg (Zo (i:=4) sc_n_purse.nd rfl (ay rfl) (O3 (Wy (Zb Zi Zh)) (Zu ZM Ym rfl B.len (by decide +kernel) (Zb (Zc (pv 1)) Zh))))
  (Zg (YF bG rfl (WX rfl B.range (Zb Zi (Zb (Zu ZM Ym rfl B.len (by decide +kernel) (Zb (Zc (pv 3)) Zh)) Zh))) (Zv (i:=5) sc_n_purse.nd rfl (ay rfl)) (Zg (Zo (i:=6) sc_n_purse.nd rfl (iG rfl) (VE.pure (Zq (Zc (pv 3)) (Zc (pv 5)))))
  (Zg (Zo (i:=7) sc_n_purse.nd rfl (ay rfl) (Zs C_l_cell (hr.mono (by decide)) rfl (Zb (Zc (pv 0)) (Zb (Y5 Zi (Zc (pv 6))) Zh))))
  (Zg (Zo (i:=8) sc_n_purse.nd rfl (ay rfl) (VE.pure (Zu (UZ rfl) OW rfl B.sum (by decide +kernel) (Zb (WO (["_law_other"]:List ah) (["_law_web","_law_house"]:List ah) [1,6] rfl (WN (Of (Zc (pv 3)) U2 (Vk (Zc (pv 5))))) (by kernel_rfl) (λ_ _ _ _ _=>(Zv (i:=0) (show((["_law_other"]:List ah)++(["_law_web","_law_house"]:List ah)).Nodup by decide +kernel) rfl (ay rfl) (.inr rfl))) (λ_ _ _ _ _=>Wm) (λ_ _ _ _ _=>(Zq (Zq (Zc (pv 1)) (Zc (pv 2))) (Zc (pv 0))))) Zh))))
  (Zg (UG (TH (Y6 (UO (Zc (pv 7)) Zi) (Zu (PR rfl) Jc rfl B.max (by decide +kernel) (Zb Zi (Zb (Zc (pv 8)) Zh)))) (TF (pv 4) (Zc (pv 6)) W4)))
  (Zj (Xh (Jn hr.units (Y6 (Zc (pv 7)) Zi) Zi) (Zg (Zo (i:=9) sc_n_purse.nd rfl (ay rfl) (VE.pure (Zu (UZ rfl) OW rfl B.sum (by decide +kernel) (Zb (Zq (Zc (pv 1)) (Zc (pv 6))) Zh))))
  (Zj (UG (TH (Zq (Wy (Zb (Ww (Zc (pv 9)) Zi) (Zb (Zc (pv 9)) (Zb (Y6 (UO (Zc (pv 7)) Zi) Zi) (Zb (Gv Zi) Zh))))) (Y6 (UO (Zc (pv 7)) Zi) Zi)) (TF (pv 4) (Zc (pv 6)) W4))))) Z5)))))))
  (Zg (Zo (i:=7) sc_n_purse.nd rfl (ay rfl) (Zs C_l_cell (hr.mono (by decide)) rfl (Zb (Zc (pv 0)) (Zb Zi Zh))))
  (Zg (UG (TH (Ww (Y6 (UO (Zc (pv 7)) Zi) Zi) Zi) (TF (pv 4) (Zc (pv 2)) W4)))
  (Zg (Xh (Jn hr.units (Y6 (Zc (pv 7)) Zi) Zi) (Zj (UG (TH (Ww (Y6 (UO (Zc (pv 7)) Zi) (Y5 (E5 Zi (Gr Zi Zi)) Zi)) (Gr Zi Zi)) (TF (pv 4) (Zc (pv 2)) W4)))) Z5)
  (Zj (ZS (VE.pure (XH YZ VB rfl B.tuple (by decide +kernel) (Zb (Zc (pv 4)) Zh))))))))))))
abbrev Rn:cO:=Td 20
theorem sc_ties_of:Zz (["web","ties","a","row","b"]:List ah) (["web"]:List ah) (Zm Rn):=⟨rfl,rfl,rfl,by decide +kernel,rfl,by decide +kernel,by decide +kernel⟩
theorem L9(Df:Def K mg "ties_of" Rn)(B:Uy mg):Xf P w K mg base "ties_of" (["web"]:List ah) (YY K Y3 1) 1:=
 Z6 (O:=[1]) (k:=0) 5 U8 Df sc_ties_of (λ_ _ _ _ _ _ us hl=>match us,hl with | [_],_=>rfl) rfl rfl (by decide) (λfa cdv A outer s H E hr=>
  (Zg (Zo (i:=1) sc_ties_of.nd rfl (ay rfl) (XZ Xc))
  (Zg (YF bG rfl (R3 aC rfl B.enumerate (Zb (Zc (pv 0)) Zh)) (Uu (n:=2) rfl (Yh (Zv (i:=2) sc_ties_of.nd rfl (iG rfl)) (Yh (Zv (i:=3) sc_ties_of.nd rfl (ay rfl)) Vg))) (Zj (YF bG rfl (WX rfl B.range (Zb (Y5 (Zc (pv 2)) Zi) (Zb (Zu ZM Ym rfl B.len (by decide +kernel) (Zb (Zc (pv 0)) Zh)) Zh))) (Zv (i:=4) sc_ties_of.nd rfl (iG rfl)) (Zj (Iu (Xb (W5 bW PySem.F.slot_list_extend PySem.F.type_list_extend J8 (pv 1) (ZW (Jg (["nth"]:List ah) (["a","b"]:List ah) [2,4] rfl (YE rfl B.range (Zb (Zq (Zc (pv 3)) (Zc (pv 4))) Zh)) (by kernel_rfl) (λ_ _ _ _ _=>(Zv (i:=0) (show((["nth"]:List ah)++(["a","b"]:List ah)).Nodup by decide +kernel) rfl (ay rfl) (.inr rfl))) (λ_ _ _ _ _=>Wm) (λ_ _ _ _ _=>(VE.pure (Wx (Zb (Zc (pv 1)) (Zb (Zc (pv 2)) (Zb (Zc (pv 0)) Zh))))))) YU))))))))
  (Zj (U3 (pv 1))))))
abbrev Wj:cO:=Td 28
theorem sc_tie_to_look_at:Zz (["ties","looked","fire","tie","ends"]:List ah) (["ties","looked","fire"]:List ah) (Zm Wj):=⟨rfl,rfl,rfl,by decide +kernel,rfl,by decide +kernel,by decide +kernel⟩
theorem SG(Df:Def K mg "tie_to_look_at" Wj)(B:Uy mg):Xf P w K mg base "tie_to_look_at" (["ties","looked","fire"]:List ah) (YY K Z1 3) 1:=
 Z6 (O:=[]) (k:=0) 5 Xr Df sc_tie_to_look_at (λ_ _ _ _ _ _ us hl=>match us,hl with | [_,_,_],_=>rfl) rfl rfl (by decide) (λfa cdv A outer s H E hr=>
  (Zg (YF bG rfl (R3 aD rfl B.enumerate (Zb (Zc (pv 0)) Zh)) (Uu (n:=2) rfl (Yh (Zv (i:=3) sc_tie_to_look_at.nd rfl (ay rfl)) (Yh (Zv (i:=4) sc_tie_to_look_at.nd rfl (ay rfl)) Vg))) (Zj (Xh (VW.vt (V0 (VD hr.units (Zc (pv 3)) (Zc (pv 1))) (WL (RJ hr.units (Om hr.units (Zq (Zc (pv 4)) Zi) (Zc (pv 2))) (Om hr.units (Zq (Zc (pv 4)) Zi) (Zc (pv 2))))))) (Zj (ZS (VE.pure (Zc (pv 3))))) Z5)))
  (Zj (ZS (VE.pure OT)))))
abbrev QZ:cO:=Td 27
theorem sc_walked:Zz (["web","base","burns","ties","fire","looked","burning","tie","house","seen"]:List ah) (["web","base","burns"]:List ah) (Zm QZ):=⟨rfl,rfl,rfl,by decide +kernel,rfl,by decide +kernel,by decide +kernel⟩
theorem Hq(Df:Def K mg "walked" QZ)(B:Uy mg)(C_ties_of:Xf P w K mg base "ties_of" (["web"]:List ah) (YY K Y3 1) 1)(C_tie_to_look_at:Xf P w K mg base "tie_to_look_at" (["ties","looked","fire"]:List ah) (YY K Z1 3) 1):Xf P w K mg base "walked" (["web","base","burns"]:List ah) (YY K Yz 3) 2:=
 Z6 (O:=[4,5,6]) (k:=1) 10 SD Df sc_walked (λ_ _ _ _ _ _ us hl=>match us,hl with | [_,_,_],_=>rfl) rfl rfl (by decide) (λfa cdv A outer s H E hr=>
  (Zg (Zo (i:=3) sc_walked.nd rfl (iG rfl) (Zs C_ties_of (hr.mono (by decide)) rfl (Zb (Zc (pv 0)) Zh)))
  (Zg (Zo (i:=4) sc_walked.nd rfl (ay rfl) (XZ (Xw (VE.pure (Zc (pv 1))) Xc)))
  (Zg (Zo (i:=5) sc_walked.nd rfl (ay rfl) (XZ Xc))
  (Zg (Zo (i:=6) sc_walked.nd rfl (ay rfl) (XZ Xc))
  (Zg (Zo (i:=7) sc_walked.nd rfl (ay rfl) (Zs C_tie_to_look_at (hr.mono (by decide)) rfl (Zb (Zc (pv 3)) (Zb (Zc (pv 5)) (Zb (Zc (pv 4)) Zh)))))
  (Zg (Qz bG (R0 (Zc (pv 7))) (Zg (Y1 (Xb (W5 bW bx bz Y0 (pv 5) (ZW (VE.pure (Zc (pv 7))) YU))))
  (Zg (Zo (i:=8) sc_walked.nd rfl (iG rfl) (VE.pure (DY (N4 hr.units (Zq (Zq (Zc (pv 3)) (Zc (pv 7))) Zi) (Zc (pv 4))) (Zq (Zq (Zc (pv 3)) (Zc (pv 7))) Zi) (Zq (Zq (Zc (pv 3)) (Zc (pv 7))) Zi))))
  (Zg (Zo (i:=9) sc_walked.nd rfl (ay rfl) (VE.pure (Zu ZM Ym rfl B.len (by decide +kernel) (Zb (WO (["other"]:List ah) (["house","ties"]:List ah) [8,3] rfl (WN (Zc (pv 5))) (by kernel_rfl) (λ_ _ _ _ _=>(Zv (i:=0) (show((["other"]:List ah)++(["house","ties"]:List ah)).Nodup by decide +kernel) rfl (ay rfl) (.inr rfl))) (λ_ _ _ _ _=>(OZ (N4 hr.units (Zc (pv 1)) (VC (Zq (Zc (pv 2)) (Zc (pv 0))) U2 (Vk Zi))))) (λ_ _ _ _ _=>(Zc (pv 0)))) Zh))))
  (Zg (Xh (Gu (VM.ve (Br 2 rfl (ay rfl) (Dv B) (hr.mono (by decide)) (Zb (Zc (pv 7)) (Zb (Zc (pv 8)) (Zb (Zc (pv 9)) Zh)))))) (Zg (Y1 (Xb (W5 bW bx bz Y0 (pv 4) (ZW (VE.pure (Zc (pv 8))) YU))))
  (Zj (Y1 (Xb (W5 bW bx bz Y0 (pv 6) (ZW (VE.pure (Wx (Zb (Zc (pv 7)) (Zb (Zc (pv 8)) (Zb (Zc (pv 9)) Zh))))) YU)))))) Z5)
  (Zj (Zo (i:=7) sc_walked.nd rfl (ay rfl) (Zs C_tie_to_look_at (hr.mono (by decide)) rfl (Zb (Zc (pv 3)) (Zb (Zc (pv 5)) (Zb (Zc (pv 4)) Zh)))))))))))
  (Zj (U3 (pv 6))))))))))
abbrev Ro:cO:=Td 26
theorem Ka:Zz (["web","base","burns"]:List ah) (["web","base","burns"]:List ah) (Zm Ro):=⟨rfl,rfl,rfl,by decide +kernel,rfl,by decide +kernel,by decide +kernel⟩
theorem Kb(Df:Def K mg "tree_by" Ro)(B:Uy mg)(C_walked:Xf P w K mg base "walked" (["web","base","burns"]:List ah) (YY K Yz 3) 2):Xf P w K mg base "tree_by" (["web","base","burns"]:List ah) (YY K W3 3) 3:=
 Z6 (O:=[]) (k:=2) 3 Th Df Ka (λ_ _ _ _ _ _ us hl=>match us,hl with | [_,_,_],_=>rfl) rfl rfl (by decide) (λfa cdv A outer s H E hr=>
  (Zj (ZS (VE.pure (XH YZ VB rfl B.tuple (by decide +kernel) (Zb (VM.ve (NZ Ss QM rfl B.sorted (by decide +kernel) (Zb (WO (["burnt_by"]:List ah) ([]:List ah) [] rfl (WN (VM.ve (Zs C_walked (hr.mono (by decide)) rfl (Zb (Zc (pv 0)) (Zb (Zc (pv 1)) (Zb (Zc (pv 2)) Zh)))))) (by kernel_rfl) (λ_ _ _ _ _=>(Zv (i:=0) (show((["burnt_by"]:List ah)++([]:List ah)).Nodup by decide +kernel) rfl (ay rfl) (.inr rfl))) (λ_ _ _ _ _=>Wm) (λ_ _ _ _ _=>(Zq (Zc (pv 0)) Zi))) Zh))) Zh))))))
abbrev Rp:cO:=Td 18
theorem Kc:Zz (["purse","base"]:List ah) (["purse","base"]:List ah) (Zm Rp):=⟨rfl,rfl,rfl,by decide +kernel,rfl,by decide +kernel,by decide +kernel⟩
theorem Kd(Df:Def K mg "in_debt" Rp)(B:Uy mg):Xf P w K mg base "in_debt" (["purse","base"]:List ah) (YY K Wf 2) 1:=
 Z6 (O:=[]) (k:=0) 2 Ta Df Kc (λ_ _ _ _ _ _ us hl=>match us,hl with | [_,_],_=>rfl) rfl rfl (by decide) (λfa cdv A outer s H E hr=>
  (Zj (ZS (Jg (["house","coins"]:List ah) (["base"]:List ah) [1] rfl (R3 aC rfl B.enumerate (Zb (Zc (pv 0)) Zh)) (by kernel_rfl) (λ_ _ _ _ _=>(Uu (n:=2) rfl (Yh (Zv (i:=0) (show((["house","coins"]:List ah)++(["base"]:List ah)).Nodup by decide +kernel) rfl (ay rfl) (.inr rfl)) (Yh (Zv (i:=1) (show((["house","coins"]:List ah)++(["base"]:List ah)).Nodup by decide +kernel) rfl (ay rfl) (.inr rfl)) Vg)))) (λ_ _ _ _ _=>(OZ (VW.vt (V0 (RJ hr.units (Zc (pv 0)) (Zc (pv 2))) (WL (NW (Zc (pv 1)) Zi)))))) (λ_ _ _ _ _=>(VE.pure (Zc (pv 0))))))))
abbrev Rq:cO:=Td 16
theorem Ke:Zz (["web","house","others"]:List ah) (["web","house","others"]:List ah) (Zm Rq):=⟨rfl,rfl,rfl,by decide +kernel,rfl,by decide +kernel,by decide +kernel⟩
theorem Kf(Df:Def K mg "ties_to" Rq)(B:Uy mg):Xf P w K mg base "ties_to" (["web","house","others"]:List ah) (YY K VG 3) 1:=
 Z6 (O:=[]) (k:=0) 3 U9 Df Ke (λ_ _ _ _ _ _ us hl=>match us,hl with | [_,_,_],_=>rfl) rfl rfl (by decide) (λfa cdv A outer s H E hr=>
  (Zj (ZS (VE.pure (Zu (UZ rfl) OW rfl B.sum (by decide +kernel) (Zb (WO (["other"]:List ah) (["web","house"]:List ah) [0,1] rfl (WN (Zc (pv 2))) (by kernel_rfl) (λ_ _ _ _ _=>(Zv (i:=0) (show((["other"]:List ah)++(["web","house"]:List ah)).Nodup by decide +kernel) rfl (ay rfl) (.inr rfl))) (λ_ _ _ _ _=>Wm) (λ_ _ _ _ _=>(Zq (Zq (Zc (pv 1)) (Zc (pv 2))) (Zc (pv 0))))) Zh))))))
abbrev WA:cO:=Td 15
theorem sc_house_to_burn:Zz (["web","purse","fire","house","coins"]:List ah) (["web","purse","fire"]:List ah) (Zm WA):=⟨rfl,rfl,rfl,by decide +kernel,rfl,by decide +kernel,by decide +kernel⟩
theorem Rr(Df:Def K mg "house_to_burn" WA)(B:Uy mg)(C_ties_to:Xf P w K mg base "ties_to" (["web","house","others"]:List ah) (YY K VG 3) 1):Xf P w K mg base "house_to_burn" (["web","purse","fire"]:List ah) (YY K ZX 3) 2:=
 Z6 (O:=[]) (k:=1) 5 XA Df sc_house_to_burn (λ_ _ _ _ _ _ us hl=>match us,hl with | [_,_,_],_=>rfl) rfl rfl (by decide) (λfa cdv A outer s H E hr=>
  (Zg (YF bG rfl (R3 aC rfl B.enumerate (Zb (Zc (pv 1)) Zh)) (Uu (n:=2) rfl (Yh (Zv (i:=3) sc_house_to_burn.nd rfl (ay rfl)) (Yh (Zv (i:=4) sc_house_to_burn.nd rfl (ay rfl)) Vg))) (Zj (Xh (VW.vt (V0 (VD hr.units (Zc (pv 3)) (Zc (pv 2))) (WL (NW (Zc (pv 4)) (VM.ve (Zs C_ties_to (hr.mono (by decide)) rfl (Zb (Zc (pv 0)) (Zb (Zc (pv 3)) (Zb (Zc (pv 2)) Zh))))))))) (Zj (ZS (VE.pure (Zc (pv 3))))) Z5)))
  (Zj (ZS (VE.pure OT)))))
abbrev Nm:cO:=Td 14
theorem sc_burnt:Zz (["web","purse","base","fire","house"]:List ah) (["web","purse","base"]:List ah) (Zm Nm):=⟨rfl,rfl,rfl,by decide +kernel,rfl,by decide +kernel,by decide +kernel⟩
theorem Fv(Df:Def K mg "burnt" Nm)(B:Uy mg)(C_house_to_burn:Xf P w K mg base "house_to_burn" (["web","purse","fire"]:List ah) (YY K ZX 3) 2):Xf P w K mg base "burnt" (["web","purse","base"]:List ah) (YY K WR 3) 3:=
 Z6 (O:=[3]) (k:=2) 5 R6 Df sc_burnt (λ_ _ _ _ _ _ us hl=>match us,hl with | [_,_,_],_=>rfl) rfl rfl (by decide) (λfa cdv A outer s H E hr=>
  (Zg (Zo (i:=3) sc_burnt.nd rfl (ay rfl) (XZ (Xw (VE.pure (Zc (pv 2))) Xc)))
  (Zg (Zo (i:=4) sc_burnt.nd rfl (ay rfl) (Zs C_house_to_burn (hr.mono (by decide)) rfl (Zb (Zc (pv 0)) (Zb (Zc (pv 1)) (Zb (Zc (pv 3)) Zh)))))
  (Zg (Qz bG (R0 (Zc (pv 4))) (Zg (Y1 (Xb (W5 bW bx bz Y0 (pv 3) (ZW (VE.pure (Zc (pv 4))) YU))))
  (Zj (Zo (i:=4) sc_burnt.nd rfl (ay rfl) (Zs C_house_to_burn (hr.mono (by decide)) rfl (Zb (Zc (pv 0)) (Zb (Zc (pv 1)) (Zb (Zc (pv 3)) Zh))))))))
  (Zj (U3 (pv 3)))))))
abbrev Ue:cO:=Td 17
theorem PB:Zz (["web","purse","base"]:List ah) (["web","purse","base"]:List ah) (Zm Ue):=⟨rfl,rfl,rfl,by decide +kernel,rfl,by decide +kernel,by decide +kernel⟩
theorem PD(Df:Def K mg "is_settled" Ue)(B:Uy mg)(C_burnt:Xf P w K mg base "burnt" (["web","purse","base"]:List ah) (YY K WR 3) 3)(C_in_debt:Xf P w K mg base "in_debt" (["purse","base"]:List ah) (YY K Wf 2) 1):Xf P w K mg base "is_settled" (["web","purse","base"]:List ah) (YY K ZE 3) 4:=
 Z6 (O:=[]) (k:=3) 3 WT Df PB (λ_ _ _ _ _ _ us hl=>match us,hl with | [_,_,_],_=>rfl) rfl rfl (by decide) (λfa cdv A outer s H E hr=>
  (Zj (ZS (VE.pure (TN (Tx hr.units (Zu ZM Ym rfl B.len (by decide +kernel) (Zb (VM.ve (Zs C_in_debt (hr.mono (by decide)) rfl (Zb (Zc (pv 1)) (Zb (Zc (pv 2)) Zh)))) Zh)) Zi) (S6 (Tx hr.units (Zu ZM Ym rfl B.len (by decide +kernel) (Zb (VM.ve (Zs C_burnt (hr.mono (by decide)) rfl (Zb (Zc (pv 0)) (Zb (Zc (pv 1)) (Zb (Zc (pv 2)) Zh))))) Zh)) (Zu ZM Ym rfl B.len (by decide +kernel) (Zb (Zc (pv 0)) Zh)))))))))
abbrev Tj:cO:=Td 25
theorem Q0:Zz (["web","base","purse"]:List ah) (["web","base","purse"]:List ah) (Zm Tj):=⟨rfl,rfl,rfl,by decide +kernel,rfl,by decide +kernel,by decide +kernel⟩
theorem Kg(Df:Def K mg "tree_of" Tj)(B:Uy mg)(C_is_settled:Xf P w K mg base "is_settled" (["web","purse","base"]:List ah) (YY K ZE 3) 4)(C_tree_by:Xf P w K mg base "tree_by" (["web","base","burns"]:List ah) (YY K W3 3) 3):Xf P w K mg base "tree_of" (["web","base","purse"]:List ah) (YY K ZU 3) 5:=
 Z6 (O:=[]) (k:=4) 3 Ti Df Q0 (λ_ _ _ _ _ _ us hl=>match us,hl with | [_,_,_],_=>rfl) rfl rfl (by decide) (λfa cdv A outer s H E hr=>
  (Zg (Xh (V1 (VZ (VM.ve (Zs C_is_settled (hr.mono (by decide)) rfl (Zb (Zc (pv 0)) (Zb (Zc (pv 2)) (Zb (Zc (pv 1)) Zh))))))) (Zj (QO (W:=[]))) Z5)
  (Zj (ZS (Mq (q:="tree_of") (L:=Yu) (i:=2) rfl rfl rfl C_tree_by (hr.mono (by decide)) rfl rfl rfl rfl (Zc (pv 0)) (Zc (pv 1)) (mL _) rfl (by decide) rfl rfl ⟨_,rfl,rfl⟩ rfl rfl rfl rfl)))))
theorem My{Ca Cb:aM}(Df:Def K mg "tree_of" Tj)(B:Uy mg)(Q:VX.QN "NotSettled" K mg Ca Cb)(C_is_settled:Xf P w K mg base "is_settled" (["web","purse","base"]:List ah) (YY K ZE 3) 4):VX.CalX P w K mg base "tree_of" (["web","base","purse"]:List ah) (VX.spX K Xs 3) 5:=
 VX.def_x (O:=[]) (k:=4) 3 (Md (AI (WK (xB (Zd ZE [Za 0,Za 2,Za 1]))) (Ms "NotSettled" (Za 1) (Za 2)) Bl) (Wb (WK (xB (Zd ZE [Za 0,Za 2,Za 1]))) UN ZI)
  Bl) Df Q0 (λ_ _ _ _ _ _ us hl=>match us,hl with | [_,_,_],_=>rfl) rfl rfl (by decide) (λfa cdv A outer s H E hr=>
  (G3 (AK (V1 (VZ (VM.ve (Zs C_is_settled (hr.mono (by decide)) rfl (Zb (Zc (pv 0)) (Zb (Zc (pv 2)) (Zb (Zc (pv 1)) Zh))))))) (JB (Hi F.excBase_ValueError Q.ex rfl Q.mgo Q.no rfl E9 hr (Zc (pv 1)) (Zc (pv 2)))) Bm) (Xh (V1 (VZ (VM.ve (Zs C_is_settled (hr.mono (by decide)) rfl (Zb (Zc (pv 0)) (Zb (Zc (pv 2)) (Zb (Zc (pv 1)) Zh))))))) (Zj (QO (W:=[]))) Z5)
  (JB AJ)))
abbrev T1:cO:=Td 30
theorem sc_still_by:Zz (["web","base","tree","coins","burning","number","end","looked_at"]:List ah) (["web","base","tree"]:List ah) (Zm T1):=⟨rfl,rfl,rfl,by decide +kernel,rfl,by decide +kernel,by decide +kernel⟩
theorem Mz(Df:Def K mg "still_by" T1)(B:Uy mg)(C_walked:Xf P w K mg base "walked" (["web","base","burns"]:List ah) (YY K Yz 3) 2):Xf P w K mg base "still_by" (["web","base","tree"]:List ah) (YY K Wh 3) 3:=
 Z6 (O:=[3]) (k:=2) 8 Ub Df sc_still_by (λ_ _ _ _ _ _ us hl=>match us,hl with | [_,_,_],_=>rfl) rfl rfl (by decide) (λfa cdv A outer s H E hr=>
  (Zg (Zo (i:=3) sc_still_by.nd rfl (ay rfl) (O3 (Wy (Zb Zi Zh)) (Zu ZM Ym rfl B.len (by decide +kernel) (Zb (Zc (pv 0)) Zh))))
  (Zg (Zo (i:=4) sc_still_by.nd rfl (ay rfl) (Mq (q:="still_by") (L:=Yf) (i:=2) rfl rfl rfl C_walked (hr.mono (by decide)) rfl rfl rfl rfl (Zc (pv 0)) (Zc (pv 1)) (mL _) rfl (by decide) rfl rfl ⟨_,rfl,rfl⟩ rfl rfl rfl rfl))
  (Zg (YF bG rfl (WN (Zc (pv 4))) (Uu (n:=3) rfl (Yh (Zv (i:=5) sc_still_by.nd rfl (ay rfl)) (Yh (Zv (i:=6) sc_still_by.nd rfl (ay rfl)) (Yh (Zv (i:=7) sc_still_by.nd rfl (ay rfl)) Vg)))) (Zj (UG (TH (Ww (Zc (pv 7)) Zi) (TF (pv 3) (Zc (pv 6)) W4)))))
  (Zj (ZS (VE.pure (XH YZ VB rfl B.tuple (by decide +kernel) (Zb (Zc (pv 3)) Zh)))))))))
abbrev US:cO:=Td 22
theorem sc_pieces_of:Zz (["web","ties","grove","pieces","tie","ends","kept","gone"]:List ah) (["web","ties","grove"]:List ah) (Zm US):=⟨rfl,rfl,rfl,by decide +kernel,rfl,by decide +kernel,by decide +kernel⟩
theorem Nn(Df:Def K mg "pieces_of" US)(B:Uy mg):Xf P w K mg base "pieces_of" (["web","ties","grove"]:List ah) (YY K YS 3) 1:=
 Z6 (O:=[3]) (k:=0) 8 Vq Df sc_pieces_of (λ_ _ _ _ _ _ us hl=>match us,hl with | [_,_,_],_=>rfl) rfl rfl (by decide) (λfa cdv A outer s H E hr=>
  (Zg (Zo (i:=3) sc_pieces_of.nd rfl (ay rfl) (Nc rfl rfl B.list rfl B.range (Zu ZM Ym rfl B.len (by decide +kernel) (Zb (Zc (pv 0)) Zh))))
  (Zg (YF bG rfl (Lw (Zc (pv 2))) (Zv (i:=4) sc_pieces_of.nd rfl (ay rfl)) (Zg (Zo (i:=5) sc_pieces_of.nd rfl (ay rfl) (VE.pure (Zq (Zc (pv 1)) (Zc (pv 4)))))
  (Zg (Zo (i:=6) sc_pieces_of.nd rfl (iG rfl) (VE.pure (Zq (Zc (pv 3)) (Zq (Zc (pv 5)) Zi))))
  (Zg (Zo (i:=7) sc_pieces_of.nd rfl (iG rfl) (VE.pure (Zq (Zc (pv 3)) (Zq (Zc (pv 5)) Zi))))
  (Zj (Jr (["piece"]:List ah) (["kept","gone"]:List ah) [6,7] (i:=3) sc_pieces_of.nd rfl rfl rfl (WN (Zc (pv 3))) (by kernel_rfl) (λ_ _ _ _ _=>(Zv (i:=0) (show((["piece"]:List ah)++(["kept","gone"]:List ah)).Nodup by decide +kernel) rfl (ay rfl) (.inr rfl))) (λ_ _ _ _ _=>Wm) (λ_ _ _ _ _=>(VE.pure (DY (Jn hr.units (Zc (pv 0)) (Zc (pv 2))) (Zc (pv 1)) (Zc (pv 0)))))))))))
  (Zj (U3 (pv 3))))))
abbrev Rt:cO:=Td 23
theorem sc_is_tree:Zz (["web","numbers","ties"]:List ah) (["web","numbers"]:List ah) (Zm Rt):=⟨rfl,rfl,rfl,by decide +kernel,rfl,by decide +kernel,by decide +kernel⟩
theorem Kh(Df:Def K mg "is_tree" Rt)(B:Uy mg)(C_ties_of:Xf P w K mg base "ties_of" (["web"]:List ah) (YY K Y3 1) 1)(C_pieces_of:Xf P w K mg base "pieces_of" (["web","ties","grove"]:List ah) (YY K YS 3) 1):Xf P w K mg base "is_tree" (["web","numbers"]:List ah) (YY K WZ 2) 2:=
 Z6 (O:=[]) (k:=1) 3 Tb Df sc_is_tree (λ_ _ _ _ _ _ us hl=>match us,hl with | [_,_],_=>rfl) rfl rfl (by decide) (λfa cdv A outer s H E hr=>
  (Zg (Zo (i:=2) sc_is_tree.nd rfl (iG rfl) (Zs C_ties_of (hr.mono (by decide)) rfl (Zb (Zc (pv 0)) Zh)))
  (Zg (Xh (VW.vt (Ja (RJ hr.units (Zu ZM Ym rfl B.len (by decide +kernel) (Zb (Zc (pv 1)) Zh)) (Ww (Zu ZM Ym rfl B.len (by decide +kernel) (Zb (Zc (pv 0)) Zh)) Zi)) (OU (V1 (VZ (Zu (P8 rfl) Gy rfl B.all (by decide +kernel) (Zb (WO (["number"]:List ah) (["ties"]:List ah) [2] rfl (Lw (Zc (pv 1))) (by kernel_rfl) (λ_ _ _ _ _=>(Zv (i:=0) (show((["number"]:List ah)++(["ties"]:List ah)).Nodup by decide +kernel) rfl (ay rfl) (.inr rfl))) (λ_ _ _ _ _=>Wm) (λ_ _ _ _ _=>(GI DS KR (Lo _) (Lo _) Zi (Zc (pv 0)) (Zu ZM Ym rfl B.len (by decide +kernel) (Zb (Zc (pv 1)) Zh))))) Zh))))))) (Zj (ZS (VE.pure Oc))) Z5)
  (Zj (ZS (VE.pure (TN (Tx hr.units (VM.ve (Ik OM Gw rfl B.list (by decide +kernel) (Zb (Zc (pv 1)) Zh))) (VM.ve (VW.vm_sortedSetN rfl rfl B.sorted rfl B.set (Zc (pv 1))))) (S6 (Tx hr.units (VM.ve (VW.ve_lenSet rfl rfl B.len rfl B.set (VM.ve (Zs C_pieces_of (hr.mono (by decide)) rfl (Zb (Zc (pv 0)) (Zb (Zc (pv 2)) (Zb (Zc (pv 1)) Zh))))))) Zi)))))))))
abbrev T2:cO:=Td 29
theorem MA:Zz (["web","base","tree"]:List ah) (["web","base","tree"]:List ah) (Zm T2):=⟨rfl,rfl,rfl,by decide +kernel,rfl,by decide +kernel,by decide +kernel⟩
theorem MB(Df:Def K mg "still_of" T2)(B:Uy mg)(C_is_tree:Xf P w K mg base "is_tree" (["web","numbers"]:List ah) (YY K WZ 2) 2)(C_still_by:Xf P w K mg base "still_by" (["web","base","tree"]:List ah) (YY K Wh 3) 3):Xf P w K mg base "still_of" (["web","base","tree"]:List ah) (YY K Wi 3) 4:=
 Z6 (O:=[]) (k:=3) 3 Uc Df MA (λ_ _ _ _ _ _ us hl=>match us,hl with | [_,_,_],_=>rfl) rfl rfl (by decide) (λfa cdv A outer s H E hr=>
  (Zg (Xh (V1 (VZ (VM.ve (Zs C_is_tree (hr.mono (by decide)) rfl (Zb (Zc (pv 0)) (Zb (Zc (pv 2)) Zh)))))) (Zj (QO (W:=[]))) Z5)
  (Zj (ZS (Zs C_still_by (hr.mono (by decide)) rfl (Zb (Zc (pv 0)) (Zb (Zc (pv 1)) (Zb (Zc (pv 2)) Zh))))))))
abbrev UT:cO:=Td 34
theorem sc_l_renamed:Zz (["_law_found","_law_cell_here","_law_many","_law_names","_law_house","_law_told","_law_one","_law_other","_law_pair"]:List ah) (["_law_found","_law_cell_here","_law_many"]:List ah) (Zm UT):=⟨rfl,rfl,rfl,by decide +kernel,rfl,by decide +kernel,by decide +kernel⟩
theorem Np(Df:Def K mg "_law_renamed" UT)(B:Uy mg):Xf P w K mg base "_law_renamed" (["_law_found","_law_cell_here","_law_many"]:List ah) (YY K Vo 3) 1:=
 Z6 (O:=[3,5]) (k:=0) 9 Vn Df sc_l_renamed (λ_ _ _ _ _ _ us hl=>match us,hl with | [_,_,_],_=>rfl) rfl rfl (by decide) (λfa cdv A outer s H E hr=>
  (Zg (Zo (i:=3) sc_l_renamed.nd rfl (ay rfl) (XZ Xc))
  (Zg (YF bG rfl (YE rfl B.range (Zb (Zc (pv 2)) Zh)) (Zv (i:=4) sc_l_renamed.nd rfl (ay rfl)) (Zg (Oj (Xb (W5 bW kG kH P9 (pv 3) (ZW (Y6 (Zc (pv 1)) (Y5 (Zc (pv 4)) Zi)) (ZW (Zc (pv 4)) YU)))))
  (Zj (Zo (i:=1) sc_l_renamed.nd rfl (ay rfl) (VE.pure (WI (Zc (pv 1)) (Y5 (Zc (pv 4)) Zi)))))))
  (Zg (Zo (i:=5) sc_l_renamed.nd rfl (ay rfl) Qr)
  (Zg (Jq (OI bG rfl (OQ (pv 0)) (Uu (n:=2) rfl (Yh (Zv (i:=6) sc_l_renamed.nd rfl (ay rfl)) (Yh (Zv (i:=7) sc_l_renamed.nd rfl (ay rfl)) Vg))) (Zg (Zo (i:=8) sc_l_renamed.nd rfl (ay rfl) (VE.pure (Wx (Zb (Zu (SU rfl) OX rfl B.min (by decide +kernel) (Zb (Zq (Zc (pv 3)) (Zc (pv 6))) (Zb (Zq (Zc (pv 3)) (Zc (pv 7))) Zh))) (Zb (Zu (PR rfl) Jc rfl B.max (by decide +kernel) (Zb (Zq (Zc (pv 3)) (Zc (pv 6))) (Zb (Zq (Zc (pv 3)) (Zc (pv 7))) Zh))) Zh)))))
  (Zj (R4 (RZ (RH hr) (pv 5) (Zc (pv 8)) (O2 (RH hr) (Zc (pv 0)) (Wx (Zb (Zc (pv 6)) (Zb (Zc (pv 7)) Zh)))) rfl))))))
  (Zj (U3 (pv 5))))))))
abbrev Vd:cO:=Td 35
theorem sc_l_read_times:Zz (["_law_rest","_law_many","_law_room","_law_most","_law_found","_law_met","_law_one","_law_other","_law_deep","_law_turn"]:List ah) (["_law_rest","_law_many","_law_room","_law_most"]:List ah) (Zm Vd):=⟨rfl,rfl,rfl,by decide +kernel,rfl,by decide +kernel,by decide +kernel⟩
theorem RX(Df:Def K mg "_law_read_times" Vd)(B:Uy mg):Xf P w K mg base "_law_read_times" (["_law_rest","_law_many","_law_room","_law_most"]:List ah) (YY K YI 4) 1:=
 Z6 (O:=[4,5]) (k:=0) 10 X4 Df sc_l_read_times (λ_ _ _ _ _ _ us hl=>match us,hl with | [_,_,_,_],_=>rfl) rfl rfl (by decide) (λfa cdv A outer s H E hr=>
  (Zg (Zo (i:=4) sc_l_read_times.nd rfl (ay rfl) Qr)
  (Zg (Zo (i:=5) sc_l_read_times.nd rfl (ay rfl) (XZ (Xw (VE.pure Zi) Xc)))
  (Zg (YF bG rfl (YE rfl B.range (Zb (Zc (pv 1)) Zh)) (Zv (i:=6) sc_l_read_times.nd rfl (ay rfl)) (Zj (YF bG rfl (WX rfl B.range (Zb (Y5 (Zc (pv 6)) Zi) (Zb (Zc (pv 1)) Zh))) (Zv (i:=7) sc_l_read_times.nd rfl (ay rfl)) (Zg (Zo (i:=8) sc_l_read_times.nd rfl (ay rfl) (VE.pure (Zu (SU rfl) OX rfl B.min (by decide +kernel) (Zb (C3 (Y6 (Zc (pv 0)) Zi) (Y5 Zi (Y6 (WI (Zc (pv 0)) Zi) (Zc (pv 3))))) (Zb (Zc (pv 2)) Zh)))))
  (Zg (Zo (i:=0) sc_l_read_times.nd rfl (ay rfl) (VE.pure (Zq (Wy (Zb (WI (Zc (pv 0)) Zi) (Zb (WI (WI (Zc (pv 0)) Zi) (Zc (pv 3))) Zh))) (Y6 (Zc (pv 0)) Zi))))
  (Zj (Xh (Az (Zc (pv 8)) Zi) (Zg (R4 (RZ (RH hr) (pv 4) (Wx (Zb (Zc (pv 6)) (Zb (Zc (pv 7)) Zh))) (Zc (pv 8)) rfl))
  (Zj (Zo (i:=2) sc_l_read_times.nd rfl (ay rfl) (VE.pure (Ww (Zc (pv 2)) (Zc (pv 8))))))) Z5)))))))
  (Zg (YF bG rfl (YE rfl B.range (Zb (Zc (pv 1)) Zh)) (Zv (i:=9) sc_l_read_times.nd rfl (ay rfl)) (Zj (GK (O':=[5]) (OI bG rfl (OQ (pv 4)) (Uu (n:=2) rfl (Yh (Zv (i:=6) sc_l_read_times.nd rfl (ay rfl)) (Yh (Zv (i:=7) sc_l_read_times.nd rfl (ay rfl)) Vg))) (Zg (Xh (VW.vt (V0 (N4 hr.units (Zc (pv 6)) (Zc (pv 5))) (WL (VD hr.units (Zc (pv 7)) (Zc (pv 5)))))) (Zj (Y1 (Xb (W5 bW bx bz Y0 (pv 5) (ZW (VE.pure (Zc (pv 7))) YU))))) Z5)
  (Zj (Xh (VW.vt (V0 (N4 hr.units (Zc (pv 7)) (Zc (pv 5))) (WL (VD hr.units (Zc (pv 6)) (Zc (pv 5)))))) (Zj (Y1 (Xb (W5 bW bx bz Y0 (pv 5) (ZW (VE.pure (Zc (pv 6))) YU))))) Z5)))) (by decide) (by intro j;simp;try omega))))
  (Zj (Iw (KZ ix_list (Lf (ZW HU (ZW (pv 4) YU))) (XH PU Jd rfl B.int (by decide +kernel) (Zb (Tx hr.units (Zu ZM Ym rfl B.len (by decide +kernel) (Zb (Zc (pv 5)) Zh)) (Zc (pv 1))) Zh)) (λ_ _=>rfl)))))))))
abbrev T3:cO:=Td 36
theorem sc_l_timesN:Zz (["_law_script","_law_at","_law_many","_law_first","_law_found","_law_room","_law_house","_law_cell_here","_law_deep","_law_k","_law_one","_law_other"]:List ah) (["_law_script","_law_at","_law_many"]:List ah) (Zm T3):=⟨rfl,rfl,rfl,by decide +kernel,rfl,by decide +kernel,by decide +kernel⟩
theorem MC(Df:Def K mg "_law_times" T3)(B:Uy mg)(C_l_cell:Xf P w K mg base "_law_cell" (["_law_script","_law_k"]:List ah) (YY K Zr 2) 1)(C_l_read_times:Xf P w K mg base "_law_read_times" (["_law_rest","_law_many","_law_room","_law_most"]:List ah) (YY K YI 4) 1)(C_l_renamed:Xf P w K mg base "_law_renamed" (["_law_found","_law_cell_here","_law_many"]:List ah) (YY K Vo 3) 1):Xf P w K mg base "_law_times" (["_law_script","_law_at","_law_many"]:List ah) (YY K Xj 3) 2:=
 Z6 (O:=[4]) (k:=1) 12 Ud Df sc_l_timesN (λ_ _ _ _ _ _ us hl=>match us,hl with | [_,_,_],_=>rfl) rfl rfl (by decide) (λfa cdv A outer s H E hr=>
  (Zg (Zo (i:=3) sc_l_timesN.nd rfl (ay rfl) (Zs C_l_cell (hr.mono (by decide)) rfl (Zb (Zc (pv 0)) (Zb (Zc (pv 1)) Zh))))
  (Zg (Xh (VW.vt (V0 (Jn hr.units (Y6 (Zc (pv 3)) Zi) Zi) (WL (R0 (VM.ve (Zs C_l_read_times (hr.mono (by decide)) rfl (Zb (WI (Zc (pv 3)) Zi) (Zb (Zc (pv 2)) (Zb Zi (Zb Zi Zh)))))))))) (Zj (ZS (Zs C_l_read_times (hr.mono (by decide)) rfl (Zb (WI (Zc (pv 3)) Zi) (Zb (Zc (pv 2)) (Zb Zi (Zb Zi Zh))))))) Z5)
  (Zg (Zo (i:=4) sc_l_timesN.nd rfl (ay rfl) Qr)
  (Zg (Zo (i:=5) sc_l_timesN.nd rfl (ay rfl) (VE.pure Zi))
  (Zg (YF bG rfl (WX rfl B.range (Zb Zi (Zb (Zc (pv 2)) Zh))) (Zv (i:=6) sc_l_timesN.nd rfl (ay rfl)) (Zg (Zo (i:=7) sc_l_timesN.nd rfl (ay rfl) (Zs C_l_cell (hr.mono (by decide)) rfl (Zb (Zc (pv 0)) (Zb (Y5 (Zc (pv 1)) (Zc (pv 6))) Zh))))
  (Zg (Zo (i:=8) sc_l_timesN.nd rfl (ay rfl) (VE.pure (Zu (SU rfl) OX rfl B.min (by decide +kernel) (Zb (Zq (Wy (Zb Zi (Zb Zi (Zb Zi (Zb Zi (Zb Zi (Zb Zi Zh))))))) (Y6 (WI (Zc (pv 7)) (Zc (pv 6))) Zi)) (Zb (Ww (Zc (pv 5)) (Ww (Ww (Zc (pv 2)) Zi) (Zc (pv 6)))) Zh)))))
  (Zg (R4 (RZ (RH hr) (pv 4) (Wx (Zb (Y6 (Zc (pv 7)) (Zc (pv 6))) (Zb (Zc (pv 6)) Zh))) (Zc (pv 8)) rfl))
  (Zj (Zo (i:=5) sc_l_timesN.nd rfl (ay rfl) (VE.pure (Ww (Zc (pv 5)) (Zc (pv 8))))))))))
  (Zg (Zo (i:=9) sc_l_timesN.nd rfl (ay rfl) (VE.pure (Y5 (Zc (pv 1)) Zi)))
  (Zg (YF bG rfl (YE rfl B.range (Zb (Zc (pv 2)) Zh)) (Zv (i:=10) sc_l_timesN.nd rfl (ay rfl)) (Zj (YF bG rfl (WX rfl B.range (Zb (Y5 (Zc (pv 10)) Zi) (Zb (Zc (pv 2)) Zh))) (Zv (i:=11) sc_l_timesN.nd rfl (ay rfl)) (Zg (Zo (i:=8) sc_l_timesN.nd rfl (ay rfl) (VE.pure (Zq (Wy (Zb Zi (Zb Zi (Zb Zi (Zb Zi (Zb Zi (Zb Zi (Zb Zi Zh)))))))) (Y6 (VM.ve (Zs C_l_cell (hr.mono (by decide)) rfl (Zb (Zc (pv 0)) (Zb (Zc (pv 9)) Zh)))) Zi))))
  (Zg (Zo (i:=9) sc_l_timesN.nd rfl (ay rfl) (VE.pure (Y5 (Zc (pv 9)) Zi)))
  (Zj (Xh (VW.vt (V0 (Iv (RH hr) (Wx (Zb (Zc (pv 10)) (Zb (Zc (pv 11)) Zh))) (Zc (pv 4))) (WL (GJ KR DS (Lo _) (Lo _) Zi (Zc (pv 8)) (Zc (pv 5)))))) (Zg (R4 (RZ (RH hr) (pv 4) (Wx (Zb (Zc (pv 10)) (Zb (Zc (pv 11)) Zh))) (Zc (pv 8)) rfl))
  (Zj (Zo (i:=5) sc_l_timesN.nd rfl (ay rfl) (VE.pure (Ww (Zc (pv 5)) (Zc (pv 8))))))) Z5)))))))
  (Zj (ZS (Zs C_l_renamed (hr.mono (by decide)) rfl (Zb (Zc (pv 4)) (Zb (WI (VM.ve (Zs C_l_cell (hr.mono (by decide)) rfl (Zb (Zc (pv 0)) (Zb (Zc (pv 1)) Zh)))) Zi) (Zb (Zc (pv 2)) Zh))))))))))))))
abbrev Ug:cO:=Td 40
theorem sc_l_all_burn:Zz (["_law_web","_law_purse_here","_law_base","_law_lit","_law_turn","_law_house","_law_near"]:List ah) (["_law_web","_law_purse_here","_law_base"]:List ah) (Zm Ug):=⟨rfl,rfl,rfl,by decide +kernel,rfl,by decide +kernel,by decide +kernel⟩
theorem PF(Df:Def K mg "_law_all_burn" Ug)(B:Uy mg):Xf P w K mg base "_law_all_burn" (["_law_web","_law_purse_here","_law_base"]:List ah) (YY K X6 3) 1:=
 Z6 (O:=[3]) (k:=0) 7 WU Df sc_l_all_burn (λ_ _ _ _ _ _ us hl=>match us,hl with | [_,_,_],_=>rfl) rfl rfl (by decide) (λfa cdv A outer s H E hr=>
  (Zg (Zo (i:=3) sc_l_all_burn.nd rfl (ay rfl) (XZ (Xw (VE.pure (Zc (pv 2))) Xc)))
  (Zg (YF bG rfl (YE rfl B.range (Zb (Zu ZM Ym rfl B.len (by decide +kernel) (Zb (Zc (pv 0)) Zh)) Zh)) (Zv (i:=4) sc_l_all_burn.nd rfl (ay rfl)) (Zj (YF bG rfl (YE rfl B.range (Zb (Zu ZM Ym rfl B.len (by decide +kernel) (Zb (Zc (pv 0)) Zh)) Zh)) (Zv (i:=5) sc_l_all_burn.nd rfl (iG rfl)) (Zg (Zo (i:=6) sc_l_all_burn.nd rfl (ay rfl) (VE.pure (Zu (UZ rfl) OW rfl B.sum (by decide +kernel) (Zb (WO (["_law_other"]:List ah) (["_law_web","_law_house"]:List ah) [0,5] rfl (WN (Zc (pv 3))) (by kernel_rfl) (λ_ _ _ _ _=>(Zv (i:=0) (show((["_law_other"]:List ah)++(["_law_web","_law_house"]:List ah)).Nodup by decide +kernel) rfl (ay rfl) (.inr rfl))) (λ_ _ _ _ _=>Wm) (λ_ _ _ _ _=>(Zq (Zq (Zc (pv 1)) (Zc (pv 2))) (Zc (pv 0))))) Zh))))
  (Zj (Xh (VW.vt (V0 (VD hr.units (Zc (pv 5)) (Zc (pv 3))) (WL (NW (Zq (Zc (pv 1)) (Zc (pv 5))) (Zc (pv 6)))))) (Zj (Y1 (Xb (W5 bW bx bz Y0 (pv 3) (ZW (VE.pure (Zc (pv 5))) YU))))) Z5))))))
  (Zj (ZS (VE.pure (Tx hr.units (Zu ZM Ym rfl B.len (by decide +kernel) (Zb (Zc (pv 3)) Zh)) (Zu ZM Ym rfl B.len (by decide +kernel) (Zb (Zc (pv 0)) Zh)))))))))
abbrev UU:cO:=Td 41
theorem sc_n_settled:Zz (["_law_web","_law_purse_here","_law_base","_law_rest"]:List ah) (["_law_web","_law_purse_here","_law_base"]:List ah) (Zm UU):=⟨rfl,rfl,rfl,by decide +kernel,rfl,by decide +kernel,by decide +kernel⟩
theorem Nq(Df:Def K mg "_law_settled" UU)(B:Uy mg)(C_l_all_burn:Xf P w K mg base "_law_all_burn" (["_law_web","_law_purse_here","_law_base"]:List ah) (YY K X6 3) 1):Xf P w K mg base "_law_settled" (["_law_web","_law_purse_here","_law_base"]:List ah) (YY K Xk 3) 2:=
 Z6 (O:=[]) (k:=1) 4 Vr Df sc_n_settled (λ_ _ _ _ _ _ us hl=>match us,hl with | [_,_,_],_=>rfl) rfl rfl (by decide) (λfa cdv A outer s H E hr=>
  (Zg (Zo (i:=3) sc_n_settled.nd rfl (ay rfl) (VE.pure (Uz O8 O9 (VC (Zc (pv 1)) U2 (Vk (Zc (pv 2)))) (VC (Zc (pv 1)) (Vk (Y5 (Zc (pv 2)) Zi)) U2))))
  (Zg (Xh (NW (Du rfl rfl B.min (by decide +kernel) (Zc (pv 3))) Zi) (Zj (ZS (VE.pure Oc))) Z5)
  (Zj (ZS (Zs C_l_all_burn (hr.mono (by decide)) rfl (Zb (Zc (pv 0)) (Zb (Zc (pv 1)) (Zb (Zc (pv 2)) Zh)))))))))
abbrev Q1:cO:=Td 38
theorem sc_l_kind:Zz (["_law_e","_law_found"]:List ah) (["_law_e"]:List ah) (Zm Q1):=⟨rfl,rfl,rfl,by decide +kernel,rfl,by decide +kernel,by decide +kernel⟩
theorem Hr(Df:Def K mg "_law_kind" Q1)(B:Uy mg){Ca Cb:aM}(Q:VX.QN "NotSettled" K mg Ca Cb):Xf P w K mg base "_law_kind" (["_law_e"]:List ah) (YY K VP 1) 1:=
 Z6 (O:=[]) (k:=0) 2 SE Df sc_l_kind (λ_ _ _ _ _ _ us hl=>match us,hl with | [_],_=>rfl) rfl rfl (by decide) (λfa cdv A outer s H E hr=>
  (Zg (Zo (i:=1) sc_l_kind.nd rfl (ay rfl) (XZ (Xw (VE.pure (VM.ve (Vb Q rfl B.isinstance (Zc (pv 0)) (by decide) rfl))) (Xw (VE.pure (VM.ve (Vb Q rfl B.isinstance (Zc (pv 0)) (by decide) rfl))) (Xw (VE.pure (VM.ve (Vb Q rfl B.isinstance (Zc (pv 0)) (by decide) rfl))) (Xw (VE.pure (VM.ve (Vb Q rfl B.isinstance (Zc (pv 0)) (by decide) rfl))) Xc))))))
  (Zg (Zo (i:=1) sc_l_kind.nd rfl (ay rfl) (R5 (Zc (pv 1)) (Wy (Zb (VM.ve (Vb Q rfl B.isinstance (Zc (pv 0)) (by decide) rfl)) (Zb (VM.ve (Vb Q rfl B.isinstance (Zc (pv 0)) (by decide) rfl)) (Zb (VM.ve (Vb Q rfl B.isinstance (Zc (pv 0)) (by decide) rfl)) Zh))))))
  (Zg (Zo (i:=1) sc_l_kind.nd rfl (ay rfl) (R5 (Zc (pv 1)) (Wy (Zb (VM.ve (Vb Q rfl B.isinstance (Zc (pv 0)) (by decide) rfl)) (Zb (VM.ve (Vb Q rfl B.isinstance (Zc (pv 0)) (by decide) rfl)) (Zb (VM.ve (Vb Q rfl B.isinstance (Zc (pv 0)) (by decide) rfl)) (Zb (VM.ve (Vb Q rfl B.isinstance (Zc (pv 0)) (by decide) rfl)) Zh)))))))
  (Zg (Xh (VW.vt (Ja (V1 (VZ (VM.ve (Dj Q rfl B.isinstance (Zc (pv 0)) rfl B.ValueError)))) (OU (RJ hr.units (IU (Zc (pv 1)) Oc) Zi)))) (Zj (ZS (VE.pure (Gv Zi)))) Z5)
  (Zj (ZS (VE.pure (IT (Zc (pv 1)) Oc)))))))))
abbrev UW:cO:=Td 46
theorem sc_l_refused:Zz (["_law_web","_law_base","_law_purse_here","_law_caught","_law_e"]:List ah) (["_law_web","_law_base","_law_purse_here"]:List ah) (Zm UW):=⟨rfl,rfl,rfl,by decide +kernel,rfl,by decide +kernel,by decide +kernel⟩
theorem Nr(Df:Def K mg "_law_refused" UW)(B:Uy mg)(C_tree_of:Xf P w K mg base "tree_of" (["web","base","purse"]:List ah) (YY K ZU 3) 5)(C_l_kind:Xf P w K mg base "_law_kind" (["_law_e"]:List ah) (YY K VP 1) 1){Ca Cb:aM}(Q:VX.QN "NotSettled" K mg Ca Cb)(X_tree_of:VX.CalX P w K mg base "tree_of" (["web","base","purse"]:List ah) (VX.spX K Xs 3) 5):Xf P w K mg base "_law_refused" (["_law_web","_law_base","_law_purse_here"]:List ah) (YY K Xl 3) 6:=
 Z6 (O:=[]) (k:=5) 5 Vs Df sc_l_refused (λ_ _ _ _ _ _ us hl=>match us,hl with | [_,_,_],_=>rfl) rfl rfl (by decide) (λfa cdv A outer s H E hr=>
  (Zg (Zo (i:=3) sc_l_refused.nd rfl (ay rfl) (VE.pure OT))
  (Zg (AO (Fs Q X_tree_of Nl (hr.mono (by decide)) rfl (Zb (Zc (pv 0)) (Zb (Zc (pv 1)) (Zb (Zc (pv 2)) Zh))) rfl rfl rfl sc_l_refused.nd rfl rfl rfl (λ_=>(Zj (Zo (i:=3) sc_l_refused.nd rfl (ay rfl) (VE.pure (Zc (pv 4)))))) (by decide)) (Di (Zj (AQ (VM.ve (Zs C_tree_of (hr.mono (by decide)) rfl (Zb (Zc (pv 0)) (Zb (Zc (pv 1)) (Zb (Zc (pv 2)) Zh)))))))))
  (Zj (ZS (VE.pure (TN (EN (Zc (pv 3))) (S6 (Tx hr.units (VM.ve (Zs C_l_kind (hr.mono (by decide)) rfl (Zb (Zc (pv 3)) Zh))) Zi)))))))))
abbrev Ru:cO:=Td 33
theorem Ki:Zz (["_law_thing"]:List ah) (["_law_thing"]:List ah) (Zm Ru):=⟨rfl,rfl,rfl,by decide +kernel,rfl,by decide +kernel,by decide +kernel⟩
theorem Kj(Df:Def K mg "_law_whole" Ru)(B:Uy mg):Xf P w K mg base "_law_whole" (["_law_thing"]:List ah) (YY K WY 1) 1:=
 Z6 (O:=[]) (k:=0) 1 Rb Df Ki (λ_ _ _ _ _ _ us hl=>match us,hl with | [_],_=>rfl) rfl rfl (by decide) (λfa cdv A outer s H E hr=>
  (Zj (ZS (VE.pure (TN (Zu Ux OY rfl B.isinstance (by decide +kernel) (Zb (Zc (pv 0)) (Zb (Gz rfl B.int (by decide +kernel)) Zh))) (S6 (C5 (Zu Ux OY rfl B.isinstance (by decide +kernel) (Zb (Zc (pv 0)) (Zb (Gz rfl B.bool (by decide +kernel)) Zh))))))))))
abbrev Rv:cO:=Td 39
theorem Kk:Zz (["_law_found","_law_many"]:List ah) (["_law_found","_law_many"]:List ah) (Zm Rv):=⟨rfl,rfl,rfl,by decide +kernel,rfl,by decide +kernel,by decide +kernel⟩
theorem Kl(Df:Def K mg "_law_tuple" Rv)(B:Uy mg)(C_l_whole:Xf P w K mg base "_law_whole" (["_law_thing"]:List ah) (YY K WY 1) 1):Xf P w K mg base "_law_tuple" (["_law_found","_law_many"]:List ah) (YY K Y4 2) 2:=
 Z6 (O:=[]) (k:=1) 2 Rc Df Kk (λ_ _ _ _ _ _ us hl=>match us,hl with | [_,_],_=>rfl) rfl rfl (by decide) (λfa cdv A outer s H E hr=>
  (Zj (ZS (VE.pure (TN (Zu Ux OY rfl B.isinstance (by decide +kernel) (Zb (Zc (pv 0)) (Zb (Gz rfl B.tuple (by decide +kernel)) Zh))) (TN (Tx hr.units (Zu ZM Ym rfl B.len (by decide +kernel) (Zb (Zc (pv 0)) Zh)) (Zc (pv 1))) (S6 (Zu (P8 rfl) Gy rfl B.all (by decide +kernel) (Zb (WO (["_law_number"]:List ah) ([]:List ah) [] rfl (Lw (Zc (pv 0))) (by kernel_rfl) (λ_ _ _ _ _=>(Zv (i:=0) (show((["_law_number"]:List ah)++([]:List ah)).Nodup by decide +kernel) rfl (ay rfl) (.inr rfl))) (λ_ _ _ _ _=>Wm) (λ_ _ _ _ _=>(VM.ve (Zs C_l_whole (hr.mono (by decide)) rfl (Zb (Zc (pv 0)) Zh))))) Zh)))))))))
abbrev Q2:cO:=Td 44
theorem sc_n_next:Zz (["_law_ties","_law_looked","_law_lit","_law_k"]:List ah) (["_law_ties","_law_looked","_law_lit"]:List ah) (Zm Q2):=⟨rfl,rfl,rfl,by decide +kernel,rfl,by decide +kernel,by decide +kernel⟩
theorem Hs(Df:Def K mg "_law_next" Q2)(B:Uy mg):Xf P w K mg base "_law_next" (["_law_ties","_law_looked","_law_lit"]:List ah) (YY K X7 3) 1:=
 Z6 (O:=[]) (k:=0) 4 SF Df sc_n_next (λ_ _ _ _ _ _ us hl=>match us,hl with | [_,_,_],_=>rfl) rfl rfl (by decide) (λfa cdv A outer s H E hr=>
  (Zg (YF bG rfl (YE rfl B.range (Zb (Zu ZM Ym rfl B.len (by decide +kernel) (Zb (Zc (pv 0)) Zh)) Zh)) (Zv (i:=3) sc_n_next.nd rfl (ay rfl)) (Zj (Xh (VW.vt (V0 (VD hr.units (Zc (pv 3)) (Zc (pv 1))) (WL (RJ hr.units (Om hr.units (Zq (Zq (Zc (pv 0)) (Zc (pv 3))) Zi) (Zc (pv 2))) (Om hr.units (Zq (Zq (Zc (pv 0)) (Zc (pv 3))) Zi) (Zc (pv 2))))))) (Zj (ZS (VE.pure (Zc (pv 3))))) Z5)))
  (Zj (ZS (VE.pure OT)))))
abbrev Ve:cO:=Td 45
theorem sc_l_burnt_ties:Zz (["_law_web","_law_base","_law_purse_here","_law_ties","_law_one","_law_other","_law_lit","_law_looked","_law_tree","_law_k","_law_house","_law_heat"]:List ah) (["_law_web","_law_base","_law_purse_here"]:List ah) (Zm Ve):=⟨rfl,rfl,rfl,by decide +kernel,rfl,by decide +kernel,by decide +kernel⟩
theorem RY(Df:Def K mg "_law_burnt_ties" Ve)(B:Uy mg)(C_n_next:Xf P w K mg base "_law_next" (["_law_ties","_law_looked","_law_lit"]:List ah) (YY K X7 3) 1):Xf P w K mg base "_law_burnt_ties" (["_law_web","_law_base","_law_purse_here"]:List ah) (YY K Yr 3) 2:=
 Z6 (O:=[6,7,8]) (k:=1) 12 X8 Df sc_l_burnt_ties (λ_ _ _ _ _ _ us hl=>match us,hl with | [_,_,_],_=>rfl) rfl rfl (by decide) (λfa cdv A outer s H E hr=>
  (Zg (Zo (i:=3) sc_l_burnt_ties.nd rfl (iG rfl) (XZ Xc))
  (Zg (YF bG rfl (YE rfl B.range (Zb (Zu ZM Ym rfl B.len (by decide +kernel) (Zb (Zc (pv 0)) Zh)) Zh)) (Zv (i:=4) sc_l_burnt_ties.nd rfl (ay rfl)) (Zj (YF bG rfl (WX rfl B.range (Zb (Y5 (Zc (pv 4)) Zi) (Zb (Zu ZM Ym rfl B.len (by decide +kernel) (Zb (Zc (pv 0)) Zh)) Zh))) (Zv (i:=5) sc_l_burnt_ties.nd rfl (ay rfl)) (Zj (Zo (i:=3) sc_l_burnt_ties.nd rfl (iG rfl) (R5 (Zc (pv 3)) (VM.ve (O3 (Wy (Zb (Wx (Zb (Zc (pv 4)) (Zb (Zc (pv 5)) Zh))) Zh)) (Zq (Zq (Zc (pv 0)) (Zc (pv 4))) (Zc (pv 5)))))))))))
  (Zg (Zo (i:=6) sc_l_burnt_ties.nd rfl (ay rfl) (XZ (Xw (VE.pure (Zc (pv 1))) Xc)))
  (Zg (Zo (i:=7) sc_l_burnt_ties.nd rfl (ay rfl) (XZ Xc))
  (Zg (Zo (i:=8) sc_l_burnt_ties.nd rfl (ay rfl) (XZ Xc))
  (Zg (Zo (i:=9) sc_l_burnt_ties.nd rfl (ay rfl) (Zs C_n_next (hr.mono (by decide)) rfl (Zb (Zc (pv 3)) (Zb (Zc (pv 7)) (Zb (Zc (pv 6)) Zh)))))
  (Zg (Qz bG (R0 (Zc (pv 9))) (Zg (Y1 (Xb (W5 bW bx bz Y0 (pv 7) (ZW (VE.pure (Zc (pv 9))) YU))))
  (Zg (Zo (i:=10) sc_l_burnt_ties.nd rfl (iG rfl) (VE.pure (Zq (Wy (Zb (Zq (Zq (Zc (pv 3)) (Zc (pv 9))) Zi) (Zb (Zq (Zq (Zc (pv 3)) (Zc (pv 9))) Zi) Zh))) (XH PU Jd rfl B.int (by decide +kernel) (Zb (Om hr.units (Zq (Zq (Zc (pv 3)) (Zc (pv 9))) Zi) (Zc (pv 6))) Zh)))))
  (Zg (Zo (i:=11) sc_l_burnt_ties.nd rfl (ay rfl) (VE.pure (Zu ZM Ym rfl B.len (by decide +kernel) (Zb (WO (["_law_j"]:List ah) (["_law_house","_law_ties"]:List ah) [10,3] rfl (WN (Zc (pv 7))) (by kernel_rfl) (λ_ _ _ _ _=>(Zv (i:=0) (show((["_law_j"]:List ah)++(["_law_house","_law_ties"]:List ah)).Nodup by decide +kernel) rfl (ay rfl) (.inr rfl))) (λ_ _ _ _ _=>(OZ (N4 hr.units (Zc (pv 1)) (Zq (Zc (pv 2)) (Zc (pv 0)))))) (λ_ _ _ _ _=>(Zc (pv 0)))) Zh))))
  (Zg (Xh (NW (Zq (Zc (pv 2)) (Zc (pv 10))) (Zc (pv 11))) (Zg (Y1 (Xb (W5 bW bx bz Y0 (pv 6) (ZW (VE.pure (Zc (pv 10))) YU))))
  (Zj (Y1 (Xb (W5 bW bx bz Y0 (pv 8) (ZW (VE.pure (Zc (pv 9))) YU)))))) Z5)
  (Zj (Zo (i:=9) sc_l_burnt_ties.nd rfl (ay rfl) (Zs C_n_next (hr.mono (by decide)) rfl (Zb (Zc (pv 3)) (Zb (Zc (pv 7)) (Zb (Zc (pv 6)) Zh)))))))))))
  (Zj (ZS (VE.pure (XH YZ VB rfl B.tuple (by decide +kernel) (Zb (VM.ve (NZ Ss QM rfl B.sorted (by decide +kernel) (Zb (Zc (pv 8)) Zh))) Zh)))))))))))))
abbrev Fw:cO:=Td 47
theorem sc_law:Zz (["_law_script","_law_many","_law_web","_law_base","_law_purse_here","_law_tree","_law_still","_law_found"]:List ah) (["_law_script"]:List ah) (Zm Fw):=⟨rfl,rfl,rfl,by decide +kernel,rfl,by decide +kernel,by decide +kernel⟩
theorem Bu{ff:aM}{fd:fX}(Fn:Fun K "law" "law" Fw ff fd)(B:Uy mg)(C_l_cell:Xf P w K mg base "_law_cell" (["_law_script","_law_k"]:List ah) (YY K Zr 2) 1)(C_l_square:Xf P w K mg base "_law_square" (["_law_times_here","_law_many"]:List ah) (YY K XC 2) 1)(C_l_timesN:Xf P w K mg base "_law_times" (["_law_script","_law_at","_law_many"]:List ah) (YY K Xj 3) 2)(C_n_purse:Xf P w K mg base "_law_purse" (["_law_script","_law_web","_law_base"]:List ah) (YY K W0 3) 3)(C_n_settled:Xf P w K mg base "_law_settled" (["_law_web","_law_purse_here","_law_base"]:List ah) (YY K Xk 3) 2)(C_l_refused:Xf P w K mg base "_law_refused" (["_law_web","_law_base","_law_purse_here"]:List ah) (YY K Xl 3) 6)(C_tree_of:Xf P w K mg base "tree_of" (["web","base","purse"]:List ah) (YY K ZU 3) 5)(C_l_burnt_ties:Xf P w K mg base "_law_burnt_ties" (["_law_web","_law_base","_law_purse_here"]:List ah) (YY K Yr 3) 2)(C_l_tuple:Xf P w K mg base "_law_tuple" (["_law_found","_law_many"]:List ah) (YY K Y4 2) 2)(C_still_of:Xf P w K mg base "still_of" (["web","base","tree"]:List ah) (YY K Wi 3) 4):SV P w K mg base Lk 7 ff fd (["_law_script"]:List ah) (YY K D_law 1):=
 C9 (O:=[]) (k:=6) 8 JK Fn sc_law rfl rfl (by decide) (λfa cdv A outer s H E hr=>
  (Zg (Zo (i:=1) sc_law.nd rfl (ay rfl) (VE.pure (Y5 Zi (Y6 (VM.ve (Zs C_l_cell (hr.mono (by decide)) rfl (Zb (Zc (pv 0)) (Zb Zi Zh)))) Zi))))
  (Zg (Zo (i:=2) sc_law.nd rfl (ay rfl) (Zs C_l_square (hr.mono (by decide)) rfl (Zb (VM.ve (Zs C_l_timesN (hr.mono (by decide)) rfl (Zb (Zc (pv 0)) (Zb Zi (Zb (Zc (pv 1)) Zh))))) (Zb (Zc (pv 1)) Zh))))
  (Zg (Zo (i:=3) sc_law.nd rfl (ay rfl) (VE.pure (Y6 (VM.ve (Zs C_l_cell (hr.mono (by decide)) rfl (Zb (Zc (pv 0)) (Zb Zi Zh)))) (Zc (pv 1)))))
  (Zg (Zo (i:=4) sc_law.nd rfl (ay rfl) (Zs C_n_purse (hr.mono (by decide)) rfl (Zb (Zc (pv 0)) (Zb (Zc (pv 2)) (Zb (Zc (pv 3)) Zh)))))
  (Zg (Xh (V1 (VZ (VM.ve (Zs C_n_settled (hr.mono (by decide)) rfl (Zb (Zc (pv 2)) (Zb (Zc (pv 4)) (Zb (Zc (pv 3)) Zh))))))) (Zj (ZS (Zs C_l_refused (hr.mono (by decide)) rfl (Zb (Zc (pv 2)) (Zb (Zc (pv 3)) (Zb (Zc (pv 4)) Zh)))))) Z5)
  (Zg (Zo (i:=5) sc_law.nd rfl (ay rfl) (Zs C_tree_of (hr.mono (by decide)) rfl (Zb (Zc (pv 2)) (Zb (Zc (pv 3)) (Zb (Zc (pv 4)) Zh)))))
  (Zg (Xh (VW.vt (Ja (V1 (VZ (VM.ve (Zs C_l_tuple (hr.mono (by decide)) rfl (Zb (Zc (pv 5)) (Zb (Ww (Zc (pv 1)) Zi) Zh)))))) (OU (RJ hr.units (Zc (pv 5)) (VM.ve (Zs C_l_burnt_ties (hr.mono (by decide)) rfl (Zb (Zc (pv 2)) (Zb (Zc (pv 3)) (Zb (Zc (pv 4)) Zh))))))))) (Zj (ZS (VE.pure Oc))) Z5)
  (Zg (Zo (i:=6) sc_law.nd rfl (ay rfl) (VE.pure (Uz O8 O9 (Uz O8 O9 (VC (Zc (pv 4)) U2 (Vk (Zc (pv 3)))) (Wx (Zb Zi Zh))) (VC (Zc (pv 4)) (Vk (Y5 (Zc (pv 3)) Zi)) U2))))
  (Zg (Zo (i:=7) sc_law.nd rfl (ay rfl) (Zs C_still_of (hr.mono (by decide)) rfl (Zb (Zc (pv 2)) (Zb (Zc (pv 3)) (Zb (Zc (pv 5)) Zh)))))
  (Zg (Xh (VW.vt (Ja (V1 (VZ (VM.ve (Zs C_l_tuple (hr.mono (by decide)) rfl (Zb (Zc (pv 7)) (Zb (Zc (pv 1)) Zh)))))) (OU (RJ hr.units (Zc (pv 7)) (Zc (pv 6)))))) (Zj (ZS (VE.pure Oc))) Z5)
  (Zj (ZS (VE.pure (TN (Tx hr.units (VM.ve (Zs C_tree_of (hr.mono (by decide)) rfl (Zb (Zc (pv 2)) (Zb (Zc (pv 3)) (Zb (Zc (pv 6)) Zh))))) (Zc (pv 5))) (S6 (Tx hr.units (VM.ve (Zs C_tree_of (hr.mono (by decide)) rfl (Zb (Zc (pv 2)) (Zb (Zc (pv 3)) (Zb (Zc (pv 4)) Zh))))) (Zc (pv 5)))))))))))))))))))
end
end PW
namespace PW
open L2 VL
theorem Fx(l:List PV)(lo hi:Option Int):(V5 l lo hi).length<=l.length:=by unfold V5;rw[bp,bq];omega
theorem Ht(ns:List Int)(k:Nat):Ts (V5 (iL ns) (aA (k:Int)) (aA ((k:Int)+1))++[PV.int 0]) 0=aA (.int (ZL ns k)):=by
 have e1:((k:Int)+1)=((k+1:Nat):Int):=by omega
 rw[e1];refine WG (j:=0) ?_;unfold V5;rw[HT.sIx_nat,HT.sIx_nat,aH];by_cases h:k<ns.length
 ·rw[hV (by omega),hV (by omega),show k+1-k=1 by omega];rw[List.drop_eq_getElem_cons (by rw[aH];exact h)];simp[ZL,aL,aG h]
 ·rw[iZ (by omega),gG (by rw[aH];omega)];simp[ZL,aL,eX (Nat.not_lt.mp h)]
theorem Vt{ns:List Int}(h:ns.length<=63)(k:Nat):Zr [.cst (iL ns),.int (k:Int)]=aA (.int (ZL ns k)):=by
 have hl:=Fx (iL ns) (aA (k:Int)) (aA ((k:Int)+1));rw[aH] at hl;have hp:ZC (V5 (iL ns) (aA (k:Int)) (aA ((k:Int)+1)))=aD:=Io _ _ (Yd ns);have c:(V5 (iL ns) (aA (k:Int)) (aA ((k:Int)+1))).length+1<=10000:=by omega
 simp[Zr,QK,Xi,Y9,VR,O0,Vm,hp,c,Ht]
theorem Fy(i:Int):WY [.int i]=aA (.bl aD):=by simp[WY,Rb,Xi,Y9]
theorem JL(l:List Int):Vi (iL l)=(aS l.length).map λ(i:Nat)=>.tup [.int (i:Int),.int (ZL l i)]:=by rw[UM,aH];apply bO;intro i hi;rw[EZ l i (bR.mp hi)]
theorem MD{l:List Int}(hl:l.length<=1000):Y4 [pP l,.int (l.length:Int)]=aA (.bl aD):=by
 have hc:ZA 1 [] (S7 (Za 0)) (.one 0) ZZ (Zd WY [Za 0]) [aA (pP l),aA (.int (l.length:Int))]=aA (.lst (bL (l.map λ_=>aD))):=by rw[Y2 l PV.int (λ_=>.bl aD) (N8 (by simp)) (by omega) (λi hi=>⟨_,rfl,rfl,by simp[compEnv,Fy]⟩)];simp
 have ha:OV [.lst (bL (l.map λ_=>aD))]=aA (.bl aD):=by rw[GQ];simp
 simp[Y4,Rc,Xi,Y9,hc,ha,-bQ]
def X9(W:List (List Int))(a b:Nat):List (List Int):=(aS (XQ W a b).toNat).map λ(t:Nat)=>[(a:Int),(b:Int),(t:Int)]
def Um(W:List (List Int))(a:Nat):List (List Int):=(aS (W.length-(a+1))).flatMap λj=>X9 W a (a+1+j)
def YL(W:List (List Int)):List (List Int):=(aS W.length).flatMap (Um W)
theorem Yv{α:Type}(f:Nat->List α)(i:Nat):(aS (i+1)).flatMap f=(aS i).flatMap f++f i:=by rw[List.range_succ,List.flatMap_append];simp
theorem Km{W:List (List Int)}(ok:ZV W){a b:Nat}(ha:a<W.length)(hb:b<W.length):(X9 W a b).length<=9:=by have:=ok.hi a b ha hb;unfold X9;simp;omega
theorem Hu{W:List (List Int)}(ok:ZV W){a b:Nat}(ha:a<W.length)(hb:b<W.length)(t:Option PV):ZA 1 [2,4] (ZG [Zf Zn (Za 3) (Za 4)]) (.one 0) ZZ (eP (Yg [Za 1,Za 2,Za 0])) [aA (wP W),t,aA (.int (a:Int)),aA (pP (ZK W a)),aA (.int (b:Int))]=aA (.lst ((X9 W a b).map pP)):=by
 have hr:=ok.sq a ha;have b1:=ok.lo a b ha hb;have b2:=ok.hi a b ha hb;rw[Y2 (aS (XQ W a b).toNat) (λ(i:Nat)=>.int (i:Int)) (λ(t:Nat)=>pP [(a:Int),(b:Int),(t:Int)]) ?_ (by simp;omega) (λi hi=>⟨_,rfl,rfl,by simp[compEnv]⟩)]
 ·simp[X9]
 ·exact Yp (by simp[Vv (show b<(ZK W a).length by omega)];show XQ W a b=max (XQ W a b) 0;omega) (by omega)
theorem Kn{W:List (List Int)}(ok:ZV W){a:Nat}(ha:a<W.length)(acc:List (List Int))(hacc:acc.length<=1000)(b0:Option PV) :
  ∃b',Y8 (.one 4) (Xz 1 (ZA 1 [2,4] (ZG [Zf Zn (Za 3) (Za 4)]) (.one 0) ZZ (eP (Yg [Za 1,Za 2,Za 0])))) (XB ((a:Int)+1) (W.length-(a+1))) [aA (wP W),aA (.lst (acc.map pP)),aA (.int (a:Int)),aA (pP (ZK W a)),b0]
   = aA (.nx [aA (wP W),aA (.lst ((acc++Um W a).map pP)),aA (.int (a:Int)),aA (pP (ZK W a)),b'])/\(Um W a).length<=63:=by
 have hf:=ok.few
 obtain⟨s',h1,b',h2,h3⟩:=ZP (T:=.one 4) (fb:=Xz 1 (ZA 1 [2,4] (ZG [Zf Zn (Za 3) (Za 4)]) (.one 0) ZZ (eP (Yg [Za 1,Za 2,Za 0])))) (ls:=XB ((a:Int)+1) (W.length-(a+1))) (s:=[aA (wP W),aA (.lst (acc.map pP)),aA (.int (a:Int)),aA (pP (ZK W a)),b0])
  (λj st=>∃b',st=[aA (wP W),aA (.lst ((acc++(aS j).flatMap λj=>X9 W a (a+1+j)).map pP)),aA (.int (a:Int)),aA (pP (ZK W a)),b']/\((aS j).flatMap λj=>X9 W a (a+1+j)).length<=9*j)
  ⟨b0,by simp,by simp⟩ (λj l st hl hJ=>by
   obtain⟨hj,rfl⟩:=Va hl;obtain⟨b',rfl,hlen⟩:=hJ;have hb:a+1+j<W.length:=by omega
   have e1:(a:Int)+1+(j:Int)=((a+1+j:Nat):Int):=by omega
   rw[e1];have hc:=Hu ok ha hb (aA (.lst ((acc++(aS j).flatMap λj=>X9 W a (a+1+j)).map pP)));have hl2:=Km ok ha hb;have hg:(acc.length+((aS j).flatMap λj=>X9 W a (a+1+j)).length)+(X9 W a (a+1+j)).length<=10000:=by omega
   refine⟨_,_,rfl,?_,aA (.int ((a+1+j:Nat):Int)),rfl,?_⟩
   ·refine(QH hc rfl (by rw[aH,aH,aY];exact hg)).trans ?_;simp[Yv]
   ·rw[Yv,aY];omega)
 rw[VF] at h2 h3;refine⟨b',?_,?_⟩
 ·rw[h1,h2];rfl
 ·have:Um W a=(aS (W.length-(a+1))).flatMap λj=>X9 W a (a+1+j):=rfl;rw[this];omega
theorem Uh{W:List (List Int)}(ok:ZV W):Y3 [wP W]=aA (.lst ((YL W).map pP))/\(YL W).length<=441:=by
 have hf:=ok.few;have enumW:Vi (W.map pP)=(aS W.length).map λ(i:Nat)=>.tup [.int (i:Int),pP (ZK W i)]:=by rw[UM,aH];apply bO;intro i hi;rw[GS W i (bR.mp hi)]
 obtain⟨s',h1,x,y,z,h2,h3⟩:=ZP (T:=.many [2,3]) (fb:=Z3 [1] (Yi [Zf ZO (Za 2) (eC (.int 1)),Zd Zx [Za 0]]) (.one 4) (Xz 1 (ZA 1 [2,4] (ZG [Zf Zn (Za 3) (Za 4)]) (.one 0) ZZ (eP (Yg [Za 1,Za 2,Za 0]))))) (ls:=Vi (W.map pP)) (s:=[aA (wP W),aA (.lst []),aB,aB,aB])
  (λi st=>∃x y z,st=[aA (wP W),aA (.lst (((aS i).flatMap (Um W)).map pP)),x,y,z]/\((aS i).flatMap (Um W)).length<=63*i)
  ⟨aB,aB,aB,by simp,by simp⟩ (λi l st hl hJ=>by
   obtain⟨x,y,z,rfl,hlen⟩:=hJ;have hi:i<W.length:=by have:=(aX.mp hl).1;rw[U1,aH] at this;exact this
   rw[enumW,aU,eK hi] at hl;cases hl;obtain⟨b',e1,e2⟩:=Kn ok hi ((aS i).flatMap (Um W)) (by omega) z;refine⟨_,_,rfl,?_,aA (.int (i:Int)),aA (pP (ZK W i)),b',rfl,?_⟩
   ·have hr:Yi [Zf ZO (Za 2) (eC (.int 1)),Zd Zx [Za 0]] (Z2 [1] [aA (wP W),aA (.lst (((aS i).flatMap (Um W)).map pP)),aA (.int (i:Int)),aA (pP (ZK W i)),z])=aA (XB ((i:Int)+1) (W.length-(i+1))):=by rw[We (i:=(i:Int)+1) (j:=(W.length:Int)) (by simp[Z2]) (by simp[Z2]) ⟨by omega,by omega⟩ ⟨by omega,by omega⟩];congr 2;omega
    show Z3 _ _ _ _ [aA (wP W),_,aA (.int (i:Int)),aA (pP (ZK W i)),z]=_;rw[Yq,hr];simp only[aE];rw[e1,Yv]
   ·rw[Yv,aY];omega)
 rw[U1,aH] at h2 h3;refine⟨?_,by have:YL W=(aS W.length).flatMap (Um W):=rfl;rw[this];omega⟩;have hs:Xi 5 U8 [wP W]=aA (.lst ((YL W).map pP)):=by unfold U8;simp only[Xi,Y9,aZ,da,bA,dk,Yk,ZD,N7,Js,bF,aE];rw[Yq];simp only[IA];have:(Z2 [1] (([aA (wP W)]++aK (5-(0+1)) aB:ZJ).set 1 (aA (.lst []))))=[aA (wP W),aB,aB,aB,aB]:=rfl;rw[this];simp only[UJ,kS,kW,aE,Bf,bF];show((Y8 _ _ (Vi (W.map pP)) [aA (wP W),aA (.lst []),aB,aB,aB]).bind _).bind Xa=_;rw[h1,h2];rfl
 exact hs
def tk(e:Xg):List YM:=[.inl (e.1:Int),.inl (e.2.1:Int)]
def dP(ts:List Xg):PV:=.dT (ts.map tk) (ts.map λe=>.int e.2.2)
theorem Hv(ts:List Xg):ZC (ts.map λe=>PV.int e.2.2)=aD:=S9 λ_ _=>rfl
theorem ME(a b:Int):QC (.tup [.int a,.int b])=aA [.inl a,.inl b]:=rfl
theorem Ko{e:Xg}{a b:Nat}(h:tk e=[.inl (a:Int),.inl (b:Int)]):e.1=a/\e.2.1=b:=OS h
theorem MF(ts:List Xg):(ts.map tk).zip (ts.map λe=>PV.int e.2.2)=ts.map λe=>(tk e,PV.int e.2.2):=by
 induction ts with
 | nil=>rfl
 | cons e r ih=>rw[aZ,aZ,dt,ih];rfl
theorem Dw{n:Nat}{ts:List Xg}(ok:DictOk n ts){a b:Nat}{t:Int}(h:(a,b,t)∈ts):Vf (ts.map tk) (ts.map λe=>PV.int e.2.2) [.inl (a:Int),.inl (b:Int)]=aA (.int t):=by
 unfold Vf;rw[MF];have nd:=ok.nd;clear ok
 induction ts with
 | nil=>simp at h
 | cons e r ih=>
  rw[aZ,cf];rw[aZ,az] at nd;rcases a9.mp h with q | q
  ·subst q;have:decide (tk (a,b,t)=[eI (a:Int),eI (b:Int)])=aD:=decide_eq_true rfl;simp only[this,bF]
  ·have:decide (tk e=[eI (a:Int),eI (b:Int)])=aC:=decide_eq_false λz=>by obtain⟨h1,h2⟩:=Ko z;exact nd.1 (aa.mpr ⟨_,q,by simp[h1,h2]⟩)
   simp only[this];exact ih q nd.2
theorem MG{n:Nat}{ts:List Xg}(ok:DictOk n ts){a b:Nat}{t:Int}(h:(a,b,t)∈ts):W8 (dP ts) (.tup [.int (a:Int),.int (b:Int)])=aA (.int t):=by show(QC (.tup [.int (a:Int),.int (b:Int)])).bind (λk=>Vf (ts.map tk) (ts.map λe=>PV.int e.2.2) k)=_;rw[ME];exact Dw ok h
theorem key_mem{ts:List Xg}{a b:Nat}:[eI (a:Int),eI (b:Int)]∈ts.map tk↔∃t,(a,b,t)∈ts:=by
 rw[aa];constructor
 ·rintro⟨e,he,z⟩;obtain⟨h1,h2⟩:=Ko z;exact⟨e.2.2,by rw[<-h1,<-h2];exact he⟩
 ·rintro⟨t,ht⟩;exact⟨_,ht,rfl⟩
def Kp(ts:List Xg)(a b:Nat):Prop:=∃t,(a,b,t)∈ts
def Ext(ts ts':List Xg):Prop:=∀c d,Kp ts c d->Kp ts' c d
theorem Ext.refl(ts:List Xg):Ext ts ts:=λ_ _ h=>h
theorem Ext.trans{a b c:List Xg}(h:Ext a b)(g:Ext b c):Ext a c:=λx y z=>g x y (h x y z)
def YO(ts:List Xg):Int:=(ts.map λe=>e.2.2).sum
theorem Rw(e:Xg)(r:List Xg):YO (e::r)=e.2.2+YO r:=by unfold YO;rw[aZ,dF]
theorem MH(l:List Xg)(a b:Nat)(t:Int):YO (l++[(a,b,t)])=YO l+t:=by unfold YO;rw[bV,n6];simp
theorem JM(a b:Nat){t:Int}(h0:0<=t):∀ts:List Xg,(ts.map λe=>(e.1,e.2.1)).Nodup->(∀e∈ts,1<=e.2.2)->YO (ts.map λe=>if(e.1,e.2.1)=(a,b) then(e.1,e.2.1,t) else e)<=YO ts+t
 | [],_,_=>by show(0:Int)<=0+t;omega
 | e::r,nd,h=>by
  rw[aZ,az] at nd;have h1:=h e (by simp);rw[aZ,Rw,Rw];by_cases q:(e.1,e.2.1)=(a,b)
  ·rw[pC q]
   have:(r.map λe=>if(e.1,e.2.1)=(a,b) then((e.1,e.2.1,t):Xg) else e)=r:=by
    conv=>rhs;rw[<-lg r]
    refine bO λx hx=>?_;rw[pE (λz=>nd.1 (aa.mpr ⟨x,hx,z.trans q.symm⟩))];rfl
   rw[this];show t+YO r<=_;omega
  ·rw[pE q];have:=JM a b h0 r nd.2 λx hx=>h x (by simp[hx]);omega
theorem SH{n:Nat}{ts:List Xg}{a b:Nat}{t:Int}(ok:DictOk n ts)(hab:a<b)(hb:b<n)(h1:1<=t)(h9:t<=9)(hl:ts.length<=10000) :
  ∃ts',EU (dP ts) (.tup [.int (a:Int),.int (b:Int)]) (.int t)=aA (dP ts')/\DictOk n ts'/\ts'.length<=ts.length+1/\Kp ts' a b/\Ext ts ts'/\YO ts'<=YO ts+t:=by
 have c:(ZC (ts.map λe=>PV.int e.2.2)&&ZY (.int t)&&decide ((ts.map tk).length<=10000))=aD:=by rw[Hv,aH,decide_eq_true hl];rfl
 have e0:EU (dP ts) (.tup [.int (a:Int),.int (b:Int)]) (.int t)=aA (.dT (UH (ts.map tk) [.inl (a:Int),.inl (b:Int)]) (UI (ts.map tk) (ts.map λe=>PV.int e.2.2) [.inl (a:Int),.inl (b:Int)] (.int t))):=by show(gd _).bind _=_;rw[U6 c,ME];rfl
 rw[e0];obtain⟨ts',p1,p2,p3⟩:=C2 ok hab hb h1 h9;by_cases hm:∃t',(a,b,t')∈ts
 ·refine⟨ts.map λe=>if(e.1,e.2.1)=(a,b) then(e.1,e.2.1,t) else e,?_,⟨?_,?_⟩,by simp,?_,?_,JM a b (by omega) ts ok.nd λe he=>(ok.ok e he).2.2.1⟩
  ·unfold UH UI dP;rw[pC (key_mem.mpr hm),pC (key_mem.mpr hm),MF,bQ,bQ,bQ];congr 2
   ·apply bO;intro e _;show tk e=tk (if(e.1,e.2.1)=(a,b) then(e.1,e.2.1,t) else e);split<;>rfl
   ·apply bO;intro e _;show(if tk e=[eI (a:Int),eI (b:Int)] then PV.int t else PV.int e.2.2)=PV.int (if(e.1,e.2.1)=(a,b) then((e.1,e.2.1,t):Xg) else e).2.2;by_cases q:(e.1,e.2.1)=(a,b)
    ·rw[pC q,pC (by have:=lZ q;show [eI (e.1:Int),eI (e.2.1:Int)]=_;rw[this.1,this.2])]
    ·rw[pE q,pE (λz=>q (by obtain⟨h1,h2⟩:=Ko z;rw[h1,h2]))]
  ·intro e he;obtain⟨e',he',rfl⟩:=aa.mp he;have:=ok.ok e' he';split
   ·exact⟨this.1,this.2.1,h1,h9⟩
   ·exact this
  ·rw[bQ]
   have e:((λe:Xg=>(e.1,e.2.1)) ∘ λe:Xg=>if(e.1,e.2.1)=(a,b) then(e.1,e.2.1,t) else e)=λe:Xg=>(e.1,e.2.1):=by
    funext e;show((if(e.1,e.2.1)=(a,b) then((e.1,e.2.1,t):Xg) else e).1,(if(e.1,e.2.1)=(a,b) then((e.1,e.2.1,t):Xg) else e).2.1)=_;split<;>rfl
   rw[e];exact ok.nd
  ·obtain⟨t',ht'⟩:=hm;exact⟨t,aa.mpr ⟨(a,b,t'),ht',pC rfl⟩⟩
  ·rintro c d ⟨u,hu⟩;by_cases q:(c,d)=(a,b)
   ·exact⟨t,aa.mpr ⟨(c,d,u),hu,pC q⟩⟩
   ·exact⟨u,aa.mpr ⟨(c,d,u),hu,pE q⟩⟩
 ·have hn:∀t',(a,b,t')∉ts:=λt' h=>hm ⟨t',h⟩;refine⟨ts++[(a,b,t)],?_,⟨?_,?_⟩,by simp,⟨t,by simp⟩,λc d ⟨u,hu⟩=>⟨u,av _ hu⟩,by rw[MH];exact g6 _⟩
  ·unfold UH UI dP;rw[pE (λz=>hm (key_mem.mp z)),pE (λz=>hm (key_mem.mp z)),bV,bV];rfl
  ·intro e he;rcases aq.mp he with q | q
   ·exact ok.ok e q
   ·rw[aQ.mp q];exact⟨hab,hb,h1,h9⟩
  ·rw[bV];refine Wl ok.nd ?_;rw[aa];rintro⟨e,he,q⟩;have:=lZ q;obtain⟨a',b',t'⟩:=e;simp only at this;rw[this.1,this.2] at he;exact hn t' he
theorem SI{i:Nat}{fk fv:XE}{s:ZJ}{d k v d':PV}(hv:fv s=aA v)(hk:fk s=aA k)(hd:(s[i]?).join=aA d)(hp:EU d k v=aA d'):VL.sDPut i fk fv s=aA (.nx (s.set i (aA d'))):=by unfold VL.sDPut;rw[hv,hk];simp only[aE,hd,hp,bF]
theorem Nt(ts:List Xg):Oo (dP ts)=aA (ts.map λe=>.tup [.int (e.1:Int),.int (e.2.1:Int)]):=by show aA ((ts.map tk).map EV)=_;rw[bQ];rfl
def Cl(ts:List Xg)(P:Nat->Prop):Prop:=∀a b,Kp ts a b->(P a↔P b)
def Hang(n:Nat)(ts:List Xg):Prop:=∀P:Nat->Prop,Cl ts P->∀i j,i<n->j<n->(P i↔P j)
def AU(W:List (List Int)):Prop:=∀P:Nat->Prop,(∀a b,a<W.length->b<W.length->0<XQ W a b->(P a↔P b))->∀i j,i<W.length->j<W.length->(P i↔P j)
theorem Q3{n:Nat}{M:List (List Int)}{e:Xg}(ok:MatOk n M)(h:e.1<e.2.1/\e.2.1<n/\1<=e.2.2/\e.2.2<=9)(i j:Nat):XQ (Yc M e) i j=if e.2.1=i/\e.1=j then e.2.2 else if e.1=i/\e.2.1=j then e.2.2 else XQ M i j:=by obtain⟨a,b,t⟩:=e;simp only at h ⊢;obtain⟨l1,r1⟩:=VY (t:=t) (b:=b) ok.len ok.row (show a<n by omega);show XQ (Wq (Wq M a b t) b a t) i j=_;rw[Sh l1 r1 (by omega) (by omega),Sh ok.len ok.row (by omega) (by omega)]
theorem Dx{n:Nat}{ts:List Xg}(ok:DictOk n ts){a b:Nat}(h:Kp ts a b):a<n/\b<n/\0<XQ (Gn n ts) a b:=by
 have keep:∀(l:List Xg)(M:List (List Int)),(∀e∈l,e.1<e.2.1/\e.2.1<n/\1<=e.2.2/\e.2.2<=9)->MatOk n M->0<XQ M a b->0<XQ (l.foldl Yc M) a b:=by
  intro l
  induction l with
  | nil=>exact λM _ _ h=>h
  | cons e r ih=>
   intro M hl hM hp;have he:=hl e (by simp);refine ih _ (λe' h'=>hl e' (by simp[h'])) (hM.step he) ?_;rw[Q3 hM he];split
   ·omega
   ·split
    ·omega
    ·exact hp
 have gen:∀(l:List Xg)(M:List (List Int)),(∀e∈l,e.1<e.2.1/\e.2.1<n/\1<=e.2.2/\e.2.2<=9)->MatOk n M->Kp l a b->0<XQ (l.foldl Yc M) a b:=by
  intro l
  induction l with
  | nil=>rintro M _ _ ⟨t,ht⟩;simp at ht
  | cons e r ih=>
   rintro M hl hM ⟨t,ht⟩;have he:=hl e (by simp);rcases a9.mp ht with q | q
   ·refine keep r _ (λe' h'=>hl e' (by simp[h'])) (hM.step he) ?_;rw[Q3 hM he];subst q;simp only at he;split
    ·show 0<t;omega
    ·rw[pC ⟨rfl,rfl⟩];show 0<t;omega
   ·exact ih _ (λe' h'=>hl e' (by simp[h'])) (hM.step he) ⟨t,q⟩
 obtain⟨t,ht⟩:=id h;have:=ok.ok _ ht;simp only at this;exact⟨by omega,by omega,gen ts _ ok.ok (MatOk.zero n) h⟩
theorem Hang.conn{n:Nat}{ts:List Xg}(h:Hang n ts)(ok:DictOk n ts):AU (Gn n ts):=by intro P hP i j hi hj;have hl:=(S2 ok).len;refine h P (λa b hab=>?_) i j (by omega) (by omega);obtain⟨ha,hb,hp⟩:=Dx ok hab;exact hP a b (by omega) (by omega) hp
theorem Wv:∀{l m:List Int},l.Nodup->(∀x∈l,x∈m)->l.length<=m.length
 | [],m,_,_=>gA _
 | x::r,m,nd,h=>by have hx:x∈m:=h x (by simp);have nd':=az.mp nd;have:=Wv (l:=r) (m:=m.erase x) nd'.2 λy hy=>(jJ (show y≠x from λz=>nd'.1 (by rw[<-z];exact hy))).mpr (h y (by simp[hy]));rw[kC hx] at this;have hp:=kj hx;rw[bA];omega
theorem AV{n:Nat}{l:List Int}(nd:l.Nodup)(h:∀x∈l,∃k:Nat,k<n/\x=(k:Int))(hl:l.length=n){j:Nat}(hj:j<n):(j:Int)∈l:=by
 by_cases q:(j:Int)∈l
 ·exact q
 ·have:=Wv (l:=(j:Int)::l) (m:=(aS n).map λ(k:Nat)=>(k:Int)) (az.mpr ⟨q,nd⟩) (λx hx=>by
   rcases a9.mp hx with rfl | hx
   ·exact aa.mpr ⟨j,bR.mpr hj,rfl⟩
   ·obtain⟨k,hk,rfl⟩:=h x hx;exact aa.mpr ⟨k,bR.mpr hk,rfl⟩)
  rw[bA,aH,dh] at this;omega
def rL(M:List (List Int)):List PV:=M.map λr=>.lst (iL r)
theorem Fz{M:List (List Int)}{a:Nat}(h:a<M.length):(rL M)[a]?=aA (.lst (iL (ZK M a))):=by unfold rL;rw[aU,Qm h];rfl
theorem FA{M:List (List Int)}{a b:Nat}{t:Int}:(rL M).set a (.lst ((iL (ZK M a)).set b (.int t)))=rL (Wq M a b t):=by unfold rL Wq;rw[km];show _=(List.map (λr=>PV.lst (iL r)) M).set a (PV.lst (((ZK M a).set b t).map PV.int));rw[km]
theorem Hw{n:Nat}{ts:List Xg}(ok:DictOk n ts)(hn:n<=7):XC [dP ts,.int (n:Int)]=aA (wP (Gn n ts)):=by
 have hc:ZA 1 [1] (ZG [Za 1]) (.one 0) ZZ (Zf W9 (ZN [eC (.int 0)]) (Za 1)) [aA (dP ts),aA (.int (n:Int)),aB,aB,aB]=aA (.lst (rL (aK n (aK n 0)))):=by
  rw[Y2 (aS n) (λ(i:Nat)=>.int (i:Int)) (λ_=>.lst (iL (aK n 0))) (Yp (by simp) (by omega)) (by simp;omega) (λi _=>⟨_,rfl,rfl,?_⟩)]
  ·unfold rL;rw[List.map_const',dh,jh]
  ·have e:W9 (.lst [.int 0]) (.int (n:Int))=aA (.lst (iL (aK n 0))):=by show(if ZC [PV.int 0]=aD/\(-1000000:Int)<=(n:Int)/\(n:Int)<=1000000/\[PV.int 0].length*((n:Int)).toNat<=10000 then aA (PV.lst (aK ((n:Int)).toNat [PV.int 0]).flatten) else aB)=_;rw[pC ⟨rfl,by omega,by omega,by simp;omega⟩,cL,NU];simp
   simp[compEnv,e]
 have mat:∀i,MatOk n ((ts.take i).foldl Yc (aK n (aK n 0))):=λi=>S2 (ts:=ts.take i) ⟨λe he=>ok.ok e (dA he),by rw[fT];exact ok.nd.sublist (gO _ _)⟩
 obtain⟨s',h1,x,y,h2⟩:=ZP (T:=.many [3,4]) (fb:=Zk (Vl 2 (Za 3) (Za 4) (Zf W8 (Za 0) (Yg [Za 3,Za 4]))) (Vl 2 (Za 4) (Za 3) (Zf W8 (Za 0) (Yg [Za 3,Za 4])))) (ls:=ts.map λe=>.tup [.int (e.1:Int),.int (e.2.1:Int)]) (s:=[aA (dP ts),aA (.int (n:Int)),aA (.lst (rL (aK n (aK n 0)))),aB,aB])
  (λi st=>∃x y,st=[aA (dP ts),aA (.int (n:Int)),aA (.lst (rL ((ts.take i).foldl Yc (aK n (aK n 0))))),x,y]) ⟨aB,aB,rfl⟩ (λi l st hl hJ=>by
   obtain⟨x,y,rfl⟩:=hJ;rw[aU] at hl
   cases he:ts[i]? with
   | none=>rw[he] at hl;cases hl
   | some e=>
    rw[he] at hl;cases hl;obtain⟨a,b,t⟩:=e;have hmem:(a,b,t)∈ts:=bN he;obtain⟨hab,hbn,t1,t9⟩:=ok.ok _ hmem;simp only at hab hbn t1 t9;have mi:=mat i;have hg:=MG ok hmem;refine⟨_,_,rfl,?_,aA (.int (a:Int)),aA (.int (b:Int)),rfl⟩;show Zk _ _ [aA (dP ts),aA (.int (n:Int)),aA (.lst (rL ((ts.take i).foldl Yc (aK n (aK n 0))))),aA (.int (a:Int)),aA (.int (b:Int))]=_;have sh:=VY (t:=t) (b:=b) mi.len mi.row (show a<n by omega);have lenM:(rL ((ts.take i).foldl Yc (aK n (aK n 0)))).length=n:=by unfold rL;rw[aH];exact mi.len
    have lenM2:(rL (Wq ((ts.take i).foldl Yc (aK n (aK n 0))) a b t)).length=n:=by unfold rL;rw[aH];exact sh.1
    rw[Yk,QJ (l:=.int t) (a:=(a:Int)) (b:=(b:Int)) (j:=a) (c:=b) (m:=rL ((ts.take i).foldl Yc (aK n (aK n 0)))) (n:=iL (ZK ((ts.take i).foldl Yc (aK n (aK n 0))) a)) (by simp[hg]) rfl rfl rfl (U7 (by rw[lenM];omega)) (Fz (by rw[mi.len];omega)) (Yd _) rfl (U7 (by rw[aH,mi.row a (by omega)];omega))];simp only[aE,FA];show Vl _ _ _ _ [aA (dP ts),aA (.int (n:Int)),aA (.lst (rL (Wq ((ts.take i).foldl Yc (aK n (aK n 0))) a b t))),aA (.int (a:Int)),aA (.int (b:Int))]=_;rw[QJ (l:=.int t) (a:=(b:Int)) (b:=(a:Int)) (j:=b) (c:=a) (m:=rL (Wq ((ts.take i).foldl Yc (aK n (aK n 0))) a b t)) (n:=iL (ZK (Wq ((ts.take i).foldl Yc (aK n (aK n 0))) a b t) b)) (by simp[hg]) rfl rfl rfl (U7 (by rw[lenM2];omega)) (Fz (by rw[sh.1];omega)) (Yd _) rfl (U7 (by rw[aH,sh.2 b (by omega)];omega)),FA];have e5:(ts.take (i+1)).foldl Yc (aK n (aK n 0))=Yc ((ts.take i).foldl Yc (aK n (aK n 0))) (a,b,t):=Ll _ _ he;rw[e5];rfl)
 rw[aH,dI] at h2;have hsq:(ts.foldl Yc (aK n (aK n 0)))=Gn n ts:=rfl;rw[hsq] at h2;have hc2:ZA 1 [] (YW (Za 2)) (.one 0) ZZ (Zd Y7 [Za 0]) [aA (dP ts),aA (.int (n:Int)),aA (.lst (rL (Gn n ts))),x,y]=aA (.lst ((Gn n ts).map pP)):=by rw[Y2 (Gn n ts) (λr=>.lst (iL r)) pP (by simp[rL]) (by rw[(S2 ok).len];omega) (λr _=>⟨_,rfl,rfl,by simp[compEnv]⟩)]
 show Xi 5 V8 [dP ts,.int (n:Int)]=_;unfold V8;simp only[Xi,Y9,aZ,da,bA,dk,Yk,ZD];show(((ZA 1 [1] (ZG [Za 1]) (.one 0) ZZ (Zf W9 (ZN [eC (.int 0)]) (Za 1)) [aA (dP ts),aA (.int (n:Int)),aB,aB,aB]).map _).bind _).bind Xa=_;rw[hc];simp only[bF,aE];show((QE 0 _ _ [aA (dP ts),aA (.int (n:Int)),aA (.lst (rL (aK n (aK n 0)))),aB,aB]).bind _).bind Xa=_;unfold QE;show(((Oo (dP ts)).bind λls=>Y8 _ _ ls [aA (dP ts),aA (.int (n:Int)),aA (.lst (rL (aK n (aK n 0)))),aB,aB]).bind _).bind Xa=_;rw[Nt];simp only[aE];rw[h1,h2];simp[hc2]
theorem Bv(l:List Int)(k:Nat)(x:Int):(iL l).take k++PV.int x::(iL l).drop k=iL (l.take k++x::l.drop k):=by show(l.map PV.int).take k++PV.int x::(l.map PV.int).drop k=(l.take k++x::l.drop k).map PV.int;rw[bV,aZ,fT,ip]
theorem MI{n:Nat}{ts:List Xg}(ok:DictOk n ts)(hn:n<=7)(hl:ts.length<=1000)(c:Int):∃ts',Vo [dP ts,.int c,.int (n:Int)]=aA (dP ts')/\DictOk n ts'/\ts'.length<=ts.length/\(Hang n ts->Hang n ts')/\YO ts'<=YO ts:=by
 obtain⟨s1,h1,c1,x1,l1,e1,nk⟩:=ZP (T:=.one 4) (fb:=Zk (WQ 3 (Zf Z9 (Za 1) (Zf ZO (Za 4) (eC (.int 1)))) (Za 4)) (Zl 1 (eP (Zf W6 (Za 1) (Zf ZO (Za 4) (eC (.int 1))))))) (ls:=Wd n) (s:=[aA (dP ts),aA (.int c),aA (.int (n:Int)),aA (.lst []),aB,aB,aB,aB,aB])
  (λi st=>∃(c':Int) (x:Option PV) (l:List Int),st=[aA (dP ts),aA (.int c'),aA (.int (n:Int)),aA (.lst (iL l)),x,aB,aB,aB,aB]/\NamesOk i l) ⟨c,aB,[],rfl,NamesOk.nil⟩ (λi l st hl hJ=>by
   obtain⟨hi,rfl⟩:=X2 hl;obtain⟨c',x,nl,rfl,nk⟩:=hJ;have hd:0<(i:Int)+1:=by omega
   have hm0:=dW c' (show(i:Int)+1≠0 by omega);have hm1:=c0 c' hd;refine⟨_,_,rfl,?_,c'/((i:Int)+1),aA (.int (i:Int)),nl.take (c'%((i:Int)+1)).toNat++(i:Int)::nl.drop (c'%((i:Int)+1)).toNat,rfl,nk.ins _⟩;show Zk _ _ [aA (dP ts),aA (.int c'),aA (.int (n:Int)),aA (.lst (iL nl)),aA (.int (i:Int)),aB,aB,aB,aB]=_;rw[Yk,QI (k:=c'%((i:Int)+1)) (l:=.int (i:Int)) (m:=iL nl) (by simp[hd]) rfl rfl (Yd nl) rfl hm0 (by omega) (by rw[aH,nk.len];omega),Bv];have hcd:Qc c' ((i:Int)+1):=Ra hd (by omega);simp[hcd])
 have nkn:=nk;rw[X3] at nkn
 obtain⟨s2,h2,x6,x7,x8,ts',e2,ok',hle,hsu,hall⟩:=ZP (T:=.many [6,7]) (fb:=Zk (Zl 8 (eP (Yg [Zd Uj [Zf Zn (Za 3) (Za 6),Zf Zn (Za 3) (Za 7)],Zd Tw [Zf Zn (Za 3) (Za 6),Zf Zn (Za 3) (Za 7)]]))) (VL.sDPut 5 (Za 8) (Zf W8 (Za 0) (Yg [Za 6,Za 7])))) (ls:=ts.map λe=>.tup [.int (e.1:Int),.int (e.2.1:Int)])
  (s:=[aA (dP ts),aA (.int c1),aA (.int (n:Int)),aA (.lst (iL l1)),x1,aA (dP []),aB,aB,aB])
  (λi st=>∃(x6 x7 x8:Option PV) (ts':List Xg),st=[aA (dP ts),aA (.int c1),aA (.int (n:Int)),aA (.lst (iL l1)),x1,aA (dP ts'),x6,x7,x8]/\DictOk n ts'/\ts'.length<=i/\YO ts'<=YO (ts.take i)/\∀(j:Nat)(e:Xg),j<i->ts[j]?=aA e->Kp ts' (ZL l1 e.1).toNat (ZL l1 e.2.1).toNat\/Kp ts' (ZL l1 e.2.1).toNat (ZL l1 e.1).toNat) ⟨aB,aB,aB,[],rfl,DictOk.nil n,af _,g6 _,λj e hj _=>by omega⟩ (λi l st hl' hJ=>by
   obtain⟨x6,x7,x8,ts',rfl,ok',hle,hsu,hall⟩:=hJ;rw[aU] at hl'
   cases he:ts[i]? with
   | none=>rw[he] at hl';cases hl'
   | some e=>
    rw[he] at hl';cases hl';obtain⟨a,b,t⟩:=e;have hil:=(aX.mp he).1;have hmem:(a,b,t)∈ts:=bN he;obtain⟨hab,hbn,t1,t9⟩:=ok.ok _ hmem;simp only at hab hbn t1 t9;have hg:=MG ok hmem;rw[X3] at nk;have na:=nk.at (x:=a) (by omega);have nb:=nk.at (x:=b) (by omega);have ne:=nk.ne (x:=a) (y:=b) (by omega) (by omega) (by omega)
    -- the pair
    obtain⟨p,q,ep,eq,hpq,hqn⟩:∃p q:Nat,(if ZL l1 b<ZL l1 a then ZL l1 b else ZL l1 a)=(p:Int)/\(if ZL l1 b>ZL l1 a then ZL l1 b else ZL l1 a)=(q:Int)/\p<q/\q<n:=by refine⟨(if ZL l1 b<ZL l1 a then ZL l1 b else ZL l1 a).toNat,(if ZL l1 b>ZL l1 a then ZL l1 b else ZL l1 a).toNat,?_,?_,?_,?_⟩<;>split<;>(try split)<;>omega
    obtain⟨ts2,pe,ok2,hle2,hh2,hx2,hs2⟩:=SH (t:=t) ok' hpq hqn t1 t9 (by omega);have ia:=Vv (l:=l1) (k:=a) (by rw[nk.len];omega);have ib:=Vv (l:=l1) (k:=b) (by rw[nk.len];omega)
    refine⟨_,_,rfl,?_,aA (.int (a:Int)),aA (.int (b:Int)),aA (.tup [.int (p:Int),.int (q:Int)]),ts2,rfl,ok2,by omega,by rw[jo,he];show _<=YO (ts.take i++[(a,b,t)]);rw[MH];omega,λj e hj hje=>by
     by_cases hji:j<i
     ·exact(hall j e hji hje).imp (hx2 _ _) (hx2 _ _)
     ·have hj':j=i:=by omega
      subst hj';rw[he] at hje;cases hje;show Kp ts2 (ZL l1 a).toNat (ZL l1 b).toNat\/Kp ts2 (ZL l1 b).toNat (ZL l1 a).toNat;by_cases hlt:ZL l1 b<ZL l1 a
      ·rw[pC hlt] at ep;rw[pE (by omega)] at eq;exact .inr (by rw[ep,eq];exact hh2)
      ·rw[pE hlt] at ep;rw[pC (by omega)] at eq;exact .inl (by rw[ep,eq];exact hh2)⟩
    show Zk _ _ [aA (dP ts),aA (.int c1),aA (.int (n:Int)),aA (.lst (iL l1)),x1,aA (dP ts'),aA (.int (a:Int)),aA (.int (b:Int)),x8]=_;have hset:Zl 8 (eP (Yg [Zd Uj [Zf Zn (Za 3) (Za 6),Zf Zn (Za 3) (Za 7)],Zd Tw [Zf Zn (Za 3) (Za 6),Zf Zn (Za 3) (Za 7)]])) [aA (dP ts),aA (.int c1),aA (.int (n:Int)),aA (.lst (iL l1)),x1,aA (dP ts'),aA (.int (a:Int)),aA (.int (b:Int)),x8]=aA (.nx [aA (dP ts),aA (.int c1),aA (.int (n:Int)),aA (.lst (iL l1)),x1,aA (dP ts'),aA (.int (a:Int)),aA (.int (b:Int)),aA (.tup [.int (p:Int),.int (q:Int)])]):=by simp[ia,ib,ep,eq]
    rw[Yk,hset];simp only[aE];rw[SI (v:=.int t) (k:=.tup [.int (p:Int),.int (q:Int)]) (d:=dP ts') (by simp[hg]) rfl rfl pe];rfl)
 rw[aH] at hle hall hsu;rw[dI] at hsu;refine⟨ts',?_,ok',hle,λhg P hP i j hi hj=>?_,hsu⟩;rotate_left
 ·have sur:∀k,k<n->∃x,x<n/\(ZL l1 x).toNat=k:=λk hk=>by have hm:=AV nkn.nd (λx hx=>⟨x.toNat,by have:=nkn.lo x hx;have:=nkn.hi x hx;omega,by have:=nkn.lo x hx;omega⟩) nkn.len hk;obtain⟨x,hx,ex⟩:=eM hm;refine⟨x,by rw[<-nkn.len];exact hx,?_⟩;unfold ZL;rw[aL,aG hx,ex];rfl
  obtain⟨x,hx,rfl⟩:=sur i hi;obtain⟨y,hy,rfl⟩:=sur j hj;refine hg (λk=>P (ZL l1 k).toNat) (λa b hab=>?_) x y hx hy;obtain⟨t,ht⟩:=hab;obtain⟨k,hk,ek⟩:=eM ht;rcases hall k (a,b,t) hk (by rw[aG hk,ek]) with q | q
  ·exact hP _ _ q
  ·exact(hP _ _ q).symm
 show Xi 9 Vn [dP ts,.int c,.int (n:Int)]=_;unfold Vn;simp only[Xi,Y9,aZ,da,bA,dk,Yk,ZD];have hr:ZG [Za 2] (Z2 [3,5] [aA (dP ts),aA (.int c),aA (.int (n:Int)),aA (.lst []),aB,aB,aB,aB,aB])=aA (Wd n):=Yp (by simp[Z2]) (by omega);show((Z3 [3,5] (ZG [Za 2]) (.one 4) _ [aA (dP ts),aA (.int c),aA (.int (n:Int)),aA (.lst []),aB,aB,aB,aB,aB]).bind _).bind Xa=_;rw[Yq,hr];simp only[aE];rw[show(Y8 (.one 4) (Zk (WQ 3 (Zf Z9 (Za 1) (Zf ZO (Za 4) (eC (.int 1)))) (Za 4)) (Zl 1 (eP (Zf W6 (Za 1) (Zf ZO (Za 4) (eC (.int 1))))))) (Wd n) [aA (dP ts),aA (.int c),aA (.int (n:Int)),aA (.lst []),aB,aB,aB,aB,aB])=aA (.nx s1) from h1,e1];show((QE 0 _ _ [aA (dP ts),aA (.int c1),aA (.int (n:Int)),aA (.lst (iL l1)),x1,aA (dP []),aB,aB,aB]).bind _).bind Xa=_;unfold QE;show(((Oo (dP ts)).bind λls=>Y8 _ _ ls [aA (dP ts),aA (.int c1),aA (.int (n:Int)),aA (.lst (iL l1)),x1,aA (dP []),aB,aB,aB]).bind _).bind Xa=_;rw[Nt];simp only[aE];rw[h2,e2];rfl
theorem FC{r m:Int}(h1:1<=m)(h9:m<=9):0<=r%2*(1+r/2%m)/\r%2*(1+r/2%m)<=9:=by
 have a1:=dW (r/2) (show m≠0 by omega);have a2:=c0 (r/2) (show 0<m by omega);have a3:r%2=0\/r%2=1:=by omega
 rcases a3 with e | e<;>rw[e]<;>omega
theorem Za5{x y:PV}(c:Int):Ts [x,y] (c%2)=aA (if c%2=0 then x else y):=by
 have h:c%2=0\/c%2=1:=by omega
 rcases h with h | h<;>rw[h]<;>rfl
theorem FD(neg:Bool)(a:Int)(l:List Int):YC neg (.int a) (.lst (iL l))=aA (.bl (if neg then !decide (a∈l) else decide (a∈l))):=by
 unfold YC;have c:((iL l).all λz=>Ws 8 z (.int a))=aD:=by rw[jS,bC];intro x _;rfl
 show(aA (iL l)).bind _=_;simp only[aE,pC c]
 have:decide (PV.int a∈iL l)=decide (a∈l):=decide_eq_decide.mpr (by
  rw[aa];constructor
  ·rintro⟨x,hx,e⟩;cases e;exact hx
  ·intro h;exact⟨a,h,rfl⟩)
 rw[this]
def D8:XS:=(Zk (Zl 8 (eP (Zd Uj [Zf EJ (Zf Z9 (Za 0) (eC (.int 2))) (Zf ZO (eC (.int 1)) (Zf Z9 (Zf W6 (Za 0) (eC (.int 2))) (Za 3))),Za 2])))
  (Zk (Zl 0 (eP (Zf Zn (ZN [Zf W6 (Za 0) (eC (.int 2)),Zf W6 (Zf W6 (Za 0) (eC (.int 2))) (Za 3)]) (Zf Z9 (Za 0) (eC (.int 2))))))
  (Wb (xB (Zf Av (Za 8) (eC (.int 0)))) (Zk (VL.sDPut 4 (Yg [Za 6,Za 7]) (Za 8))
  (Zl 2 (eP (Zf Xo (Za 2) (Za 8))))) ZI)))
def WB(n:Nat)(most:Int)(ts:List Xg)(Zt oz:Int)(x6 x7 x8:Option Int)(x9:Option Int)(met:List Int):ZJ:=
 [aA (.int Zt),aA (.int (n:Int)),aA (.int oz),aA (.int most),aA (dP ts),aA (.lst (iL met)),x6.map PV.int,x7.map PV.int,x8.map PV.int,x9.map PV.int]
theorem Bw{n:Nat}{most:Int}{ts:List Xg}{Zt oz:Int}{a b:Nat}{x8 x9:Option Int}{met:List Int}(h1:1<=most)(h9:most<=9)(ok:DictOk n ts)(hl:ts.length<=1000)(hab:a<b)(hb:b<n) :
  ∃ts' p9 p8 x8',D8 (WB n most ts Zt oz (aA (a:Int)) (aA (b:Int)) x8 x9 met)=aA (.nx (WB n most ts' p9 p8 (aA (a:Int)) (aA (b:Int)) (aA x8') x9 met))/\DictOk n ts'/\ts'.length<=ts.length+1/\(0<=oz->0<=p8/\YO ts'+p8<=YO ts+oz):=by
 obtain⟨d0,d9⟩:=FC (r:=Zt) h1 h9;have cm:CMul (Zt%2) (1+Zt/2%most):=Bg (by omega) (by omega);have cd:Qc Zt 2:=Ra (by omega) (by omega);have cd2:Qc (Zt/2) most:=Ra (by omega) (by omega);have hm:0<most:=by omega
 generalize hdp:(if oz<Zt%2*(1+Zt/2%most) then oz else Zt%2*(1+Zt/2%most))=dp;have hdp9:dp<=9:=by rw[<-hdp];split<;>omega
 have hdpr:dp<=oz:=by rw[<-hdp];split<;>omega
 generalize hrs:(if Zt%2=0 then Zt/2 else Zt/2/most)=rs;have hif:(if Zt%2=0 then PV.int (Zt/2) else PV.int (Zt/2/most))=PV.int rs:=by rw[<-hrs];split<;>rfl
 have first:(Zk (Zl 8 (eP (Zd Uj [Zf EJ (Zf Z9 (Za 0) (eC (.int 2))) (Zf ZO (eC (.int 1)) (Zf Z9 (Zf W6 (Za 0) (eC (.int 2))) (Za 3))),Za 2]))) (Zl 0 (eP (Zf Zn (ZN [Zf W6 (Za 0) (eC (.int 2)),Zf W6 (Zf W6 (Za 0) (eC (.int 2))) (Za 3)]) (Zf Z9 (Za 0) (eC (.int 2)))))))
   (WB n most ts Zt oz (aA (a:Int)) (aA (b:Int)) x8 x9 met)=aA (.nx (WB n most ts rs oz (aA (a:Int)) (aA (b:Int)) (aA dp) x9 met)):=by
  simp[WB,cm,cd,cd2,hm,Za5,hif,hdp]
 have split3:∀(f g h:XS)(s s1:ZJ),Zk f g s=aA (.nx s1)->Zk f (Zk g h) s=h s1:=λf g h s s1 e=>by
  simp only[Yk] at e ⊢
  cases q:f s with
  | none=>rw[q] at e;cases e
  | some o=>
   rw[q] at e
   cases o with
   | nx s2=>
    simp only[aE] at e ⊢;rw[e];rfl
   | _=>cases e
 by_cases hpos:0<dp
 ·obtain⟨ts2,pe,ok2,hle2,_,_,hs2⟩:=SH (t:=dp) ok hab hb (by omega) hdp9 (by omega);refine⟨ts2,rs,oz-dp,dp,?_,ok2,hle2,λ_=>⟨by omega,by omega⟩⟩;unfold D8;rw[split3 _ _ _ _ _ first];have hput:=SI (i:=4) (fk:=Yg [Za 6,Za 7]) (fv:=Za 8) (s:=WB n most ts rs oz (aA (a:Int)) (aA (b:Int)) (aA dp) x9 met) (v:=.int dp) (k:=.tup [.int (a:Int),.int (b:Int)]) (d:=dP ts) rfl (by simp[WB]) rfl pe;have ht:xB (Zf Av (Za 8) (eC (.int 0))) (WB n most ts rs oz (aA (a:Int)) (aA (b:Int)) (aA dp) x9 met)=aA aD:=by simp[WB,hpos]
  rw[Z8,ht];simp only[aE,if_true];rw[Yk,hput];simp[WB]
 ·refine⟨ts,rs,oz,dp,?_,ok,by omega,λh=>⟨h,g6 _⟩⟩;unfold D8;rw[split3 _ _ _ _ _ first];have ht:xB (Zf Av (Za 8) (eC (.int 0))) (WB n most ts rs oz (aA (a:Int)) (aA (b:Int)) (aA dp) x9 met)=aA aC:=by simp[WB,hpos]
  rw[Z8,ht];simp
theorem FE{n:Nat}{most:Int}{a:Nat}{ts:List Xg}{Zt oz:Int}{x7 x8 x9:Option Int}{met:List Int}(h1:1<=most)(h9:most<=9)(ok:DictOk n ts)(hl:ts.length<=100)(ha:a<n)(hn:n<=7) :
  ∃ts' p9 p8 y7 y8,Y8 (.one 7) D8 (XB ((a:Int)+1) (n-(a+1))) (WB n most ts Zt oz (aA (a:Int)) x7 x8 x9 met)=aA (.nx (WB n most ts' p9 p8 (aA (a:Int)) y7 y8 x9 met))/\DictOk n ts'/\ts'.length<=ts.length+7/\(0<=oz->0<=p8/\YO ts'+p8<=YO ts+oz):=by
 obtain⟨s',h,ts',p9,p8,y7,y8,e,ok',hle,hsu⟩:=ZP (T:=.one 7) (fb:=D8) (ls:=XB ((a:Int)+1) (n-(a+1))) (s:=WB n most ts Zt oz (aA (a:Int)) x7 x8 x9 met)
  (λj st=>∃ts' p9 p8 y7 y8,st=WB n most ts' p9 p8 (aA (a:Int)) y7 y8 x9 met/\DictOk n ts'/\ts'.length<=ts.length+j/\(0<=oz->0<=p8/\YO ts'+p8<=YO ts+oz)) ⟨ts,Zt,oz,x7,x8,rfl,ok,by omega,λh=>⟨h,g6 _⟩⟩ (λj l st hl' hJ=>by
   obtain⟨hj,rfl⟩:=Va hl';obtain⟨ts',p9,p8,y7,y8,rfl,ok',hle,hsu⟩:=hJ;have e1:(a:Int)+1+(j:Int)=((a+1+j:Nat):Int):=by omega
   rw[e1];obtain⟨ts2,r2,m2,z8,e2,ok2,hle2,hs2⟩:=Bw (Zt:=p9) (oz:=p8) (x8:=y8) (x9:=x9) (met:=met) h1 h9 ok' (by omega) (show a<a+1+j by omega) (by omega);exact⟨_,_,rfl,e2,ts2,r2,m2,aA ((a+1+j:Nat):Int),aA z8,rfl,ok2,by omega,λh=>by have a1:=hsu h;have a2:=hs2 a1.1;exact⟨a2.1,by omega⟩⟩)
 rw[VF] at hle;exact⟨ts',p9,p8,y7,y8,by rw[h,e],ok',by omega,hsu⟩
theorem FF{n:Nat}{most:Int}{Zt oz:Int}{met:List Int}(h1:1<=most)(h9:most<=9)(hn:n<=7) :
  ∃ts' p9 p8 y6 y7 y8,Y8 (.one 6) (Z3 [4,5] (Yi [Zf ZO (Za 6) (eC (.int 1)),Za 1]) (.one 7) D8) (Wd n) (WB n most [] Zt oz aB aB aB aB met)=aA (.nx (WB n most ts' p9 p8 y6 y7 y8 aB met))/\DictOk n ts'/\ts'.length<=49/\(0<=oz->YO ts'<=oz):=by
 obtain⟨s',h,ts',p9,p8,y6,y7,y8,e,ok',hle,hsu⟩:=ZP (T:=.one 6) (fb:=Z3 [4,5] (Yi [Zf ZO (Za 6) (eC (.int 1)),Za 1]) (.one 7) D8) (ls:=Wd n) (s:=WB n most [] Zt oz aB aB aB aB met)
  (λi st=>∃ts' p9 p8 y6 y7 y8,st=WB n most ts' p9 p8 y6 y7 y8 aB met/\DictOk n ts'/\ts'.length<=7*i/\(0<=oz->0<=p8/\YO ts'+p8<=oz)) ⟨[],Zt,oz,aB,aB,aB,rfl,DictOk.nil n,by simp,λh=>⟨h,by show(0:Int)+oz<=oz;omega⟩⟩ (λi l st hl' hJ=>by
   obtain⟨hi,rfl⟩:=X2 hl';obtain⟨ts',p9,p8,y6,y7,y8,rfl,ok',hle,hsu⟩:=hJ;obtain⟨ts2,r2,m2,z7,z8,e2,ok2,hle2,hs2⟩:=FE (Zt:=p9) (oz:=p8) (x7:=y7) (x8:=y8) (x9:=aB) (met:=met) h1 h9 ok' (by omega) hi hn;refine⟨_,_,rfl,?_,ts2,r2,m2,aA (i:Int),z7,z8,rfl,ok2,by omega,λh=>by have a1:=hsu h;have a2:=hs2 a1.1;exact⟨a2.1,by omega⟩⟩;have hr:Yi [Zf ZO (Za 6) (eC (.int 1)),Za 1] (Z2 [4,5] (WB n most ts' p9 p8 (aA (i:Int)) y7 y8 aB met))=aA (XB ((i:Int)+1) (n-(i+1))):=by rw[We (i:=(i:Int)+1) (j:=(n:Int)) (by simp[Z2,WB]) (by simp[Z2,WB]) ⟨by omega,by omega⟩ ⟨by omega,by omega⟩];congr 2;omega
   show Z3 _ _ _ _ (WB n most ts' p9 p8 (aA (i:Int)) y7 y8 aB met)=_;rw[Yq,hr];exact e2)
 rw[X3] at hle;exact⟨ts',p9,p8,y6,y7,y8,by rw[h,e],ok',by omega,λh=>by have:=hsu h;omega⟩
def Kq:XS:=(Zk (Wb (Wr (xB (Zf (YC aC) (Za 6) (Za 5))) (xB (Zf (YC aD) (Za 7) (Za 5)))) (Zy 5 (eP (Za 7))) ZI)
  (Wb (Wr (xB (Zf (YC aC) (Za 7) (Za 5))) (xB (Zf (YC aD) (Za 6) (Za 5)))) (Zy 5 (eP (Za 6))) ZI))
structure MetOk(n:Nat)(ts:List Xg)(met:List Int):Prop where
 nd:met.Nodup
 ok:∀m∈met,∃k:Nat,k<n/\m=(k:Int)/\∀P:Nat->Prop,Cl ts P->(P k↔P 0)
theorem MetOk.add{n:Nat}{ts:List Xg}{met:List Int}{a b:Nat}(h:MetOk n ts met)(hab:Kp ts a b\/Kp ts b a)(hb:b<n)(ha:(a:Int)∈met)(hnb:(b:Int)∉met):MetOk n ts (met++[(b:Int)]):=by
 refine⟨?_,λm hm=>?_⟩
 ·rw[cW];refine⟨h.nd,by simp,λx hx y hy z=>?_⟩;rw[aQ.mp hy] at z;exact hnb (z▸hx)
 ·rcases aq.mp hm with hm | hm
  ·exact h.ok m hm
  ·refine⟨b,hb,aQ.mp hm,λP hP=>?_⟩;obtain⟨k,hk,e,q⟩:=h.ok _ ha;have:a=k:=by omega
   subst this;rcases hab with z | z
   ·exact(hP _ _ z).symm.trans (q P hP)
   ·exact(hP _ _ z).trans (q P hP)
theorem MetOk.hang{n:Nat}{ts:List Xg}{met:List Int}(h:MetOk n ts met)(hl:met.length=n):Hang n ts:=by
 have all:∀P,Cl ts P->∀i,i<n->(P i↔P 0):=λP hP i hi=>by
  have hm:=AV h.nd (λx hx=>by obtain⟨k,hk,e,_⟩:=h.ok x hx;exact⟨k,hk,e⟩) hl hi;obtain⟨k,hk,e,q⟩:=h.ok _ hm;have:i=k:=by omega
  subst this;exact q P hP
 exact λP hP i j hi hj=>(all P hP i hi).trans (all P hP j hj).symm
theorem MJ{n:Nat}{most:Int}{ts:List Xg}{Zt oz:Int}{a b:Int}{x8 x9:Option Int}{met:List Int}(hl:met.length<=5000)(f g:Nat)(va vb:Int)(hf:∀met,(WB n most ts Zt oz (aA a) (aA b) x8 x9 met)[f]?=aA (aA (.int va)))(hg:∀met,(WB n most ts Zt oz (aA a) (aA b) x8 x9 met)[g]?=aA (aA (.int vb))) :
  ∃met',Wb (Wr (xB (Zf (YC aC) (Za f) (Za 5))) (xB (Zf (YC aD) (Za g) (Za 5)))) (Zy 5 (eP (Za g))) ZI (WB n most ts Zt oz (aA a) (aA b) x8 x9 met)=aA (.nx (WB n most ts Zt oz (aA a) (aA b) x8 x9 met'))/\met'.length<=met.length+1/\(met'=met\/(va∈met/\vb∉met/\met'=met++[vb])):=by
 have h5:(WB n most ts Zt oz (aA a) (aA b) x8 x9 met)[5]?=aA (aA (.lst (iL met))):=rfl
 have t:Wr (xB (Zf (YC aC) (Za f) (Za 5))) (xB (Zf (YC aD) (Za g) (Za 5))) (WB n most ts Zt oz (aA a) (aA b) x8 x9 met)=aA (decide (va∈met)&&!decide (vb∈met)):=by
  simp only[Sl,Yj,ZF,UJ,hf,hg,h5,kW,aE,FD,UK];by_cases h:va∈met<;>simp[h]
 rw[Z8,t];simp only[aE];split
 ·rename_i hc;refine⟨met++[vb],?_,by simp,.inr ⟨by simp at hc;exact hc.1,by simp at hc;exact hc.2,rfl⟩⟩;rw[YX (l:=.int vb) (m:=iL met) (by simp only[Wz,UJ,hg,kW,aE,Iy,if_true]) rfl (by rw[aH];omega)];simp[WB]
 ·exact⟨met,rfl,by omega,.inl rfl⟩
theorem Dy{n:Nat}{most:Int}{ts:List Xg}{Zt oz:Int}{a b:Int}{x8 x9:Option Int}{met:List Int}(hl:met.length<=4000) :
  ∃met',Kq (WB n most ts Zt oz (aA a) (aA b) x8 x9 met)=aA (.nx (WB n most ts Zt oz (aA a) (aA b) x8 x9 met'))/\met'.length<=met.length+2/\(∀a' b':Nat,a=a'->b=b'->Kp ts a' b'->a'<n->b'<n->MetOk n ts met->MetOk n ts met'):=by
 obtain⟨m1,e1,l1,o1⟩:=MJ (n:=n) (most:=most) (ts:=ts) (Zt:=Zt) (oz:=oz) (a:=a) (b:=b) (x8:=x8) (x9:=x9) (met:=met) (by omega) 6 7 a b (λ_=>rfl) (λ_=>rfl);obtain⟨m2,e2,l2,o2⟩:=MJ (n:=n) (most:=most) (ts:=ts) (Zt:=Zt) (oz:=oz) (a:=a) (b:=b) (x8:=x8) (x9:=x9) (met:=m1) (by omega) 7 6 b a (λ_=>rfl) (λ_=>rfl);refine⟨m2,?_,by omega,λa' b' ha hb hab han hbn mk=>?_⟩;rotate_left
 ·subst ha hb
  have k1:MetOk n ts m1:=by
   rcases o1 with rfl | ⟨u,v,rfl⟩
   ·exact mk
   ·exact mk.add (.inl hab) hbn u v
  rcases o2 with rfl | ⟨u,v,rfl⟩
  ·exact k1
  ·exact k1.add (.inr hab) han u v
 unfold Kq;rw[Yk,e1];exact e2
theorem Hy{n:Nat}{most:Int}{ts:List Xg}{Zt oz:Int}{x6 x7 x8 x9:Option Int}{met:List Int}:LD [4,5] (.nx (WB n most ts Zt oz x6 x7 x8 x9 met)) = .nx (WB n most ts Zt oz x6 x7 x8 x9 met):=by cases x6<;>cases x7<;>cases x8<;>cases x9<;>rfl
theorem FG{n:Nat}{most:Int}{ts:List Xg}{Zt oz:Int}{x6 x7 x8 x9:Option Int}{met:List Int}(hl:met.length<=2000)(ht:ts.length<=49)(ok:DictOk n ts)(mk:MetOk n ts met) :
  ∃y6 y7 met',TU [4,5] 4 (.many [6,7]) Kq (WB n most ts Zt oz x6 x7 x8 x9 met)=aA (.nx (WB n most ts Zt oz y6 y7 x8 x9 met'))/\met'.length<=met.length+98/\MetOk n ts met':=by
 obtain⟨s',h,y6,y7,met',e,hle,mk'⟩:=ZP (T:=.many [6,7]) (fb:=Kq) (ls:=ts.map λe=>.tup [.int (e.1:Int),.int (e.2.1:Int)]) (s:=WB n most ts Zt oz x6 x7 x8 x9 met)
  (λj st=>∃y6 y7 met',st=WB n most ts Zt oz y6 y7 x8 x9 met'/\met'.length<=met.length+2*j/\MetOk n ts met') ⟨x6,x7,met,rfl,by omega,mk⟩ (λj l st hl' hJ=>by
   obtain⟨y6,y7,met',rfl,hle,mk'⟩:=hJ;rw[aU] at hl'
   cases he:ts[j]? with
   | none=>rw[he] at hl';cases hl'
   | some e=>
    rw[he] at hl';cases hl';have hj:=(aX.mp he).1;have hmem:=bN he;have hoe:=ok.ok e hmem;obtain⟨m2,e2,l2,o2⟩:=Dy (n:=n) (most:=most) (ts:=ts) (Zt:=Zt) (oz:=oz) (a:=(e.1:Int)) (b:=(e.2.1:Int)) (x8:=x8) (x9:=x9) (met:=met') (by omega);exact⟨_,_,rfl,e2,aA (e.1:Int),aA (e.2.1:Int),m2,rfl,by omega,o2 e.1 e.2.1 rfl rfl ⟨e.2.2,hmem⟩ (by omega) (by omega) mk'⟩)
 rw[aH] at hle;refine⟨y6,y7,met',?_,by omega,mk'⟩;unfold TU;show((Oo (dP ts)).bind λls=>(Y8 _ _ ls _).map (LD [4,5]))=_;rw[Nt];simp only[aE];rw[h,e,bF,Hy]
theorem Dz{n:Nat}{most:Int}{ts:List Xg}{Zt oz:Int}{x6 x7 x8:Option Int}(ht:ts.length<=49)(hn:n<=7)(ok:DictOk n ts)(hn1:1<=n) :
  ∃y6 y7 y9 met',Y8 (.one 9) (TU [4,5] 4 (.many [6,7]) Kq) (Wd n) (WB n most ts Zt oz x6 x7 x8 aB [0])=aA (.nx (WB n most ts Zt oz y6 y7 x8 y9 met'))/\MetOk n ts met':=by
 obtain⟨s',h,y6,y7,y9,met',e,hle,mk⟩:=ZP (T:=.one 9) (fb:=TU [4,5] 4 (.many [6,7]) Kq) (ls:=Wd n) (s:=WB n most ts Zt oz x6 x7 x8 aB [0])
  (λi st=>∃y6 y7 y9 met',st=WB n most ts Zt oz y6 y7 x8 y9 met'/\met'.length<=1+98*i/\MetOk n ts met') ⟨x6,x7,aB,[0],rfl,by simp,⟨by simp,λm hm=>⟨0,by omega,aQ.mp hm,λP _=>Iff.rfl⟩⟩⟩ (λi l st hl' hJ=>by
   obtain⟨hi,rfl⟩:=X2 hl';obtain⟨y6,y7,y9,met',rfl,hle,mk⟩:=hJ;obtain⟨z6,z7,m2,e2,l2,mk2⟩:=FG (n:=n) (most:=most) (ts:=ts) (Zt:=Zt) (oz:=oz) (x6:=y6) (x7:=y7) (x8:=x8) (x9:=aA (i:Int)) (met:=met') (by omega) ht ok mk;exact⟨_,_,rfl,e2,z6,z7,aA (i:Int),m2,rfl,by omega,mk2⟩)
 exact⟨y6,y7,y9,met',by rw[h,e],mk⟩
theorem Q4{n:Nat}{most Zt oz:Int}(h1:1<=most)(h9:most<=9)(hn:n<=7)(hn1:1<=n):∃r,YI [.int Zt,.int (n:Int),.int oz,.int most]=aA r/\(r = .non\/∃ts,r=dP ts/\DictOk n ts/\ts.length<=49/\Hang n ts/\(0<=oz->YO ts<=oz)):=by
 obtain⟨ts,p9,p8,y6,y7,y8,e1,ok,hle,hsu⟩:=FF (n:=n) (Zt:=Zt) (oz:=oz) (met:=[0]) h1 h9 hn;obtain⟨z6,z7,z9,met,e2,mk⟩:=Dz (n:=n) (most:=most) (ts:=ts) (Zt:=p9) (oz:=p8) (x6:=y6) (x7:=y7) (x8:=y8) hle hn ok hn1;refine⟨if met.length=n then dP ts else .non,?_,?_⟩
 ·show Xi 10 X4 [.int Zt,.int (n:Int),.int oz,.int most]=_;have r1:ZG [Za 1] (Z2 [4,5] (WB n most [] Zt oz aB aB aB aB [0]))=aA (Wd n):=Yp (by simp[Z2,WB]) (by omega);have r2:ZG [Za 1] (Z2 [4,5] (WB n most ts p9 p8 y6 y7 y8 aB [0]))=aA (Wd n):=Yp (by simp[Z2,WB]) (by omega);unfold X4;simp only[Xi,Y9,aZ,da,bA,dk,Yk,ZD];show((Z3 [4,5] (ZG [Za 1]) (.one 6) (Z3 [4,5] (Yi [Zf ZO (Za 6) (eC (.int 1)),Za 1]) (.one 7) D8) (WB n most [] Zt oz aB aB aB aB [0])).bind _).bind Xa=_;rw[Yq,r1];simp only[aE];rw[e1];simp only[aE];show((Z3 [4,5] (ZG [Za 1]) (.one 9) (TU [4,5] 4 (.many [6,7]) Kq) (WB n most ts p9 p8 y6 y7 y8 aB [0])).bind _).bind Xa=_;rw[Yq,r2];simp only[aE];rw[e2];simp only[aE];unfold O5;by_cases h:met.length=n
  ·simp[WB,h]
  ·have h':¬((met.length:Int)=(n:Int)):=by omega
   simp[WB,h,h']
 ·by_cases h:met.length=n
  ·rw[pC h];exact .inr ⟨ts,rfl,ok,hle,mk.hang h,hsu⟩
  ·rw[pE h];exact .inl rfl
theorem Za6(c:Int):∃v:Int,1<=v/\v<=9/\Ts [PV.int 1,PV.int 1,PV.int 1,PV.int 2,PV.int 3,PV.int 9] (c%6)=aA (.int v):=by
 have h:c%6=0\/c%6=1\/c%6=2\/c%6=3\/c%6=4\/c%6=5:=by omega
 rcases h with h | h | h | h | h | h<;>rw[h]
 ·exact⟨1,by decide,by decide,rfl⟩
 ·exact⟨1,by decide,by decide,rfl⟩
 ·exact⟨1,by decide,by decide,rfl⟩
 ·exact⟨2,by decide,by decide,rfl⟩
 ·exact⟨3,by decide,by decide,rfl⟩
 ·exact⟨9,by decide,by decide,rfl⟩
theorem Bx(ts:List Xg)(a b:Int):∃c,dIn (dP ts) (.tup [.int a,.int b])=aA c:=⟨_,rfl⟩
theorem AW{f g h k:XS}{s s1 s2 s3:ZJ}(e1:f s=aA (.nx s1))(e2:g s1=aA (.nx s2))(e3:h s2=aA (.nx s3)):Zk f (Zk g (Zk h k)) s=k s3:=by simp only[Yk,e1,e2,e3,aE]
theorem ZH{f g:XS}{s s1:ZJ}(e1:f s=aA (.nx s1)):Zk f g s=g s1:=by simp only[Yk,e1,aE]
theorem AX{f g h:XS}{s s1 s2:ZJ}(e1:f s=aA (.nx s1))(e2:g s1=aA (.nx s2)):Zk f (Zk g h) s=h s2:=by simp only[Yk,e1,e2,aE]
theorem By(n:Nat)(c:Int):(aK n [PV.int c]).flatten=iL (aK n c):=by
 induction n with
 | zero=>rfl
 | succ n ih=>rw[cQ,de,ih,cQ];rfl
theorem FH(l:List Int)(k:Nat):V5 (iL l) aB (aA (k:Int))=iL (l.take k):=by
 unfold V5;rw[HT.sIx_none,HT.sIx_nat,aH,List.drop_zero,Nat.sub_zero,<-fT];congr 1;by_cases h:k<=l.length
 ·rw[hV h]
 ·rw[iZ (by omega),cG (af _),cG (by omega)]
theorem Bz(l:List Int)(k:Nat):V5 (iL l) (aA (k:Int)) aB=iL (l.drop k):=by
 unfold V5;rw[HT.sIx_none,HT.sIx_nat,aH,<-ip,<-fT];congr 1;by_cases h:k<=l.length
 ·rw[hV h,cG (by rw[bq];omega)]
 ·rw[iZ (by omega),gG (af _),gG (by omega)];simp
theorem DA{l:List Int}{h:Nat}(v:Int)(hh:h<l.length):l.take h++[v]++l.drop (h+1)=l.set h v:=by rw[fF,List.set_eq_take_append_cons_drop,pC hh];rfl
theorem DB{l:List Int}{x:Int}(h:x∈l):∃i,i<l.length/\ZL l i=x:=by obtain⟨i,hi,e⟩:=eM h;refine⟨i,hi,?_⟩;unfold ZL;rw[aL,aG hi,e];rfl
end PW
namespace PW
abbrev Mt:=Nat->Nat->Int
def del(i:Nat)(A:Mt):Mt:=λr c=>A (if r<i then r else r+1) (c+1)
abbrev Z7:=Nat×Nat
def Hz(n:Nat):List Z7:=(aS n).flatMap λa=>(aS (n-(a+1))).map λj=>(a,a+1+j)
theorem mem_prs{n a b:Nat}:(a,b)∈Hz n↔a<b/\b<n:=by
 unfold Hz;simp only[ie,bR,aa,o7];constructor
 ·rintro⟨x,hx,j,hj,rfl,rfl⟩;omega
 ·rintro⟨h1,h2⟩;exact⟨a,by omega,b-(a+1),by omega,rfl,by omega⟩
def OC(n:Nat)(w:Nat->Nat->Int):List Z7:=(Hz n).flatMap λp=>aK (w p.1 p.2).toNat p
theorem Q5{α:Type}(p:Z7)(g:α->List Z7):∀l:List α,(l.flatMap g).count p=(l.map λa=>(g a).count p).sum
 | []=>rfl
 | a::l=>by rw[List.flatMap_cons,List.count_append,Q5 p g l,aZ,dF]
theorem FI:∀n,n<=7->(Hz n).Nodup:=by decide +kernel
theorem Rx{f:Z7->Nat}{p:Z7}:∀{l:List Z7},l.Nodup->(∀q∈l,q≠p->f q=0)->(l.map f).sum=if p∈l then f p else 0
 | [],_,_=>by simp
 | q::l,nd,h=>by
  have nd':=az.mp nd;rw[aZ,dF,Rx nd'.2 λr hr=>h r (by simp[hr])];by_cases e:q=p
  ·subst e;rw[pE nd'.1,pC (by simp)];omega
  ·rw[h q (by simp) e,Nat.zero_add];by_cases z:p∈l
   ·rw[pC z,pC (by simp[z])]
   ·rw[pE z,pE (by simp[z];exact λy=>e y.symm)]
theorem MK{n:Nat}(hn:n<=7)(w:Nat->Nat->Int)(p:Z7):(OC n w).count p=if p∈Hz n then(w p.1 p.2).toNat else 0:=by
 unfold OC;rw[Q5,Rx (p:=p) (FI n hn) λq _ hq=>?_]
 ·split
  ·rw[List.count_replicate_self]
  ·rfl
 ·rw[List.count_replicate,pE (by simpa using hq)]
end PW
namespace PK
open PW
def b1(b:Bool):Int:=if b=aD then 1 else 0
def Wk(m:Nat->Nat)(a b:Nat):Nat->Nat:=λx=>if m x=m a then m b else m x
def Zw(E:List Z7)(i:Nat):Z7:=E.getD i (0,0)
theorem Kr{m:Nat->Nat}{a b x y:Nat}(h:m x=m y):Wk m a b x=Wk m a b y:=by unfold Wk;rw[h]
end PK
namespace PW
open PK
structure WS where
 L:List Nat
 F:List Nat
 B:List (Nat×Nat×Nat)
def Xv(E:List Z7)(L F:List Nat):Option Nat:=(aS E.length).find? λk=>!decide (k∈L)&&(decide ((Zw E k).1∈F) != decide ((Zw E k).2∈F))
def ZQ(E:List Z7)(F:List Nat)(k:Nat):Nat:=if(Zw E k).1∈F then(Zw E k).2 else(Zw E k).1
def PH(E:List Z7)(h j:Nat):Bool:=decide (h=(Zw E j).1) || decide (h=(Zw E j).2)
def Z4(E:List Z7)(L:List Nat)(h:Nat):Nat:=(L.filter (PH E h)).length
def Z0(E:List Z7)(φ:Nat->Nat->Nat->Bool)(s:WS)(k:Nat):WS:=
 if φ k (ZQ E s.F k) (Z4 E (s.L++[k]) (ZQ E s.F k))=aD then⟨s.L++[k],s.F++[ZQ E s.F k],s.B++[(k,ZQ E s.F k,Z4 E (s.L++[k]) (ZQ E s.F k))]⟩ else⟨s.L++[k],s.F,s.B⟩
def Yb(E:List Z7)(φ:Nat->Nat->Nat->Bool):Nat->WS->WS
 | 0,s=>s
 | n+1,s=>match Xv E s.L s.F with
  | some k=>Yb E φ n (Z0 E φ s k)
  | none=>s
def R8(b:Nat):WS:=⟨[],[b],[]⟩
theorem XM{E:List Z7}{L F:List Nat}{k:Nat}(h:Xv E L F=aA k):k<E.length/\k∉L/\(decide ((Zw E k).1∈F) != decide ((Zw E k).2∈F))=aD:=by have h1:=lC h;have h2:=gp h;simp only[ak,gU,decide_eq_false_iff_not] at h1;exact⟨bR.mp h2,h1⟩
theorem HA{E:List Z7}{L F:List Nat}(h:Xv E L F=aB){k:Nat}(hk:k<E.length)(hL:k∉L):(Zw E k).1∈F↔(Zw E k).2∈F:=by
 have:=gH.mp h k (bR.mpr hk);simp only[hL,decide_false,iU,kF,i9,bne_eq_false_iff_eq] at this;by_cases a:(Zw E k).1∈F
 ·by_cases b:(Zw E k).2∈F
  ·exact⟨λ_=>b,λ_=>a⟩
  ·simp[a,b] at this
 ·by_cases b:(Zw E k).2∈F
  ·simp[a,b] at this
  ·exact⟨λz=>absurd z a,λz=>absurd z b⟩
theorem Q6{E:List Z7}{L F:List Nat}{k:Nat}(h:Xv E L F=aA k):ZQ E F k∉F/\PH E (ZQ E F k) k=aD/\∃o∈F,(Zw E k=(o,ZQ E F k)\/Zw E k=(ZQ E F k,o)):=by
 obtain⟨_,_,h3⟩:=XM h;unfold ZQ PH;by_cases a:(Zw E k).1∈F
 ·by_cases b:(Zw E k).2∈F
  ·simp[a,b] at h3
  ·rw[pC a];exact⟨b,by simp,_,a,.inl rfl⟩
 ·by_cases b:(Zw E k).2∈F
  ·rw[pE a];exact⟨a,by simp,_,b,.inr rfl⟩
  ·simp[a,b] at h3
theorem FJ{E:List Z7}{L:List Nat}{k h:Nat}(a:PH E h k=aD):Z4 E (L++[k]) h=Z4 E L h+1:=by unfold Z4;rw[mh,aY];simp[a]
theorem ML{E:List Z7}{L:List Nat}{k h:Nat}(a:PH E h k=aC):Z4 E (L++[k]) h=Z4 E L h:=by unfold Z4;rw[mh,aY];simp[a]
structure WInv(E:List Z7)(n b:Nat)(s:WS):Prop where
 ndL:s.L.Nodup
 ltL:∀k∈s.L,k<E.length
 ndF:s.F.Nodup
 ltF:∀h∈s.F,h<n
 hB:s.F=b::s.B.map (·.2.1)
 bl:∀x∈s.B,x.1∈s.L
 ndB:(s.B.map (·.1)).Nodup
 cn:∀q:Nat->Nat,(∀x∈s.B,q (Zw E x.1).1=q (Zw E x.1).2)->∀h∈s.F,q h=q b
theorem WInv.start{E:List Z7}{n b:Nat}(hb:b<n):WInv E n b (R8 b):=
 ⟨cM,λk hk=>by simp[R8] at hk,by simp[R8],λh hh=>by simp[R8] at hh;omega,rfl,λx hx=>by simp[R8] at hx,by simp[R8],λq _ h hh=>by simp[R8] at hh;rw[hh]⟩
theorem Wl{α:Type}{l:List α}{a:α}(h:l.Nodup)(n:a∉l):(l++[a]).Nodup:=by rw[cW];exact⟨h,by simp,λx hx y hy z=>by rw[aQ.mp hy] at z;exact n (z▸hx)⟩
theorem WInv.step{E:List Z7}{n b k:Nat}{s:WS}{φ:Nat->Nat->Nat->Bool}(hE:∀e∈E,e.1<n/\e.2<n)(i:WInv E n b s)(hk:Xv E s.L s.F=aA k):WInv E n b (Z0 E φ s k):=by
 obtain⟨k1,k2,_⟩:=XM hk;obtain⟨e1,e2,o,ho,e3⟩:=Q6 hk;have ndL:(s.L++[k]).Nodup:=Wl i.ndL k2
 have ltL:∀j∈s.L++[k],j<E.length:=λj hj=>by
  rcases aq.mp hj with z | z
  ·exact i.ltL j z
  ·rw[aQ.mp z];exact k1
 have eE:Zw E k∈E:=by unfold Zw;rw[aL,aG k1];exact cA k1
 have lt:ZQ E s.F k<n:=by
  have:=hE _ eE;rcases e3 with z | z<;>rw[z] at this
  ·exact this.2
  ·exact this.1
 unfold Z0;split
 ·refine⟨ndL,ltL,Wl i.ndF e1,λh hh=>?_,?_,λx hx=>?_,?_,λq hq h hh=>?_⟩
  ·rcases aq.mp hh with z | z
   ·exact i.ltF h z
   ·rw[aQ.mp z];exact lt
  ·show s.F++[_]=b::(s.B++[_]).map _;rw[bV,<-i0,<-i.hB];rfl
  ·rcases aq.mp hx with z | z
   ·exact av _ (i.bl x z)
   ·rw[aQ.mp z];exact au _ (by simp)
  ·show((s.B++[_]).map _).Nodup;rw[bV];refine Wl i.ndB λz=>?_;obtain⟨x,hx,ex⟩:=aa.mp z;have:=i.bl x hx;rw[ex] at this;exact k2 this
  ·have old:∀h∈s.F,q h=q b:=i.cn q λx hx=>hq x (av _ hx);rcases aq.mp hh with z | z
   ·exact old h z
   ·rw[aQ.mp z];have:=hq (k,ZQ E s.F k,Z4 E (s.L++[k]) (ZQ E s.F k)) (au _ (by simp));have oo:=old o ho;simp only at this;rcases e3 with y | y
    ·rw[y] at this;exact this.symm.trans oo
    ·rw[y] at this;exact this.trans oo
 ·exact⟨ndL,ltL,i.ndF,i.ltF,i.hB,λx hx=>av _ (i.bl x hx),i.ndB,i.cn⟩
theorem WInv.walk{E:List Z7}{n b:Nat}{φ:Nat->Nat->Nat->Bool}(hE:∀e∈E,e.1<n/\e.2<n):∀{m:Nat}{s:WS},WInv E n b s->WInv E n b (Yb E φ m s)
 | 0,s,i=>i
 | m+1,s,i=>by
  unfold Yb;split
  ·rename_i k hk;exact WInv.walk hE (i.step hE hk)
  ·exact i
theorem TB{n:Nat}:∀{l:List Nat},l.Nodup->(∀x∈l,x<n)->l.length<=n:=by
 induction n with
 | zero=>
  intro l _ h
  cases l with
  | nil=>simp
  | cons a r=>exact absurd (h a (by simp)) (by omega)
 | succ n ih=>
  intro l nd h
  have h1:=ih (l:=l.filter (· != n)) (nd.filter _) λx hx=>by
   have:=gK.mp hx;have h2:=h x this.1;have h3:x≠n:=by simpa using this.2
   omega
  have h2:l.length<=(l.filter (· != n)).length+1:=by
   clear h h1 ih
   induction l with
   | nil=>simp
   | cons a r ih2=>
    have nr:=az.mp nd;rw[List.filter_cons];by_cases e:a=n
    ·subst e;have:r.filter (· != a)=r:=List.filter_eq_self.mpr λx hx=>by have:x≠a:=λz=>nr.1 (z▸hx);simpa using this
     simp[this]
    ·have e2:(a != n)=aD:=by simpa using e
     rw[e2];simp only[if_true,bA];have:=ih2 nr.2;omega
  omega
theorem SK{E:List Z7}{n b:Nat}{φ:Nat->Nat->Nat->Bool}(hE:∀e∈E,e.1<n/\e.2<n):∀{m:Nat}{s:WS},WInv E n b s->E.length<=m+s.L.length->Xv E (Yb E φ m s).L (Yb E φ m s).F=aB
 | 0,s,i,h=>by
  unfold Yb
  cases z:Xv E s.L s.F with
  | none=>rfl
  | some k=>
   obtain⟨k1,k2,_⟩:=XM z
   have:=TB (n:=E.length) (Wl i.ndL k2) λx hx=>by
    rcases aq.mp hx with y | y
    ·exact i.ltL x y
    ·rw[aQ.mp y];exact k1
   rw[aY,cD] at this;omega
 | m+1,s,i,h=>by
  unfold Yb
  cases z:Xv E s.L s.F with
  | none=>exact z
  | some k=>
   refine SK hE (i.step hE z) ?_
   have:(Z0 E φ s k).L.length=s.L.length+1:=by
    unfold Z0;split<;>simp
   omega
theorem Q7(E:List Z7)(φ:Nat->Nat->Nat->Bool)(s:WS)(k:Nat):(Z0 E φ s k).L=s.L++[k]:=by unfold Z0;split<;>rfl
theorem MM{E:List Z7}{φ:Nat->Nat->Nat->Bool}:∀{m:Nat}{s:WS}{k:Nat},k∈s.L->k∈(Yb E φ m s).B.map (·.1)->k∈s.B.map (·.1)
 | 0,s,k,_,h=>h
 | m+1,s,k,hk,h=>by
  unfold Yb at h;split at h
  ·rename_i j hj;have h1:=MM (s:=Z0 E φ s j) (by rw[Q7];exact av _ hk) h;obtain⟨_,j2,_⟩:=XM hj;unfold Z0 at h1;split at h1
   ·rw[bV] at h1;rcases aq.mp h1 with z | z
    ·exact z
    ·have:k=j:=by simpa using z
     exact absurd (this▸hk) j2
   ·exact h1
  ·exact h
theorem OD{E:List Z7}{φ:Nat->Nat->Nat->Bool}:∀{m:Nat}{s:WS}{x:Nat×Nat×Nat},x∈s.B->x∈(Yb E φ m s).B
 | 0,s,x,h=>h
 | m+1,s,x,h=>by
  unfold Yb;split
  ·refine OD ?_;unfold Z0;split
   ·exact av _ h
   ·exact h
  ·exact h
theorem Q8{E:List Z7}{φ:Nat->Nat->Nat->Bool}{T:List Nat}:∀{m:Nat}{s:WS},(∀x∈s.B,x.1∈s.L)->(∀k,k∈T↔k∈(Yb E φ m s).B.map (·.1))->Yb E (λk _ _=>decide (k∈T)) m s=Yb E φ m s
 | 0,s,_,_=>rfl
 | m+1,s,hb,hT=>by
  unfold Yb at hT ⊢
  cases z:Xv E s.L s.F with
  | none=>rfl
  | some k=>
   rw[z] at hT;simp only at hT ⊢;obtain⟨_,k2,_⟩:=XM z;have kL:k∈(Z0 E φ s k).L:=by rw[Q7];simp
   have same:Z0 E (λk _ _=>decide (k∈T)) s k=Z0 E φ s k:=by
    by_cases c:φ k (ZQ E s.F k) (Z4 E (s.L++[k]) (ZQ E s.F k))=aD
    ·have hk:k∈T:=(hT k).mpr (by
      have:(k,ZQ E s.F k,Z4 E (s.L++[k]) (ZQ E s.F k))∈(Z0 E φ s k).B:=by unfold Z0;rw[pC c];simp
      exact aa.mpr ⟨_,OD this,rfl⟩)
     unfold Z0;rw[pC c,pC (by simpa using hk)]
    ·have hk:k∉T:=λy=>by
      have h1:=MM kL ((hT k).mp y);have h2:(Z0 E φ s k).B=s.B:=by unfold Z0;rw[pE c]
      rw[h2] at h1;obtain⟨x,hx,ex⟩:=aa.mp h1;exact k2 (ex▸hb x hx)
     unfold Z0;rw[pE c,pE (by simpa using hk)]
   rw[same];refine Q8 (λx hx=>?_) hT;rw[Q7];unfold Z0 at hx;split at hx
   ·rcases aq.mp hx with y | y
    ·exact av _ (hb x y)
    ·rw[aQ.mp y];simp
   ·exact av _ (hb x hx)
theorem Q9{E:List Z7}{φ ψ:Nat->Nat->Nat->Bool}{b:Nat}(h:∀k g c,g≠b->φ k g c=ψ k g c):∀{m:Nat}{s:WS},b∈s.F->Yb E φ m s=Yb E ψ m s
 | 0,s,_=>rfl
 | m+1,s,hb=>by
  unfold Yb
  cases z:Xv E s.L s.F with
  | none=>rfl
  | some k=>
   obtain⟨e1,_⟩:=Q6 z;have ne:ZQ E s.F k≠b:=λy=>e1 (y▸hb);have same:Z0 E φ s k=Z0 E ψ s k:=by unfold Z0;rw[h _ _ _ ne]
   simp only;rw[same];refine Q9 h ?_;unfold Z0;split
   ·exact av _ hb
   ·exact hb
def PJ(D:Nat->Int):Nat->Nat->Nat->Bool:=λ_ h c=>decide (D h<(c:Int))
structure PInv(E:List Z7)(n:Nat)(D:Nat->Int)(s:WS):Prop where
 out:∀h,h<n->h∉s.F->(Z4 E s.L h:Int)<=D h
 bur:∀x∈s.B,(x.2.2:Int)=D x.2.1+1
theorem PInv.step{E:List Z7}{n b k:Nat}{D:Nat->Int}{s:WS}(hE:∀e∈E,e.1<n/\e.2<n)(p:PInv E n D s)(hk:Xv E s.L s.F=aA k):PInv E n D (Z0 E (PJ D) s k):=by
 obtain⟨k1,k2,_⟩:=XM hk;obtain⟨e1,e2,o,ho,e3⟩:=Q6 hk;have eE:Zw E k∈E:=by unfold Zw;rw[aL,aG k1];exact cA k1
 have lt:ZQ E s.F k<n:=by
  have:=hE _ eE;rcases e3 with z | z<;>rw[z] at this
  ·exact this.2
  ·exact this.1
 have oth:∀g,g∉s.F->g≠ZQ E s.F k->PH E g k=aC:=λg hg hne=>by
  unfold PH;have go:g≠o:=λz=>hg (z▸ho);rcases e3 with z | z<;>rw[z]<;>simp[go,hne]
 have hs:=p.out _ lt e1;have hn:=FJ (L:=s.L) e2;unfold Z0 PJ;split
 ·rename_i c;have c:D (ZQ E s.F k)<(Z4 E (s.L++[k]) (ZQ E s.F k):Int):=of_decide_eq_true c;refine⟨λh hh hF=>?_,λx hx=>?_⟩
  ·have h1:h∉s.F:=λz=>hF (av _ z);have h2:h≠ZQ E s.F k:=λz=>hF (au _ (by simp[z]));rw[ML (oth h h1 h2)];exact p.out h hh h1
  ·rcases aq.mp hx with z | z
   ·exact p.bur x z
   ·rw[aQ.mp z];show((Z4 E (s.L++[k]) (ZQ E s.F k):Nat):Int)=D (ZQ E s.F k)+1;omega
 ·rename_i c;have c:¬D (ZQ E s.F k)<(Z4 E (s.L++[k]) (ZQ E s.F k):Int):=λz=>c (decide_eq_true z);refine⟨λh hh hF=>?_,p.bur⟩;by_cases h2:h=ZQ E s.F k
  ·rw[h2];show(Z4 E (s.L++[k]) (ZQ E s.F k):Int)<=_;omega
  ·rw[ML (oth h hF h2)];exact p.out h hh hF
theorem PInv.walk{E:List Z7}{n:Nat}{D:Nat->Int}(hE:∀e∈E,e.1<n/\e.2<n):∀{m:Nat}{s:WS},PInv E n D s->PInv E n D (Yb E (PJ D) m s)
 | 0,s,i=>i
 | m+1,s,i=>by
  unfold Yb;split
  ·rename_i k hk;exact PInv.walk hE (i.step (b:=0) hE hk)
  ·exact i
theorem PInv.start{E:List Z7}{n b:Nat}{D:Nat->Int}(h:∀g,g<n->g≠b->0<=D g):PInv E n D (R8 b):=
 ⟨λg hg hF=>by
  have:g≠b:=λz=>hF (by simp[R8,z]);have:=h g hg this;simp only[R8,Z4,List.filter_nil,dk];omega,λx hx=>by simp[R8] at hx⟩
end PW
namespace PK
open PW
def Nu(m:Nat->Nat):List Z7->Nat->Nat
 | []=>m
 | e::T=>Nu (Wk m e.1 e.2) T
def swE(e:Z7):Z7:=(e.2,e.1)
theorem MN:∀{T:List Z7}{m:Nat->Nat}{x y:Nat},m x=m y->Nu m T x=Nu m T y
 | [],m,x,y,h=>h
 | e::T,m,x,y,h=>MN (T:=T) (Kr h)
theorem Ks(m:Nat->Nat)(a b:Nat):Wk m a b a=Wk m a b b:=by
 unfold Wk;rw[pC rfl];split<;>rfl
theorem MO:∀{T:List Z7}{m:Nat->Nat},∀e∈T,Nu m T e.1=Nu m T e.2
 | [],m,e,h=>by simp at h
 | f::T,m,e,h=>by
  rcases a9.mp h with rfl | h
  ·exact MN (T:=T) (Ks m _ _)
  ·exact MO (T:=T) e h
theorem JN:∀(A B:List Z7)(m:Nat->Nat),Nu m (A++B)=Nu (Nu m A) B
 | [],B,m=>rfl
 | e::A,B,m=>JN A B (Wk m e.1 e.2)
theorem Pa{a:Int}:∀{l:List Int},(∀x∈l,x=a)->l.foldl (λ(Z:List Int) k=>if Z.any (·==k) then Z else Z++[k]) [a]=[a]
 | [],_=>rfl
 | b::l,h=>by
  have hb:=h b (by simp);subst hb;rw[fB];have:([b].any (·==b))=aD:=by simp
  rw[pC this];exact Pa λx hx=>h x (by simp[hx])
end PK
namespace PW
open L2 VL
theorem HB{f g:XS}{s:ZJ}{v:PV}(e1:f s=aA (.rt v)):Zk f g s=aA (.rt v):=by rw[Yk,e1];rfl
section
variable {s:ZJ} {f g:XE} {a b:Int} {C:Int->Int->Prop} [∀i j,Decidable (C i j)] {op:Int->Int->Int}
theorem vC(h1:f s=aA (.int a))(h2:g s=aA (.int b))(c:C a b):Zf (Gp C op) f g s=aA (.int (op a b)):=by rw[ZF,h1,h2];simp only[aE,Ba,pC c]
theorem vI(h1:f s=aA (.int a))(h2:g s=aA (.int b)):Zf (gI op) f g s=aA (.int (op a b)):=by rw[ZF,h1,h2];rfl
theorem vP(h1:f s=aA (.int a)):eP f s=aA (.int a):=by rw[Wz,h1];rfl
theorem SM{v:PV}(h1:f s=aA v):Ya f s=aA (.rt v):=by rw[QG,h1];rfl
end
theorem OE{z:Int}(h:z.natAbs<2^1000):z.natAbs.log2<67108863:=by
 by_cases h0:z.natAbs=0
 ·rw[h0];decide +kernel
 ·have:=(nZ h0).mpr h;omega
def nL(l:List Nat):List Int:=l.map λ(i:Nat)=>(i:Int)
theorem Kt{y:Nat}{l:List Nat}:(y:Int)∈nL l↔y∈l:=by unfold nL;rw[aa];exact⟨λ⟨a,h,e⟩=>by rw[show y=a by omega];exact h,λh=>⟨y,h,rfl⟩⟩
def ZT(W:List (List Int))(h:Nat)(F:List Nat):Int:=(F.map λo=>XQ W h o).sum
theorem Pb{W:List (List Int)}{h i j k:Nat}{F:List Nat}{s:ZJ}(ok:ZV W)(hh:h<W.length)(hF:∀x∈F,x<W.length)(hl:F.length<=100)(e0:s[i]?=aA (aA (wP W)))(e1:s[j]?=aA (aA (.int (h:Int))))(e2:s[k]?=aA (aA (.lst (iL (nL F))))) :
  Zd V3 [ZA 1 [i,j] (YW (Za k)) (.one 0) ZZ (Zf Zn (Zf Zn (Za 1) (Za 2)) (Za 0))] s=aA (.int (ZT W h F)):=by
 have hc:ZA 1 [i,j] (YW (Za k)) (.one 0) ZZ (Zf Zn (Zf Zn (Za 1) (Za 2)) (Za 0)) s=aA (.lst (iL (F.map λo=>XQ W h o))):=by
  rw[Y2 F (λ(o:Nat)=>.int (o:Int)) (λo=>.int (XQ W h o)) (by simp[e2,nL]) (by omega) (λo ho=>⟨_,rfl,rfl,?_⟩)]
  ·simp
  ·have hr:=ok.sq h hh;have:=Vv (l:=ZK W h) (k:=o) (by rw[hr];exact hF o ho);simp[compEnv,e0,e1,Sn hh,this];rfl
 simp only[XI,YH,Js,hc,aE,bF];exact GP _
theorem Ku{W:List (List Int)}{h:Nat}{F:List Nat}(ok:ZV W)(hh:h<W.length)(hF:∀x∈F,x<W.length)(hl:F.length<=100):VG [wP W,.int (h:Int),.lst (iL (nL F))]=aA (.int (ZT W h F)):=by show Xi 3 U9 _=_;unfold U9;show(Ya _ [aA (wP W),aA (.int (h:Int)),aA (.lst (iL (nL F)))]).bind Xa=_;rw[SM (vP (Pb (i:=0) (j:=1) (k:=2) ok hh hF hl rfl rfl rfl))];rfl
theorem Tn{α:Type}{T:Tgt}{fb:XS}{q g:α->PV}{c:α->Bool}(S:ZJ->Prop):∀{ls:List α}{s:ZJ},(∀a∈ls,∀s,S s->∃s1,Vj T (q a) s=aA s1/\((c a=aD->fb s1=aA (.rt (g a)))/\(c a=aC->∃s2,fb s1=aA (.nx s2)/\S s2)))->S s->
  match ls.find? c with | some a=>Y8 T fb (ls.map q) s=aA (.rt (g a)) | none=>∃s',Y8 T fb (ls.map q) s=aA (.nx s')/\S s'
 | [],s,_,h0=>⟨s,rfl,h0⟩
 | a::r,s,h,h0=>by
  obtain⟨s1,e1,ht,hf⟩:=h a ag s h0;rw[cf]
  cases ca:c a with
  | true=>
   show Y8 T fb (q a::r.map q) s=_;unfold Y8;rw[e1];simp only[aE,ht ca]
  | false=>
   obtain⟨s2,e2,h2⟩:=hf ca;have ih:=Tn S (ls:=r) (s:=s2) (λb hb=>h b (aT _ hb)) h2
   have e:Y8 T fb ((a::r).map q) s=Y8 T fb (r.map q) s2:=by
    show Y8 T fb (q a::r.map q) s=_;unfold Y8;rw[e1];simp only[aE,e2];cases r.map q<;>rfl
   rw[e];exact ih
def Xe(W:List (List Int))(D:List Int)(F:List Nat):Option Nat:=(aS W.length).find? λh=>!decide (h∈F)&&decide (ZL D h<ZT W h F)
def XU:Option Nat->PV
 | none=>.non
 | some h=>.int (h:Int)
theorem UX(y:Nat)(l:List Nat):YC aD (.int (y:Int)) (.lst (iL (nL l)))=aA (.bl (!decide (y∈l))):=by rw[FD];have:=Kt (y:=y) (l:=l);simp[this]
theorem To(y:Nat)(l:List Nat):YC aC (.int (y:Int)) (.lst (iL (nL l)))=aA (.bl (decide (y∈l))):=by rw[FD];have:=Kt (y:=y) (l:=l);simp[this]
theorem Ry{W:List (List Int)}{D:List Int}{F:List Nat}(ok:ZV W)(hd:D.length=W.length)(hF:∀x∈F,x<W.length)(hl:F.length<=100):ZX [wP W,pP D,.lst (iL (nL F))]=aA (XU (Xe W D F)):=by
 have hf:=ok.few
 have key:=Tn (T:=.many [3,4]) (fb:=Wb (Wr (xB (Zf (YC aD) (Za 3) (Za 2))) (xB (Zf S4 (Za 4) (Zd VG [Za 0,Za 3,Za 2])))) (Ya (eP (Za 3))) ZI) (q:=λ(i:Nat)=>.tup [.int (i:Int),.int (ZL D i)]) (g:=λ(i:Nat)=>.int (i:Int)) (c:=λh=>!decide (h∈F)&&decide (ZL D h<ZT W h F))
  (λst=>∃x y,st=[aA (wP W),aA (pP D),aA (.lst (iL (nL F))),x,y]) (ls:=aS W.length) (s:=[aA (wP W),aA (pP D),aA (.lst (iL (nL F))),aB,aB]) (by
   rintro h hh st ⟨x,y,rfl⟩;have hh:=bR.mp hh;have et:=Ku ok hh hF hl;refine⟨_,rfl,λhc=>?_,λhc=>?_⟩
   ·simp only[ak,gU,decide_eq_false_iff_not,decide_eq_true_eq] at hc;simp[setAll,UX,hc.1,et,hc.2]
   ·refine⟨[aA (wP W),aA (pP D),aA (.lst (iL (nL F))),aA (.int (h:Int)),aA (.int (ZL D h))],?_,_,_,rfl⟩;by_cases q:h∈F
    ·simp[setAll,UX,q]
    ·have:¬ZL D h<ZT W h F:=λz=>by simp[q,z] at hc
     simp[setAll,UX,q,et,this]) ⟨_,_,rfl⟩
 have en:WC aC [Za 1] [aA (wP W),aA (pP D),aA (.lst (iL (nL F))),aB,aB]=aA ((aS W.length).map λ(i:Nat)=>.tup [.int (i:Int),.int (ZL D i)]):=by have:=JL D;rw[hd] at this;simp[this]
 show Xi 5 XA _=_;unfold XA;show(Zk (Z3 [] _ _ _) _ [aA (wP W),aA (pP D),aA (.lst (iL (nL F))),aB,aB]).bind Xa=_;unfold Xe
 cases q:(aS W.length).find? λh=>!decide (h∈F)&&decide (ZL D h<ZT W h F) with
 | some h=>
  rw[q] at key;rw[HB (v:=.int (h:Int))]
  ·rfl
  ·show(WC aC [Za 1] [aA (wP W),aA (pP D),aA (.lst (iL (nL F))),aB,aB]).bind _=_;rw[en];exact key
 | none=>
  rw[q] at key;obtain⟨s',k1,x,y,rfl⟩:=key;rw[ZH (s1:=[aA (wP W),aA (pP D),aA (.lst (iL (nL F))),x,y])]
  ·rfl
  ·show(WC aC [Za 1] [aA (wP W),aA (pP D),aA (.lst (iL (nL F))),aB,aB]).bind _=_;rw[en];exact k1
theorem BA{c:XT}{fb:XS}(Jv:ZJ->Prop)(μ:ZJ->Nat)(step:∀st,Jv st->c st=aA aC\/(c st=aA aD/\∃s2,fb st=aA (.nx s2)/\Jv s2/\μ s2<μ st)){s:ZJ}(h0:Jv s) :
  ∃s',Vu c fb s=aA (.nx s')/\Jv s'/\c s'=aA aC:=by
 have gen:∀(k:Nat)(st:ZJ),μ st<k->Jv st->∃s',YG c fb k st=aA (.nx s')/\Jv s'/\c s'=aA aC:=by
  intro k
  induction k with
  | zero=>intro st h;omega
  | succ k ih=>
   intro st hk hJ;rcases step st hJ with hc | ⟨hc,s2,e,hJ2,hm⟩
   ·exact⟨st,by unfold YG;rw[hc];rfl,hJ,hc⟩
   ·obtain⟨s',a,b,d⟩:=ih s2 (by omega) hJ2;refine⟨s',?_,b,d⟩;unfold YG;rw[hc];simp only[aE,if_true,e];exact a
 obtain⟨s',a,b,d⟩:=gen (μ s+1) s (by omega) h0;exact⟨s',Oi a,b,d⟩
structure Burn(W:List (List Int))(D:List Int)(b:Nat)(F:List Nat):Prop where
 nd:F.Nodup
 lt:∀x∈F,x<W.length
 hd:F[0]?=aA b
 st:∀k,1<=k->k<F.length->Xe W D (F.take k)=F[k]?
theorem Burn.len{W:List (List Int)}{D:List Int}{b:Nat}{F:List Nat}(h:Burn W D b F):F.length<=W.length:=by
 have nd:(nL F).Nodup:=List.Pairwise.map _ (λa b z=>by omega) h.nd;have:=Wv (l:=nL F) (m:=nL (aS W.length)) nd λy hy=>by obtain⟨a,ha,rfl⟩:=aa.mp hy;exact aa.mpr ⟨a,bR.mpr (h.lt a ha),rfl⟩
 simpa [nL] using this
theorem Burn.pos{W:List (List Int)}{D:List Int}{b:Nat}{F:List Nat}(h:Burn W D b F):1<=F.length:=(aX.mp h.hd).1
theorem Burn.one{W:List (List Int)}{D:List Int}{b:Nat}(hb:b<W.length):Burn W D b [b]:=⟨by simp,λx hx=>by rw[aQ.mp hx];exact hb,rfl,λk h1 h2=>by simp at h2;omega⟩
theorem T4{W:List (List Int)}{D:List Int}{F:List Nat}{h:Nat}(e:Xe W D F=aA h):h<W.length/\h∉F/\ZL D h<ZT W h F:=by have h1:=lC e;have h2:=gp e;simp only[ak,gU,decide_eq_false_iff_not,decide_eq_true_eq] at h1;exact⟨bR.mp h2,h1⟩
theorem Kv{W:List (List Int)}{D:List Int}{F:List Nat}(e:Xe W D F=aB){h:Nat}(hh:h<W.length)(hF:h∉F):ZT W h F<=ZL D h:=by have:=gH.mp e h (bR.mpr hh);simp[hF] at this;exact this
theorem Burn.add{W:List (List Int)}{D:List Int}{b h:Nat}{F:List Nat}(B:Burn W D b F)(e:Xe W D F=aA h):Burn W D b (F++[h]):=by
 obtain⟨h1,h2,_⟩:=T4 e;have hp:=B.pos;refine⟨?_,λx hx=>?_,?_,λk k1 k2=>?_⟩
 ·rw[cW];exact⟨B.nd,by simp,λa ha c hc z=>by rw[aQ.mp hc] at z;exact h2 (z▸ha)⟩
 ·rcases aq.mp hx with hx | hx
  ·exact B.lt x hx
  ·rw[aQ.mp hx];exact h1
 ·rw[bP (by omega)];exact B.hd
 ·rw[aY,cD] at k2;by_cases q:k<F.length
  ·rw[List.take_append_of_le_length (by omega),bP q];exact B.st k k1 q
  ·have:k=F.length:=by omega
   subst this;rw[List.take_left',e,bX (by omega)]
   ·simp
   ·rfl
theorem MP{W:List (List Int)}{D:List Int}{b:Nat}(ok:ZV W)(hd:D.length=W.length)(hb:b<W.length):∃F,WR [wP W,pP D,.int (b:Int)]=aA (.lst (iL (nL F)))/\Burn W D b F/\Xe W D F=aB:=by
 have hf:=ok.few;have hn:∀F:List Nat,Burn W D b F->ZX [wP W,pP D,.lst (iL (nL F))]=aA (XU (Xe W D F)):=λF B=>Ry ok hd B.lt (by have:=B.len;omega)
 obtain⟨s',q1,⟨F,rfl,B⟩,q3⟩:=BA (c:=xB (Tq aD (Za 4))) (fb:=Zk (Zy 3 (eP (Za 4))) (Zl 4 (Zd ZX [Za 0,Za 1,Za 3])))
  (λst=>∃F,st=[aA (wP W),aA (pP D),aA (.int (b:Int)),aA (.lst (iL (nL F))),aA (XU (Xe W D F))]/\Burn W D b F)
  (λst=>match st[3]? with | some (aA (PV.lst l))=>8-l.length | _=>0) (by
   rintro st ⟨F,rfl,B⟩
   cases e:Xe W D F with
   | none=>exact .inl (by simp[RU,XU])
   | some h=>
    have B':=B.add e;have hl:=B'.len;rw[aY,cD] at hl;refine .inr ⟨by simp[RU,XU],[aA (wP W),aA (pP D),aA (.int (b:Int)),aA (.lst (iL (nL (F++[h])))),aA (XU (Xe W D (F++[h])))],?_,⟨F++[h],rfl,B'⟩,?_⟩
    ·have e1:Zy 3 (eP (Za 4)) [aA (wP W),aA (pP D),aA (.int (b:Int)),aA (.lst (iL (nL F))),aA (XU (aA h))]=aA (.nx [aA (wP W),aA (pP D),aA (.int (b:Int)),aA (.lst (iL (nL (F++[h])))),aA (XU (aA h))]):=by rw[YX (m:=iL (nL F)) (l:=.int (h:Int)) rfl rfl (by simp[nL];omega)];simp[nL]
     have e2:Zl 4 (Zd ZX [Za 0,Za 1,Za 3]) [aA (wP W),aA (pP D),aA (.int (b:Int)),aA (.lst (iL (nL (F++[h])))),aA (XU (aA h))]=aA (.nx [aA (wP W),aA (pP D),aA (.int (b:Int)),aA (.lst (iL (nL (F++[h])))),aA (XU (Xe W D (F++[h])))]):=by have:=hn _ B';generalize hh:iL (nL (F++[h]))=z at this ⊢;simp[this]
     rw[ZH e1,e2]
    ·show 8-(iL (nL (F++[h]))).length<8-(iL (nL F)).length;simp[nL];omega) (s:=[aA (wP W),aA (pP D),aA (.int (b:Int)),aA (.lst (iL (nL [b]))),aA (XU (Xe W D [b]))]) ⟨[b],rfl,Burn.one hb⟩
 have en:Xe W D F=aB:=by
  cases e:Xe W D F with
  | none=>rfl
  | some h=>rw[e] at q3;simp[RU,XU] at q3
 refine⟨F,?_,B,en⟩;have e1:Zl 3 (ZN [eP (Za 2)]) [aA (wP W),aA (pP D),aA (.int (b:Int)),aB,aB]=aA (.nx [aA (wP W),aA (pP D),aA (.int (b:Int)),aA (.lst (iL (nL [b]))),aB]):=by simp[nL]
 have e2:Zl 4 (Zd ZX [Za 0,Za 1,Za 3]) [aA (wP W),aA (pP D),aA (.int (b:Int)),aA (.lst (iL (nL [b]))),aB]=aA (.nx [aA (wP W),aA (pP D),aA (.int (b:Int)),aA (.lst (iL (nL [b]))),aA (XU (Xe W D [b]))]):=by have:=hn _ (Burn.one hb);generalize hh:iL (nL [b])=z at this ⊢;simp[this]
 show Xi 5 R6 _=_;unfold R6;show(Zk _ _ [aA (wP W),aA (pP D),aA (.int (b:Int)),aB,aB]).bind Xa=_;rw[ZH e1,ZH e2,ZH q1];rfl
theorem Burn.uniq{W:List (List Int)}{D:List Int}{b:Nat}{F G:List Nat}(hF:Burn W D b F)(hG:Burn W D b G)(eF:Xe W D F=aB)(eG:Xe W D G=aB):F=G:=by
 have pF:=hF.pos;have pG:=hG.pos
 have pre:∀k,k<=F.length->k<=G.length->F.take k=G.take k:=by
  intro k
  induction k with
  | zero=>intros;simp
  | succ k ih=>
   intro h1 h2;have e:=ih (by omega) (by omega);rw[iV,iV,e];congr 1;by_cases q:k=0
   ·subst q;rw[hF.hd,hG.hd]
   ·rw[<-hF.st k (by omega) (by omega),<-hG.st k (by omega) (by omega),e]
 rcases Nat.lt_trichotomy F.length G.length with h | h | h
 ·have:=pre F.length (by omega) (by omega);rw[dI] at this;have h3:=hG.st F.length (by omega) h;rw[<-this,eF,aG h] at h3;cases h3
 ·have:=pre F.length (by omega) (by omega);rw[dI,h,dI] at this;exact this
 ·have:=pre G.length (by omega) (by omega);rw[dI] at this;have h3:=hF.st G.length (by omega) h;rw[this,eG,aG h] at h3;cases h3
theorem BB{F:List Nat}{k x:Nat}(h:F[k]?=aA x):Ts (iL (nL F)) (k:Int)=aA (.int (x:Int)):=WG (by unfold nL;rw[aU,aU,h];rfl)
theorem DC(F:List Nat)(k:Nat):V5 (iL (nL F)) aB (aA (k:Int))=iL (nL (F.take k)):=by rw[FH];unfold nL;rw[<-fT]
def XN(D:List Int)(b:Nat):List Nat:=(aS D.length).filter λh=>!decide (h=b)&&decide (ZL D h<0)
theorem Kw{D:List Int}{b:Nat}(hl:D.length<=1000):Wf [pP D,.int (b:Int)]=aA (.lst (iL (nL (XN D b)))):=by
 have en:WC aC [Za 0] [aA (pP D),aA (.int (b:Int))]=aA ((aS D.length).map λ(i:Nat)=>.tup [.int (i:Int),.int (ZL D i)]):=by have:=JL D;simp[this]
 have hc:ZA 2 [1] (WC aC [Za 0]) (.many [0,1]) (Wr (xB (Zf (YN aD) (Za 0) (Za 2))) (xB (Zf S4 (Za 1) (eC (.int 0))))) (eP (Za 0)) [aA (pP D),aA (.int (b:Int))]=aA (.lst (iL (nL (XN D b)))):=by
  rw[V7 (aS D.length) (λ(i:Nat)=>.tup [.int (i:Int),.int (ZL D i)]) (λ(i:Nat)=>.int (i:Int)) (λh=>!decide (h=b)&&decide (ZL D h<0)) en (by simp;omega) λy hy=>⟨[aA (.int (y:Int)),aA (.int (ZL D y)),aA (.int (b:Int))],by simp[compEnv,Iz],?_,λ_=>by simp⟩]
  ·unfold nL XN iL;rw[bQ];rfl
  ·by_cases q:y=b
   ·subst q;simp
   ·have q':¬(y:Int)=(b:Int):=by omega
    simp[q,q']
 show Xi 2 Ta _=_;unfold Ta;show(Ya _ [aA (pP D),aA (.int (b:Int))]).bind Xa=_;rw[SM hc];rfl
theorem debt_nil{D:List Int}{b:Nat}:XN D b=[]↔∀h,h<D.length->h≠b->0<=ZL D h:=by
 unfold XN;rw[List.filter_eq_nil_iff];constructor
 ·intro h x hx hb;have:=h x (bR.mpr hx);simp[hb] at this;exact this
 ·intro h x hx;by_cases q:x=b
  ·simp[q]
  ·have:=h x (bR.mp hx) q;simp[q];omega
theorem Pc:∀{l:List Int},(∀x∈l,0<=x)->0<=l.sum
 | [],_=>by simp
 | x::r,h=>by rw[dF];have:=h x ag;have:=Pc (l:=r) λy hy=>h y (aT _ hy);omega
def Rz(w:Nat)(f:Nat->Int):List Int:=(aS w).map f
def oth(b i:Nat):Nat:=if i<b then i else i+1
theorem FK{c:XT}{fb:XS}(Jv:Nat->ZJ->Prop)(step:∀k st,Jv k st->c st=aA aC\/(c st=aA aD/\∃s2 k',fb st=aA (.nx s2)/\k'<k/\Jv k' s2)){k:Nat}{s:ZJ}(h0:Jv k s) :
  ∃s' k',Vu c fb s=aA (.nx s')/\Jv k' s'/\c s'=aA aC:=by
 have gen:∀(n k:Nat)(st:ZJ),k<n->Jv k st->∃s' k',YG c fb n st=aA (.nx s')/\Jv k' s'/\c s'=aA aC:=by
  intro n
  induction n with
  | zero=>intro k st h;omega
  | succ n ih=>
   intro k st hk hJ;rcases step k st hJ with hc | ⟨hc,s2,k',e,hm,hJ2⟩
   ·exact⟨st,k,by unfold YG;rw[hc];rfl,hJ,hc⟩
   ·obtain⟨s',k2,a,b,d⟩:=ih k' s2 (by omega) hJ2;refine⟨s',k2,?_,b,d⟩;unfold YG;rw[hc];simp only[aE,if_true,e];exact a
 obtain⟨s',k',a,b,d⟩:=gen (k+1) k s (by omega) h0;exact⟨s',k',Oi a,b,d⟩
theorem gIx_p{n:Nat}{l:List Int}(h:l.length=n):∀k:Nat,k<n->Zn (pP l) (.int (k:Int))=aA (.int (ZL l k)):=λk hk=>Vv (by omega)
theorem AY{n:Nat}{l:List Int}(h:l.length=n):∀k:Nat,k<n->Zn (.lst (iL l)) (.int (k:Int))=aA (.int (ZL l k)):=λk hk=>Vv (by omega)
theorem FL{α:Type}(l:List α)(f:α->Int):iL (l.map f)=l.map λg=>.int (f g):=bQ
def Nv(p:Nat×Nat):PV:=.tup [.int (p.1:Int),.int (p.2:Int)]
end PW
namespace PW
open L2 VL VX PK
def eW(W:List (List Int)):List Z7:=OC W.length (XQ W)
def PL(W:List (List Int))(a b:Nat):List Z7:=aK (XQ W a b).toNat (a,b)
def eA(W:List (List Int))(a:Nat):List Z7:=(aS (W.length-(a+1))).flatMap λj=>PL W a (a+1+j)
theorem R9(W:List (List Int)):eW W=(aS W.length).flatMap (eA W):=by unfold eW OC Hz;rw[List.flatMap_assoc];congr 1;funext a;rw[List.flatMap_map];rfl
theorem T5(W:List (List Int)):(eW W).length=(YL W).length:=by rw[R9];unfold YL;rw[fW,fW];congr 1;refine bO λa _=>?_;unfold eA Um;rw[fW,fW];congr 1;refine bO λj _=>?_;unfold PL X9;simp
theorem D9{W:List (List Int)}:∀e∈eW W,e.1<e.2/\e.2<W.length/\0<XQ W e.1 e.2:=λe he=>by unfold eW OC at he;obtain⟨p,hp,hq⟩:=ie.mp he;have hq':=mj.mp hq;obtain⟨h1,rfl⟩:=hq';have:=mem_prs.mp (show(e.1,e.2)∈Hz W.length from hp);exact⟨by omega,by omega,by omega⟩
theorem Nw{W:List (List Int)}(ok:ZV W){a b:Nat}(ha:a<W.length)(hb:b<W.length):(PL W a b).length<=9:=by have:=ok.hi a b ha hb;unfold PL;simp;omega
theorem BC{W:List (List Int)}(ok:ZV W){a b:Nat}(ha:a<W.length)(hb:b<W.length)(t:Option PV):ZA 1 [2,3] (ZG [Zf Zn (Zf Zn (Za 0) (Za 2)) (Za 3)]) (.one 0) ZZ (eP (Yg [Za 1,Za 2])) [aA (wP W),t,aA (.int (a:Int)),aA (.int (b:Int))]=aA (.lst ((PL W a b).map Nv)):=by
 have hr:=ok.sq a ha;have b1:=ok.lo a b ha hb;have b2:=ok.hi a b ha hb;have a1:Zf Zn (Za 0) (Za 2) [aA (wP W),t,aA (.int (a:Int)),aA (.int (b:Int))]=aA (pP (ZK W a)):=Sn ha;have a2:Zf Zn (Zf Zn (Za 0) (Za 2)) (Za 3) [aA (wP W),t,aA (.int (a:Int)),aA (.int (b:Int))]=aA (.int (((XQ W a b).toNat:Nat):Int)):=by rw[ZF,a1];have:=Vv (l:=ZK W a) (k:=b) (by omega);rw[show(((XQ W a b).toNat:Nat):Int)=ZL (ZK W a) b by show _=XQ W a b;omega];exact this
 rw[Y2 (aS (XQ W a b).toNat) (λ(i:Nat)=>.int (i:Int)) (λ_=>Nv (a,b)) (Yp a2 (by omega)) (by simp;omega) (λi hi=>⟨_,rfl,rfl,rfl⟩)];unfold PL;rw[jh];congr 2;exact gj (by simp) (by intros;simp)
theorem DD{W:List (List Int)}(ok:ZV W){a:Nat}(ha:a<W.length)(acc:List Z7)(hacc:acc.length<=1000)(b0:Option PV) :
  ∃b',Y8 (.one 3) (Xz 1 (ZA 1 [2,3] (ZG [Zf Zn (Zf Zn (Za 0) (Za 2)) (Za 3)]) (.one 0) ZZ (eP (Yg [Za 1,Za 2])))) (XB ((a:Int)+1) (W.length-(a+1))) [aA (wP W),aA (.lst (acc.map Nv)),aA (.int (a:Int)),b0]
   = aA (.nx [aA (wP W),aA (.lst ((acc++eA W a).map Nv)),aA (.int (a:Int)),b'])/\(eA W a).length<=63:=by
 have hf:=ok.few
 obtain⟨s',h1,b',h2,h3⟩:=ZP (T:=.one 3) (fb:=Xz 1 (ZA 1 [2,3] (ZG [Zf Zn (Zf Zn (Za 0) (Za 2)) (Za 3)]) (.one 0) ZZ (eP (Yg [Za 1,Za 2])))) (ls:=XB ((a:Int)+1) (W.length-(a+1))) (s:=[aA (wP W),aA (.lst (acc.map Nv)),aA (.int (a:Int)),b0])
  (λj st=>∃b',st=[aA (wP W),aA (.lst ((acc++(aS j).flatMap λj=>PL W a (a+1+j)).map Nv)),aA (.int (a:Int)),b']/\((aS j).flatMap λj=>PL W a (a+1+j)).length<=9*j)
  ⟨b0,by simp,by simp⟩ (λj l st hl hJ=>by
   obtain⟨hj,rfl⟩:=Va hl;obtain⟨b',rfl,hlen⟩:=hJ;have hb:a+1+j<W.length:=by omega
   have e1:(a:Int)+1+(j:Int)=((a+1+j:Nat):Int):=by omega
   rw[e1];have hc:=BC ok ha hb (aA (.lst ((acc++(aS j).flatMap λj=>PL W a (a+1+j)).map Nv)));have hl2:=Nw ok ha hb;have hg:(acc.length+((aS j).flatMap λj=>PL W a (a+1+j)).length)+(PL W a (a+1+j)).length<=10000:=by omega
   refine⟨_,_,rfl,?_,aA (.int ((a+1+j:Nat):Int)),rfl,?_⟩
   ·refine(QH hc rfl (by rw[aH,aH,aY];exact hg)).trans ?_;simp[Yv]
   ·rw[Yv,aY];omega)
 rw[VF] at h2 h3;refine⟨b',?_,?_⟩
 ·rw[h1,h2];rfl
 ·have:eA W a=(aS (W.length-(a+1))).flatMap λj=>PL W a (a+1+j):=rfl;rw[this];omega
theorem HC{W:List (List Int)}(ok:ZV W):G9 [wP W]=aA (.lst ((eW W).map Nv))/\(eW W).length<=441:=by
 have hf:=ok.few;refine⟨?_,by rw[T5];exact(Uh ok).2⟩;have lenW:∀x y z:Option PV,Zd Zx [Za 0] [aA (wP W),x,y,z]=aA (.int (W.length:Int)):=λx y z=>by show aA (PV.int ((W.map pP).length:Int))=_;rw[aH]
 obtain⟨s',h1,y,z,h2,h3⟩:=ZP (T:=.one 2) (fb:=Z3 [1] (Yi [Zf ZO (Za 2) (eC (.int 1)),Zd Zx [Za 0]]) (.one 3) (Xz 1 (ZA 1 [2,3] (ZG [Zf Zn (Zf Zn (Za 0) (Za 2)) (Za 3)]) (.one 0) ZZ (eP (Yg [Za 1,Za 2]))))) (ls:=Wd W.length) (s:=[aA (wP W),aA (.lst []),aB,aB])
  (λi st=>∃y z,st=[aA (wP W),aA (.lst (((aS i).flatMap (eA W)).map Nv)),y,z]/\((aS i).flatMap (eA W)).length<=63*i)
  ⟨aB,aB,by simp,by simp⟩ (λi l st hl hJ=>by
   obtain⟨y,z,rfl,hlen⟩:=hJ;obtain⟨hi,rfl⟩:=X2 hl;obtain⟨b',e1,e2⟩:=DD ok hi ((aS i).flatMap (eA W)) (by omega) z;refine⟨_,_,rfl,?_,aA (.int (i:Int)),b',rfl,?_⟩
   ·have hr:Yi [Zf ZO (Za 2) (eC (.int 1)),Zd Zx [Za 0]] (Z2 [1] [aA (wP W),aA (.lst (((aS i).flatMap (eA W)).map Nv)),aA (.int (i:Int)),z])=aA (XB ((i:Int)+1) (W.length-(i+1))):=by show Yi [Zf ZO (Za 2) (eC (.int 1)),Zd Zx [Za 0]] [aA (wP W),aB,aA (.int (i:Int)),z]=_;have p1:Zf ZO (Za 2) (eC (.int 1)) [aA (wP W),aB,aA (.int (i:Int)),z]=aA (.int ((i:Int)+1)):=vI (op:=(· + ·)) (a:=(i:Int)) rfl rfl;rw[We p1 (lenW _ _ _) ⟨by omega,by omega⟩ ⟨by omega,by omega⟩];congr 2;omega
    show Z3 _ _ _ _ [aA (wP W),_,aA (.int (i:Int)),z]=_;rw[Yq,hr];simp only[aE];rw[e1,Yv]
   ·rw[Yv,aY];omega)
 rw[X3] at h2 h3;have e3:Z3 [1] (ZG [Zd Zx [Za 0]]) (.one 2) (Z3 [1] (Yi [Zf ZO (Za 2) (eC (.int 1)),Zd Zx [Za 0]]) (.one 3) (Xz 1 (ZA 1 [2,3] (ZG [Zf Zn (Zf Zn (Za 0) (Za 2)) (Za 3)]) (.one 0) ZZ (eP (Yg [Za 1,Za 2]))))) [aA (wP W),aA (.lst []),aB,aB]=aA (.nx [aA (wP W),aA (.lst ((eW W).map Nv)),y,z]):=by show(ZG [Zd Zx [Za 0]] (Z2 [1] [aA (wP W),aA (.lst []),aB,aB])).bind _=_;have p0:ZG [Zd Zx [Za 0]] (Z2 [1] [aA (wP W),aA (.lst []),aB,aB])=aA (Wd W.length):=Yp (n:=W.length) (lenW aB aB aB) (by omega);rw[p0,aE,h1,h2,R9]
 show Xi 4 QU _=_;unfold QU;show(Zk _ _ [aA (wP W),aB,aB,aB]).bind Xa=_;rw[ZH (s1:=[aA (wP W),aA (.lst []),aB,aB]) rfl,ZH e3];rfl
def Pd(n:Nat)(m:Nat->Nat):List Int:=(aS n).map λx=>((m x:Nat):Int)
theorem JO(n:Nat)(m:Nat->Nat):(Pd n m).length=n:=by simp[Pd]
theorem DE{n:Nat}{m:Nat->Nat}{x:Nat}(h:x<n):ZL (Pd n m) x=(m x:Int):=Pu h
theorem Pe{F:List Nat}(h:F.length<64):X5 [.lst (iL (nL F))]=aA (.lst (iL (sortI (nL F)))):=by show(YD (iL (nL F))).bind (λns=>if ns.length<64 then aA (PV.lst (iL (sortI ns))) else aB)=_;rw[YQ];rw[aE,pC (by simpa [nL] using h)]
theorem FN(neg:Bool)(a:Int)(l:List Int):YC neg (.int a) (pP l)=aA (.bl (if neg then !decide (a∈l) else decide (a∈l))):=by
 unfold YC;have c:((iL l).all λz=>Ws 8 z (.int a))=aD:=by rw[jS,bC];intro x _;rfl
 show(aA (iL l)).bind _=_;simp only[aE,pC c]
 have:decide (PV.int a∈iL l)=decide (a∈l):=decide_eq_decide.mpr (by
  rw[aa];constructor
  ·rintro⟨x,hx,e⟩;cases e;exact hx
  ·intro h;exact⟨a,h,rfl⟩)
 rw[this]
theorem MQ{W:List (List Int)}{i:Nat}(hi:i<(eW W).length):∃t:Int,(YL W)[i]?=aA [((Zw (eW W) i).1:Int),((Zw (eW W) i).2:Int),t]:=by
 have key:(YL W).map (λr=>((ZL r 0).toNat,(ZL r 1).toNat))=eW W:=by rw[R9];unfold YL;rw[nR];congr 1;funext a;unfold Um eA;rw[nR];congr 1;funext j;unfold X9 PL;rw[bQ];exact gj (by simp) (by intros;simp[ZL];omega)
 have form:∀r∈YL W,∃(a b:Nat) (t:Int),r=[(a:Int),(b:Int),t]:=λr hr=>by unfold YL at hr;obtain⟨a,_,hr⟩:=ie.mp hr;unfold Um at hr;obtain⟨j,_,hr⟩:=ie.mp hr;unfold X9 at hr;obtain⟨t,_,rfl⟩:=aa.mp hr;exact⟨a,a+1+j,t,rfl⟩
 have hl:i<(YL W).length:=by rw[<-T5];exact hi
 obtain⟨a,b,t,e⟩:=form _ (cA hl);refine⟨t,?_⟩;have e2:Zw (eW W) i=(a,b):=by have g:=congrArg (λl=>l[i]?) key;simp only[aU] at g;rw[aG hl,aG hi,e] at g;unfold Zw;rw[aL,aG hi];simp only[bF,gR] at g;rw[<-show(((a:Int)).toNat,((b:Int)).toNat)=_ from g];rfl
 rw[aG hl,e,e2]
theorem DF{n:Nat}{m:Nat->Nat}{a b:Nat}{s:ZJ}(hf:n<=7)(h3:s[3]?=aA (aA (.lst (iL (Pd n m)))))(h6:s[6]?=aA (aA (.int (m a:Int))))(h7:s[7]?=aA (aA (.int (m b:Int)))) :
  ZA 1 [6,7] (YW (Za 3)) (.one 0) ZZ (eP (HM (xB (Zf (YN aC) (Za 0) (Za 2))) (Za 1) (Za 0))) s=aA (.lst (iL (Pd n (Wk m b a)))):=by
 have v3:Za 3 s=aA (.lst (iL (Pd n m))):=by show s[3]?.bind id=_;rw[h3];rfl
 rw[Y2 (aS n) (λx=>.int (m x:Int)) (λx=>.int (Wk m b a x:Int)) (by
  unfold YW;rw[v3];show aA (iL (Pd n m))=_;rw[Pd,FL]) (by simp;omega) (λx hx=>⟨[aA (.int (m x:Int)),aA (.int (m a:Int)),aA (.int (m b:Int))],by simp[compEnv,h6,h7,Vj],rfl,?_⟩)]
 ·rw[Pd,FL]
 ·have t:xB (Zf (YN aC) (Za 0) (Za 2)) [aA (.int (m x:Int)),aA (.int (m a:Int)),aA (.int (m b:Int))]=aA (decide (m x=m b)):=by show(YN aC (.int (m x:Int)) (.int (m b:Int))).bind Jo=_;rw[TV];show aA (decide ((m x:Int)=(m b:Int)))=_;rw[decide_eq_decide.mpr (Int.ofNat_inj (m:=m x) (n:=m b))]
  refine vP ?_;rw[EW,t,aE];unfold Wk;by_cases q:m x=m b
  ·rw[decide_eq_true q,pC rfl,pC q];rfl
  ·rw[decide_eq_false q,pE (by decide),pE q];rfl
def JP(W:List (List Int))(K:List Nat):Nat->Nat:=Nu (λx=>x) ((K.map (Zw (eW W))).map swE)
theorem FO(W:List (List Int))(K:List Nat)(k:Nat):JP W (K++[k])=Wk (JP W K) (Zw (eW W) k).2 (Zw (eW W) k).1:=by unfold JP;rw[bV,bV,JN];rfl
theorem HD{W:List (List Int)}(ok:ZV W){K:List Nat}(hK:∀k∈K,k<(eW W).length):YS [wP W,.lst ((YL W).map pP),pP (nL K)]=aA (.lst (iL (Pd W.length (JP W K)))):=by
 have hf:=ok.few;let st:List Nat->Option PV->Option PV->Option PV->Option PV->ZJ:=λA x4 x5 x6 x7=>[aA (wP W),aA (.lst ((YL W).map pP)),aA (pP (nL K)),aA (.lst (iL (Pd W.length (JP W A)))),x4,x5,x6,x7]
 let fb:XS:=(Zk (Zl 5 (eP (Zf Zn (Za 1) (Za 4))))
  (Zk (Zl 6 (eP (Zf Zn (Za 3) (Zf Zn (Za 5) (eC (.int 0))))))
  (Zk (Zl 7 (eP (Zf Zn (Za 3) (Zf Zn (Za 5) (eC (.int 1))))))
  (Zl 3 (ZA 1 [6,7] (YW (Za 3)) (.one 0) ZZ (eP (HM (xB (Zf (YN aC) (Za 0) (Za 2))) (Za 1) (Za 0))))))))
 obtain⟨s',f1,x4,x5,x6,x7,hs⟩:=ZP (T:=.one 4) (fb:=fb) (ls:=iL (nL K)) (s:=st [] aB aB aB aB) (λi s=>∃x4 x5 x6 x7,s=st (K.take i) x4 x5 x6 x7) ⟨aB,aB,aB,aB,by simp[st]⟩ (by
  rintro i l s hl ⟨x4,x5,x6,x7,rfl⟩;have hi:i<K.length:=by have:=(aX.mp hl).1;simpa [nL] using this
  have el:l = .int ((K[i]:Nat):Int):=by rw[LF (by simpa [nL] using hi)] at hl;rw[<-bB hl];simp[nL,ZL,hi]
  subst el;have hk:K[i]<(eW W).length:=hK _ (cA hi);obtain⟨t,et⟩:=MQ hk;have eIn:Zw (eW W) K[i]∈eW W:=by unfold Zw;rw[aL,aG hk];exact cA hk
  have hb:=D9 _ eIn;generalize hA:Zw (eW W) K[i]=e at et hb;obtain⟨a,b⟩:=e;simp only at et hb;let m:=JP W (K.take i);let R:PV:=pP [(a:Int),(b:Int),t]
  have q1:Zl 5 (eP (Zf Zn (Za 1) (Za 4))) (st (K.take i) (aA (.int ((K[i]:Nat):Int))) x5 x6 x7)=aA (.nx (st (K.take i) (aA (.int ((K[i]:Nat):Int))) (aA R) x6 x7)):=by
   have g:Zf Zn (Za 1) (Za 4) (st (K.take i) (aA (.int ((K[i]:Nat):Int))) x5 x6 x7)=aA R:=by refine GO (l:=(YL W).map pP) (k:=K[i]) ?_;rw[aU,et];rfl
   rw[ZD,Wz,g];rfl
  have gm:∀z:Nat,z<W.length->Zn (.lst (iL (Pd W.length m))) (.int (z:Int))=aA (.int (m z:Int)):=λz hz=>by rw[AY (JO W.length m) z hz,DE hz]
  have q2:Zl 6 (eP (Zf Zn (Za 3) (Zf Zn (Za 5) (eC (.int 0))))) (st (K.take i) (aA (.int ((K[i]:Nat):Int))) (aA R) x6 x7)=aA (.nx (st (K.take i) (aA (.int ((K[i]:Nat):Int))) (aA R) (aA (.int (m a:Int))) x7)):=by have g:Zf Zn (Za 3) (Zf Zn (Za 5) (eC (.int 0))) (st (K.take i) (aA (.int ((K[i]:Nat):Int))) (aA R) x6 x7)=aA (.int (m a:Int)):=gm a (by omega);rw[ZD,vP g];rfl
  have q3:Zl 7 (eP (Zf Zn (Za 3) (Zf Zn (Za 5) (eC (.int 1))))) (st (K.take i) (aA (.int ((K[i]:Nat):Int))) (aA R) (aA (.int (m a:Int))) x7)=aA (.nx (st (K.take i) (aA (.int ((K[i]:Nat):Int))) (aA R) (aA (.int (m a:Int))) (aA (.int (m b:Int))))):=by have g:Zf Zn (Za 3) (Zf Zn (Za 5) (eC (.int 1))) (st (K.take i) (aA (.int ((K[i]:Nat):Int))) (aA R) (aA (.int (m a:Int))) x7)=aA (.int (m b:Int)):=gm b (by omega);rw[ZD,vP g];rfl
  have q4:Zl 3 (ZA 1 [6,7] (YW (Za 3)) (.one 0) ZZ (eP (HM (xB (Zf (YN aC) (Za 0) (Za 2))) (Za 1) (Za 0)))) (st (K.take i) (aA (.int ((K[i]:Nat):Int))) (aA R) (aA (.int (m a:Int))) (aA (.int (m b:Int))))=aA (.nx (st (K.take (i+1)) (aA (.int ((K[i]:Nat):Int))) (aA R) (aA (.int (m a:Int))) (aA (.int (m b:Int))))):=by
   rw[ZD,DF (n:=W.length) (m:=m) (a:=a) (b:=b) hf rfl rfl rfl];have:JP W (K.take (i+1))=Wk m b a:=by rw[iS hi,FO,hA]
   show aA (Out.nx [_,_,_,_,_,_,_,_])=aA (Out.nx [_,_,_,aA (.lst (iL (Pd W.length (JP W (K.take (i+1)))))),_,_,_,_]);rw[this]
  exact⟨st (K.take i) (aA (.int ((K[i]:Nat):Int))) x5 x6 x7,_,rfl,(by show Zk _ _ _=_;rw[ZH q1,ZH q2,ZH q3,q4]),_,_,_,_,rfl⟩)
 subst hs;rw[show(iL (nL K)).length=K.length by simp[nL],dI] at f1
 have e1:Zl 3 (RI Rh (Zd Zx [Za 0])) [aA (wP W),aA (.lst ((YL W).map pP)),aA (pP (nL K)),aB,aB,aB,aB,aB]=aA (.nx (st [] aB aB aB aB)):=by
  have l:Zd Zx [Za 0] [aA (wP W),aA (.lst ((YL W).map pP)),aA (pP (nL K)),aB,aB,aB,aB,aB]=aA (.int (W.length:Int)):=by show aA (PV.int ((W.map pP).length:Int))=_;rw[aH]
  have g:RI Rh (Zd Zx [Za 0]) [aA (wP W),aA (.lst ((YL W).map pP)),aA (pP (nL K)),aB,aB,aB,aB,aB]=aA (.lst (iL (Pd W.length (JP W [])))):=by show(Zd Zx [Za 0] _).bind Rh=_;rw[l];show(if 0<=(W.length:Int)/\(W.length:Int)<=10000 then aA (PV.lst (iL ((aS (W.length:Int).toNat).map λ(i:Nat)=>(i:Int)))) else aB)=_;rw[pC ⟨by omega,by omega⟩,cL];rfl
  rw[ZD,g];rfl
 have e2:Z3 [3] (S7 (Za 2)) (.one 4) fb (st [] aB aB aB aB)=aA (.nx (st K x4 x5 x6 x7)):=by show(S7 (Za 2) (Z2 [3] (st [] aB aB aB aB))).bind _=_;exact f1
 show Xi 8 Vq _=_;unfold Vq;show(Zk _ _ [aA (wP W),aA (.lst ((YL W).map pP)),aA (pP (nL K)),aB,aB,aB,aB,aB]).bind Xa=_;rw[ZH e1,ZH e2];rfl
def Kx(K:List Nat):List Int:=(nL K).foldl Uq []
def HE(W:List (List Int))(K:List Nat):Bool:=K.all λk=>decide (k<(eW W).length)
def AZ(W:List (List Int))(K:List Nat):Nat:=((Pd W.length (JP W K)).foldl fu []).length
def Cc(W:List (List Int))(K:List Nat):Bool:=decide (K.length+1=W.length)&&HE W K&&(decide (nL K=sortI (Kx K))&&decide (AZ W K=1))
theorem BD{K:List Nat}(h31:∀k∈K,k<=31)(hl:K.length<=17):VW.gSN (pP (nL K))=aA (.lst (iL (sortI (Kx K)))):=by
 show(YD (iL (nL K))).bind (λns=>if VW.inS ns=aD then aA (PV.lst (iL (sortI (ns.foldl Uq [])))) else aB)=_;rw[YQ,aE,pC]
 ·rfl
 ·unfold VW.inS;simp only[ak,decide_eq_true_eq,bC];refine⟨λk hk=>?_,by simpa [nL] using hl⟩;unfold nL at hk;obtain⟨j,hj,rfl⟩:=aa.mp hk;have:=h31 j hj;omega
theorem FP{W:List (List Int)}{K:List Nat}{s:ZJ}{m:Nat}{l:List PV}(hl:K.length<=100)(hm:l.length=(eW W).length)(h1:s[1]?=aA (aA (pP (nL K))))(h2:s[2]?=aA (aA (.lst l))) :
  Zd OV [ZA 1 [2] (S7 (Za 1)) (.one 0) ZZ (HN EK S4 (eC (.int 0)) (Za 0) (Zd Zx [Za 1]))] s=aA (.bl (HE W K)):=by
 have v1:Za 1 s=aA (pP (nL K)):=by show s[1]?.bind id=_;rw[h1];rfl
 have hc:ZA 1 [2] (S7 (Za 1)) (.one 0) ZZ (HN EK S4 (eC (.int 0)) (Za 0) (Zd Zx [Za 1])) s=aA (.lst ((K.map λk=>decide (k<(eW W).length)).map PV.bl)):=by
  rw[Y2 K (λ(k:Nat)=>.int (k:Int)) (λk=>.bl (decide (k<(eW W).length))) (by
   rw[N8 v1];unfold nL;rw[FL]) (by omega) (λk hk=>⟨[aA (.int (k:Int)),aA (.lst l)],by simp[compEnv,h2,Vj],rfl,?_⟩),bQ]
  ·rfl
  ·have g1:EK (.int 0) (.int (k:Int))=aA (.bl aD):=by show aA (PV.bl (decide ((0:Int)<=(k:Int))))=_;rw[decide_eq_true (by omega)]
   show((EK (.int 0) (.int (k:Int))).bind Jo).bind (λb=>if b=aD then(Zd Zx [Za 1] [aA (.int (k:Int)),aA (.lst l)]).bind λz=>S4 (.int (k:Int)) z else aA (.bl aC))=_;rw[g1];show(aA (PV.int (l.length:Int))).bind (λz=>S4 (.int (k:Int)) z)=_;show aA (PV.bl (decide ((k:Int)<(l.length:Int))))=_;rw[hm];congr 2;exact decide_eq_decide.mpr (by omega)
 rw[XI,YH,hc];show OV [.lst ((K.map λk=>decide (k<(eW W).length)).map PV.bl)]=_;rw[GQ];unfold HE;rw[jS];rfl
theorem FQ{W:List (List Int)}{K:List Nat}{s:ZJ}(hp:1<=W.length)(h0:s[0]?=aA (aA (wP W)))(h1:s[1]?=aA (aA (pP (nL K)))) :
  xB (Zf (YN aD) (Zd Zx [Za 1]) (Zf Xo (Zd Zx [Za 0]) (eC (.int 1)))) s=aA (!decide (K.length+1=W.length)):=by
 have v0:Za 0 s=aA (wP W):=by show s[0]?.bind id=_;rw[h0];rfl
 have v1:Za 1 s=aA (pP (nL K)):=by show s[1]?.bind id=_;rw[h1];rfl
 have a:Zd Zx [Za 1] s=aA (.int (K.length:Int)):=by rw[XI,YH,v1];show aA (PV.int ((iL (nL K)).length:Int))=_;simp[nL]
 have b:Zd Zx [Za 0] s=aA (.int (W.length:Int)):=by rw[XI,YH,v0];show aA (PV.int ((W.map pP).length:Int))=_;rw[aH]
 have d:Zf Xo (Zd Zx [Za 0]) (eC (.int 1)) s=aA (.int ((W.length:Int)-1)):=vI (op:=(· - ·)) b rfl;rw[Yj,ZF,a,d];show(YN aD (.int (K.length:Int)) (.int ((W.length:Int)-1))).bind Jo=_;rw[TV];show aA (!decide ((K.length:Int)=(W.length:Int)-1))=_;rw[decide_eq_decide.mpr (show((K.length:Int)=(W.length:Int)-1)↔K.length+1=W.length by omega)]
theorem MR{W:List (List Int)}(ok:ZV W){K:List Nat}(h31:∀k∈K,k<=31)(hl:K.length<=17):WZ [wP W,pP (nL K)]=aA (.bl (Cc W K)):=by
 have hf:=ok.few;let s:ZJ:=[aA (wP W),aA (pP (nL K)),aA (.lst ((YL W).map pP))];have e1:Zl 2 (Zd Y3 [Za 0]) [aA (wP W),aA (pP (nL K)),aB]=aA (.nx s):=by have:Zd Y3 [Za 0] [aA (wP W),aA (pP (nL K)),aB]=aA (.lst ((YL W).map pP)):=(Uh ok).1;rw[ZD,this];rfl
 have lt:=FQ (W:=W) (K:=K) (s:=s) ok.pos rfl rfl;have rg:=FP (W:=W) (K:=K) (s:=s) (m:=0) (l:=(YL W).map pP) (by omega) (by rw[aH,T5]) rfl rfl;show Xi 3 Tb _=_;unfold Tb;show(Zk _ _ [aA (wP W),aA (pP (nL K)),aB]).bind Xa=_;rw[ZH e1];by_cases c1:K.length+1=W.length
 ·by_cases c2:HE W K=aD
  ·rw[ZH (s1:=s) (by
    rw[Z8,U5,lt,decide_eq_true c1];simp only[aE,gN,b9,if_false];rw[Wu,Yj,rg,c2];rfl)]
   have hK:∀k∈K,k<(eW W).length:=λk hk=>by unfold HE at c2;exact of_decide_eq_true (bC.mp c2 k hk)
   have a1:Zf (YN aC) (Zd TQ [Za 1]) (RI VW.gSN (Za 1)) s=aA (.bl (decide (nL K=sortI (Kx K)))):=by
    have a:Zd TQ [Za 1] s=aA (.lst (iL (nL K))):=by show(if ZC (iL (nL K))=aD then aA (PV.lst (iL (nL K))) else aB)=_;rw[pC (Yd _)]
    have b:RI VW.gSN (Za 1) s=aA (.lst (iL (sortI (Kx K)))):=BD h31 hl;rw[ZF,a,b];show YN aC (.lst ((nL K).map PV.int)) (.lst ((sortI (Kx K)).map PV.int))=_;rw[Be];rfl
   have a2:Zf (YN aC) (RI VW.gLS (Zd YS [Za 0,Za 2,Za 1])) (eC (.int 1)) s=aA (.bl (decide (AZ W K=1))):=by
    have p:Zd YS [Za 0,Za 2,Za 1] s=aA (.lst (iL (Pd W.length (JP W K)))):=HD ok hK;have g:RI VW.gLS (Zd YS [Za 0,Za 2,Za 1]) s=aA (.int (AZ W K:Int)):=by show(Zd YS [Za 0,Za 2,Za 1] s).bind VW.gLS=_;rw[p];show(YD (iL (Pd W.length (JP W K)))).bind (λns=>if ns.length<=1000 then aA (PV.int ((ns.foldl fu []).length:Int)) else aB)=_;rw[YQ,aE,pC (by rw[JO];omega)];rfl
    rw[ZF,g];show YN aC (.int (AZ W K:Int)) (.int 1)=_;rw[TV];show aA (PV.bl (decide ((AZ W K:Int)=1)))=_;congr 2;exact decide_eq_decide.mpr (by omega)
   rw[SM (v:=.bl (Cc W K)) (by
    rw[Wz,Sm,Yj,a1];unfold Cc;rw[decide_eq_true c1,c2];by_cases c3:nL K=sortI (Kx K)
    ·rw[decide_eq_true c3];simp only[aE,UK,if_true];rw[a2];simp
    ·rw[decide_eq_false c3];rfl)]
   rfl
  ·rw[HB (v:=.bl aC)]
   ·show aA (PV.bl aC)=_;unfold Cc;rw[i9] at c2;rw[c2];simp
   ·rw[Z8,U5,lt,decide_eq_true c1];simp only[aE,gN,b9,if_false];rw[i9] at c2;rw[Wu,Yj,rg,c2];rfl
 ·rw[HB (v:=.bl aC)]
  ·show aA (PV.bl aC)=_;unfold Cc;rw[decide_eq_false c1];rfl
  ·rw[Z8,U5,lt,decide_eq_false c1];rfl
theorem BE{n:Nat}{m:Nat->Nat}(hn:0<n)(h:∀x,x<n->m x=m 0):((Pd n m).foldl fu []).length=1:=by
 have e:Pd n m=(m 0:Int)::(Pd n m).tail:=by unfold Pd;obtain⟨k,rfl⟩:∃k,n=k+1:=⟨n-1,by omega⟩;rw[gJ,aZ,List.tail_cons]
 rw[e,fB];have s:fu [] (m 0:Int)=[(m 0:Int)]:=rfl;rw[s];have:=Pa (a:=(m 0:Int)) (l:=(Pd n m).tail) λx hx=>by have hx':x∈Pd n m:=List.mem_of_mem_tail hx;obtain⟨y,hy,rfl⟩:=aa.mp hx';rw[h y (bR.mp hy)]
 exact congrArg dj this
theorem MS:∀{l acc:List Int},(acc++l).Nodup->l.foldl Uq acc=acc++l
 | [],acc,_=>by simp
 | k::l,acc,h=>by
  have hk:k∉acc:=λz=>by rw[cW] at h;exact h.2.2 k z k (by simp) rfl
  have ea:Uq acc k=acc++[k]:=by unfold Uq;rw[pE hk]
  rw[fB,ea];have:=MS (l:=l) (acc:=acc++[k]) (by simpa using h);rw[this];simp
def T6(F:List Nat):List Nat:=(sortI (nL F)).map i8
theorem Nx(F:List Nat):nL (T6 F)=sortI (nL F):=by
 unfold T6;show((sortI (nL F)).map i8).map (λ(i:Nat)=>(i:Int))=_;rw[bQ]
 conv=>rhs;rw[<-lg (sortI (nL F))]
 refine bO λx hx=>?_;have:x∈nL F:=(sortI_perm _).mem_iff.mp hx;obtain⟨j,_,rfl⟩:=aa.mp this;rfl
theorem RA{a b:Nat}:(λ(i:Nat)=>(i:Int)) a=(λ(i:Nat)=>(i:Int)) b->a=b:=λh=>by have h:(a:Int)=(b:Int):=h;omega
theorem Tp(F:List Nat):(T6 F).Perm F:=by
 have:=(sortI_perm (nL F)).map i8
 have e:(nL F).map i8=F:=by
  unfold nL;rw[bQ]
  conv=>rhs;rw[<-lg F]
  exact bO λx _=>rfl
 rw[e] at this;exact this
theorem Ny{n b:Nat}{E:List Z7}{s:WS}(i:WInv E n b s)(all:∀h,h<n->h∈s.F):s.B.length+1=n:=by
 have h1:=TB i.ndF i.ltF;have h2:(nL (aS n)).length<=(nL s.F).length:=Wv (fL.mpr (i7.imp λz e=>z (RA e))) λx hx=>by obtain⟨k,hk,rfl⟩:=aa.mp hx;exact aa.mpr ⟨k,all k (bR.mp hk),rfl⟩
 have e:s.F.length=s.B.length+1:=by rw[i.hB];simp
 simp only[nL,aH,dh] at h2;omega
theorem FR{W:List (List Int)}(ok:ZV W){b:Nat}{s:WS}(i:WInv (eW W) W.length b s)(all:∀h,h<W.length->h∈s.F):Cc W (T6 (s.B.map (·.1)))=aD:=by
 have pm:=Tp (s.B.map (·.1));have ln:=Ny i all;have hK:∀k∈T6 (s.B.map (·.1)),k<(eW W).length:=λk hk=>by obtain⟨x,hx,rfl⟩:=aa.mp (pm.mem_iff.mp hk);exact i.ltL _ (i.bl x hx)
 have ndK:(nL (T6 (s.B.map (·.1)))).Nodup:=by unfold nL;exact fL.mpr ((pm.nodup_iff.mpr i.ndB).imp λz e=>z (RA e))
 unfold Cc;simp only[ak,decide_eq_true_eq];refine⟨⟨by rw[pm.length_eq,aH];exact ln,?_⟩,?_,?_⟩
 ·unfold HE;exact bC.mpr λk hk=>decide_eq_true (hK k hk)
 ·unfold Kx;rw[MS (acc:=[]) (by simpa using ndK),jM];refine sortI_eq (je _) ?_;rw[Nx];exact Sr _
 ·have key:∀x,x<W.length->JP W (T6 (s.B.map (·.1))) x=JP W (T6 (s.B.map (·.1))) b:=λx hx=>i.cn _ (λy hy=>by
   have hk:y.1∈T6 (s.B.map (·.1)):=pm.mem_iff.mpr (aa.mpr ⟨y,hy,rfl⟩);have:swE (Zw (eW W) y.1)∈((T6 (s.B.map (·.1))).map (Zw (eW W))).map swE:=mM (mM hk);exact(MO _ this).symm) x (all x hx)
  exact BE ok.pos λx hx=>(key x hx).trans (key 0 ok.pos).symm
theorem Ky(E:List Z7):(aS E.length).map (Zw E)=E:=by
 apply gj
 ·simp
 ·intro i h1 h2;rw[i6,ma];unfold Zw;rw[aL,aG h2];rfl
theorem FT{α:Type}{p q:α->Bool}:∀{l:List α},(∀x∈l,¬(p x=aD/\q x=aD))->l.countP (λx=>p x || q x)=l.countP p+l.countP q
 | [],_=>rfl
 | a::r,h=>by
  have ih:=FT (l:=r) λx hx=>h x (aT _ hx);have ha:=h a (by simp);rw[kX,kX,kX,ih];cases e1:p a<;>cases e2:q a<;>simp[e1,e2] at ha ⊢<;>omega
def JQ(h o:Nat):Z7:=if h<o then(h,o) else(o,h)
theorem DG{h o o':Nat}(n1:o≠h)(n2:o'≠h)(e:JQ h o=JQ h o'):o=o':=by
 unfold JQ at e;split at e<;>split at e<;>cases e<;>first | rfl | omega
def Pf(E:List Z7)(h:Nat)(G:List Nat)(j:Nat):Bool:=G.any λo=>decide (Zw E j=JQ h o)
theorem BF{W:List (List Int)}(ok:ZV W){h o:Nat}(hh:h<W.length)(ho:o<W.length)(ne:o≠h):((aS (eW W).length).countP (λj=>decide (Zw (eW W) j=JQ h o)):Int)=XQ W h o:=by
 have e1:(aS (eW W).length).countP (λj=>decide (Zw (eW W) j=JQ h o))=(eW W).count (JQ h o):=by
  conv=>rhs;rw[<-Ky (eW W)]
  rw[List.count,nh];refine List.countP_congr λx _=>?_;simp
 rw[e1];unfold eW;rw[MK ok.few];unfold JQ;have l0:=ok.lo h o hh ho;split
 ·rw[pC (mem_prs.mpr ⟨by omega,by omega⟩)];show((XQ W h o).toNat:Int)=_;omega
 ·rw[pC (mem_prs.mpr ⟨by omega,by omega⟩)];show((XQ W o h).toNat:Int)=_;rw[ok.sym o h ho hh];omega
theorem MT{W:List (List Int)}(ok:ZV W){h:Nat}(hh:h<W.length):∀{G:List Nat},G.Nodup->(∀o∈G,o<W.length/\o≠h)->((aS (eW W).length).countP (Pf (eW W) h G):Int)=ZT W h G
 | [],_,_=>by
  have:(aS (eW W).length).countP (Pf (eW W) h [])=0:=by rw[List.countP_eq_zero];intro a _;simp[Pf]
  rw[this];rfl
 | o::G,nd,hG=>by
  have nr:=az.mp nd;have h1:=MT ok hh nr.2 λx hx=>hG x (aT _ hx);have h2:=BF ok hh (hG o (by simp)).1 (hG o (by simp)).2
  have e:(aS (eW W).length).countP (Pf (eW W) h (o::G))=(aS (eW W).length).countP (λj=>decide (Zw (eW W) j=JQ h o))+(aS (eW W).length).countP (Pf (eW W) h G):=by
   rw[<-FT]
   ·rfl
   ·intro x _ ⟨a,c⟩;have a:Zw (eW W) x=JQ h o:=of_decide_eq_true a;obtain⟨o',ho',c⟩:=gh.mp c;have c:Zw (eW W) x=JQ h o':=of_decide_eq_true c;have:=DG (hG o (by simp)).2 (hG o' (aT _ ho')).2 (a.symm.trans c);exact nr.1 (this▸ho')
  rw[e]
  push_cast
  rw[h1,h2];unfold ZT;rw[aZ,dF]
theorem FU{W:List (List Int)}(ok:ZV W){b:Nat}{s:WS}(i:WInv (eW W) W.length b s)(en:Xv (eW W) s.L s.F=aB){h:Nat}(hh:h<W.length)(hF:h∉s.F):ZT W h s.F<=(Z4 (eW W) s.L h:Int):=by
 rw[<-MT ok hh i.ndF λo ho=>⟨i.ltF o ho,λz=>hF (z▸ho)⟩]
 have sub:∀x∈(aS (eW W).length).filter (Pf (eW W) h s.F),x∈s.L.filter (PH (eW W) h):=λx hx=>by
  obtain⟨h1,h2⟩:=gK.mp hx;have h1:=bR.mp h1;obtain⟨o,ho,c⟩:=gh.mp h2;have c:Zw (eW W) x=JQ h o:=of_decide_eq_true c
  have hat:PH (eW W) h x=aD:=by
   unfold PH;rw[c];unfold JQ;split<;>simp
  refine gK.mpr ⟨?_,hat⟩;by_cases z:x∈s.L
  ·exact z
  ·have iff:=HA en h1 z;rw[c] at iff;unfold JQ at iff;split at iff
   ·exact absurd (iff.mpr ho) hF
   ·exact absurd (iff.mp ho) hF
 have:=Wv (l:=nL ((aS (eW W).length).filter (Pf (eW W) h s.F))) (m:=nL (s.L.filter (PH (eW W) h))) (fL.mpr ((i7.filter _).imp λz e=>z (RA e))) λx hx=>by obtain⟨k,hk,rfl⟩:=aa.mp hx;exact aa.mpr ⟨k,sub k hk,rfl⟩
 simp only[nL,aH] at this;rw[jP];unfold Z4;omega
theorem FV{l m:List Int}(h:l.Perm m):l.sum=m.sum:=by
 induction h with
 | nil=>rfl
 | cons x _ ih=>rw[dF,dF,ih]
 | swap x y l=>simp only[dF];omega
 | trans _ _ a b=>exact a.trans b
theorem SN{W:List (List Int)}(ok:ZV W){h:Nat}(hh:h<W.length):∀{G F:List Nat},G.Nodup->(∀x∈G,x∈F)->(∀x∈F,x<W.length)->ZT W h G<=ZT W h F
 | [],F,_,_,hF=>by
  show(0:Int)<=_;unfold ZT;exact Pc λx hx=>by obtain⟨o,ho,rfl⟩:=aa.mp hx;exact ok.lo h o hh (hF o ho)
 | g::G,F,nd,sub,hF=>by
  have nr:=az.mp nd;have gF:=sub g (by simp)
  have ih:=SN ok hh (G:=G) (F:=F.erase g) nr.2 (λx hx=>by
   have:x≠g:=λz=>nr.1 (z▸hx);exact(jJ this).mpr (sub x (aT _ hx))) λx hx=>hF x (List.mem_of_mem_erase hx)
  have pm:F.Perm (g::F.erase g):=List.perm_cons_erase gF;have e:ZT W h F=XQ W h g+ZT W h (F.erase g):=by unfold ZT;rw[FV (pm.map _)];rw[aZ,dF]
  have e2:ZT W h (g::G)=XQ W h g+ZT W h G:=by unfold ZT;rw[aZ,dF]
  omega
theorem MU{W:List (List Int)}(ok:ZV W){D:List Int}{b:Nat}{s:WS}{G:List Nat}(i:WInv (eW W) W.length b s)(p:PInv (eW W) W.length (ZL D) s)(en:Xv (eW W) s.L s.F=aB)(B:Burn W D b G):∀k,k<=G.length->∀x∈G.take k,x∈s.F
 | 0,_,x,hx=>by simp at hx
 | k+1,hk,x,hx=>by
  have ih:=MU ok i p en B k (by omega);have hlt:k<G.length:=by omega
  rw[iV,aG hlt] at hx;rcases aq.mp hx with z | z
  ·exact ih x z
  ·have ex:x=G[k]:=by simpa using z
   by_cases k0:k=0
   ·subst k0;have:=B.hd;rw[aG hlt] at this;have:G[0]=b:=bB this;rw[ex,this,i.hB];simp
   ·have st:=B.st k (by omega) hlt;rw[aG hlt] at st;obtain⟨h1,h2,h3⟩:=T4 st;by_cases hF:x∈s.F
    ·exact hF
    ·rw[ex] at hF;have a1:=p.out _ h1 hF;have a2:=FU ok i en h1 hF;have a3:=SN ok h1 (B.nd.sublist (gO _ _)) ih i.ltF;omega
end PW
set_option maxHeartbeats 2000000
namespace PW
open PySem L2 VL VX PK
def T7(W:List (List Int))(k:Nat):List Int:=(YL W).getD k []
theorem Nz{W:List (List Int)}{k:Nat}(hk:k<(eW W).length):∃t:Int,T7 W k=[((Zw (eW W) k).1:Int),((Zw (eW W) k).2:Int),t]:=by obtain⟨t,e⟩:=MQ hk;refine⟨t,?_⟩;unfold T7;rw[aL,e];rfl
def Xm(W:List (List Int)):PV:=.lst ((YL W).map pP)
theorem HF(W:List (List Int)):Vi ((YL W).map pP)=(aS (eW W).length).map λ(i:Nat)=>.tup [.int (i:Int),pP (T7 W i)]:=by rw[UM,aH,T5];refine bO λi hi=>?_;have hi:=bR.mp hi;rw[aL,aU,aG hi];unfold T7;rw[aL,aG hi];rfl
theorem MV{W:List (List Int)}{L F:List Nat}:Z1 [Xm W,.lst (iL (nL L)),.lst (iL (nL F))]=aA (XU (Xv (eW W) L F)):=by
 have key:=Tn (T:=.many [3,4]) (fb:=Wb (Wr (xB (Zf (YC aD) (Za 3) (Za 1))) (xB (Zf (YN aD) (Zf (YC aC) (Zf Zn (Za 4) (eC (.int 0))) (Za 2)) (Zf (YC aC) (Zf Zn (Za 4) (eC (.int 1))) (Za 2))))) (Ya (eP (Za 3))) ZI) (q:=λ(i:Nat)=>.tup [.int (i:Int),pP (T7 W i)]) (g:=λ(i:Nat)=>.int (i:Int)) (c:=λk=>!decide (k∈L)&&(decide ((Zw (eW W) k).1∈F) != decide ((Zw (eW W) k).2∈F)))
  (λst=>∃x y,st=[aA (Xm W),aA (.lst (iL (nL L))),aA (.lst (iL (nL F))),x,y]) (ls:=aS (eW W).length) (s:=[aA (Xm W),aA (.lst (iL (nL L))),aA (.lst (iL (nL F))),aB,aB]) (by
   rintro k hk st ⟨x,y,rfl⟩;have hk:=bR.mp hk;obtain⟨t,et⟩:=Nz hk;have a0:Zn (pP (T7 W k)) (.int 0)=aA (.int ((Zw (eW W) k).1:Int)):=by rw[et];rfl
   have a1:Zn (pP (T7 W k)) (.int 1)=aA (.int ((Zw (eW W) k).2:Int)):=by rw[et];rfl
   have b0:=To (Zw (eW W) k).1 F;have b1:=To (Zw (eW W) k).2 F
   have bb:∀p q:Bool,YN aD (.bl p) (.bl q)=aA (.bl (p != q)):=λp q=>by
    unfold YN;rw[pC (by rfl)];cases p<;>cases q<;>simp
   refine⟨_,rfl,λhc=>?_,λhc=>?_⟩
   ·simp only[ak,gU,decide_eq_false_iff_not] at hc;simp[setAll,UX,hc.1,a0,a1,b0,b1,bb,hc.2]
   ·refine⟨[aA (Xm W),aA (.lst (iL (nL L))),aA (.lst (iL (nL F))),aA (.int (k:Int)),aA (pP (T7 W k))],?_,_,_,rfl⟩;by_cases q:k∈L
    ·simp[setAll,UX,q]
    ·have:(decide ((Zw (eW W) k).1∈F) != decide ((Zw (eW W) k).2∈F))=aC:=by simpa [q] using hc
     simp[setAll,UX,q,a0,a1,b0,b1,bb,this]) ⟨_,_,rfl⟩
 have en:WC aD [Za 0] [aA (Xm W),aA (.lst (iL (nL L))),aA (.lst (iL (nL F))),aB,aB]=aA ((aS (eW W).length).map λ(i:Nat)=>.tup [.int (i:Int),pP (T7 W i)]):=by rw[<-HF];rfl
 show Xi 5 Xr _=_;unfold Xr;show(Zk (Z3 [] _ _ _) _ [aA (Xm W),aA (.lst (iL (nL L))),aA (.lst (iL (nL F))),aB,aB]).bind Xa=_;unfold Xv
 cases q:(aS (eW W).length).find? λk=>!decide (k∈L)&&(decide ((Zw (eW W) k).1∈F) != decide ((Zw (eW W) k).2∈F)) with
 | some h=>
  rw[q] at key;rw[HB (v:=.int (h:Int))]
  ·rfl
  ·show(WC aD [Za 0] [aA (Xm W),aA (.lst (iL (nL L))),aA (.lst (iL (nL F))),aB,aB]).bind _=_;rw[en];exact key
 | none=>
  rw[q] at key;obtain⟨s',k1,x,y,rfl⟩:=key;rw[ZH (s1:=[aA (Xm W),aA (.lst (iL (nL L))),aA (.lst (iL (nL F))),x,y])]
  ·rfl
  ·show(WC aD [Za 0] [aA (Xm W),aA (.lst (iL (nL L))),aA (.lst (iL (nL F))),aB,aB]).bind _=_;rw[en];exact k1
def bI(x:Nat×Nat×Nat):List Int:=[(x.1:Int),(x.2.1:Int),(x.2.2:Int)]
def YB(W:List (List Int))(b:Nat)(C:PV)(F L:List Nat)(B:List (Nat×Nat×Nat))(x7 x8 x9:Option PV):ZJ:=[aA (wP W),aA (.int (b:Int)),aA C,aA (Xm W),aA (.lst (iL (nL F))),aA (.lst (iL (nL L))),aA (.lst (B.map λx=>pP (bI x))),x7,x8,x9]
section
variable {W:List (List Int)} {b:Nat} {C:PV} {F L:List Nat} {B:List (Nat×Nat×Nat)} {x7 x8 x9:Option PV} {k h:Nat}
theorem FW(hk:k<(eW W).length):Zn (Xm W) (.int (k:Int))=aA (pP (T7 W k)):=by
 show Ts ((YL W).map pP) (k:Int)=_;have hk':k<(YL W).length:=by rw[<-T5];exact hk
 refine WG ?_;rw[aU,aG hk'];unfold T7;rw[aL,aG hk'];rfl
theorem w1(hl:L.length<=1000):Zy 5 (eP (Za 7)) (YB W b C F L B (aA (.int (k:Int))) x8 x9)=aA (.nx (YB W b C F (L++[k]) B (aA (.int (k:Int))) x8 x9)):=by rw[YX (m:=iL (nL L)) (l:=.int (k:Int)) rfl rfl (by simp[nL];omega)];simp[nL,YB]
theorem w2(hk:k<(eW W).length):Zl 8 (eP (HM (xB (Zf (YC aC) (Zf Zn (Zf Zn (Za 3) (Za 7)) (eC (.int 0))) (Za 4))) (Zf Zn (Zf Zn (Za 3) (Za 7)) (eC (.int 1))) (Zf Zn (Zf Zn (Za 3) (Za 7)) (eC (.int 0))))) (YB W b C F L B (aA (.int (k:Int))) x8 x9)=aA (.nx (YB W b C F L B (aA (.int (k:Int))) (aA (.int (ZQ (eW W) F k:Int))) x9)):=by
 obtain⟨t,et⟩:=Nz hk;have ta:=FW hk;have a0:Zn (pP (T7 W k)) (.int 0)=aA (.int ((Zw (eW W) k).1:Int)):=by rw[et];rfl
 have a1:Zn (pP (T7 W k)) (.int 1)=aA (.int ((Zw (eW W) k).2:Int)):=by rw[et];rfl
 have b0:=To (Zw (eW W) k).1 F;have e0:Zf Zn (Zf Zn (Za 3) (Za 7)) (eC (.int 0)) (YB W b C F L B (aA (.int (k:Int))) x8 x9)=aA (.int ((Zw (eW W) k).1:Int)):=by show((Zn (Xm W) (.int (k:Int))).bind λx=>Zn x (.int 0))=_;rw[ta];exact a0
 have e1:Zf Zn (Zf Zn (Za 3) (Za 7)) (eC (.int 1)) (YB W b C F L B (aA (.int (k:Int))) x8 x9)=aA (.int ((Zw (eW W) k).2:Int)):=by show((Zn (Xm W) (.int (k:Int))).bind λx=>Zn x (.int 1))=_;rw[ta];exact a1
 have et:xB (Zf (YC aC) (Zf Zn (Zf Zn (Za 3) (Za 7)) (eC (.int 0))) (Za 4)) (YB W b C F L B (aA (.int (k:Int))) x8 x9)=aA (decide ((Zw (eW W) k).1∈F)):=by
  have:Zf (YC aC) (Zf Zn (Zf Zn (Za 3) (Za 7)) (eC (.int 0))) (Za 4) (YB W b C F L B (aA (.int (k:Int))) x8 x9)=aA (.bl (decide ((Zw (eW W) k).1∈F))):=by show((Zf Zn (Zf Zn (Za 3) (Za 7)) (eC (.int 0)) (YB W b C F L B (aA (.int (k:Int))) x8 x9)).bind λx=>YC aC x (.lst (iL (nL F))))=_;rw[e0];exact b0
  unfold xB;rw[this];try rfl
 have ei:eP (HM (xB (Zf (YC aC) (Zf Zn (Zf Zn (Za 3) (Za 7)) (eC (.int 0))) (Za 4))) (Zf Zn (Zf Zn (Za 3) (Za 7)) (eC (.int 1))) (Zf Zn (Zf Zn (Za 3) (Za 7)) (eC (.int 0)))) (YB W b C F L B (aA (.int (k:Int))) x8 x9)=aA (.int (ZQ (eW W) F k:Int)):=by
  refine vP ?_;unfold HM ZQ;rw[et];simp only[aE];by_cases q:(Zw (eW W) k).1∈F
  ·rw[pC (by simpa using q),pC q];exact e1
  ·rw[pE (by simpa using q),pE q];exact e0
 unfold Zl;rw[ei];rfl
theorem w3(hL:∀j∈L,j<(eW W).length)(hl:L.length<=1000):Zl 9 (eP (Zd Zx [ZA 1 [8,3] (YW (Za 5)) (.one 0) (xB (Zf (YC aC) (Za 1) (Up Xq (Zf Zn (Za 2) (Za 0)) UB (VR (eC (.int 2)))))) (Za 0)])) (YB W b C F L B (aA (.int (k:Int))) (aA (.int (h:Int))) x9)=aA (.nx (YB W b C F L B (aA (.int (k:Int))) (aA (.int (h:Int))) (aA (.int (Z4 (eW W) L h:Int))))):=by
 have hc:ZA 1 [8,3] (YW (Za 5)) (.one 0) (xB (Zf (YC aC) (Za 1) (Up Xq (Zf Zn (Za 2) (Za 0)) UB (VR (eC (.int 2)))))) (Za 0) (YB W b C F L B (aA (.int (k:Int))) (aA (.int (h:Int))) x9)=aA (.lst (iL (nL (L.filter (PH (eW W) h))))):=by
  rw[V7 L (λ(i:Nat)=>.int (i:Int)) (λ(i:Nat)=>.int (i:Int)) (PH (eW W) h) (by simp[nL,YB]) (by omega) λy hy=>⟨[aA (.int (y:Int)),aA (.int (h:Int)),aA (Xm W)],by simp[VL.compEnv,YB],?_,λ_=>by simp⟩]
  ·unfold nL iL;rw[bQ];rfl
  ·obtain⟨t,et⟩:=Nz (hL y hy);have ta:=FW (hL y hy);have sl:Xq (pP (T7 W y)) aB (aA 2)=aA (pP [((Zw (eW W) y).1:Int),((Zw (eW W) y).2:Int)]):=by rw[et];rfl
   have gi:YC aC (.int (h:Int)) (pP [((Zw (eW W) y).1:Int),((Zw (eW W) y).2:Int)])=aA (.bl (PH (eW W) h y)):=by
    rw[FN];unfold PH;by_cases z1:h=(Zw (eW W) y).1
    ·simp[z1]
    ·by_cases z2:h=(Zw (eW W) y).2
     ·simp[z2]
     ·have y1:¬(h:Int)=((Zw (eW W) y).1:Int):=by omega
      have y2:¬(h:Int)=((Zw (eW W) y).2:Int):=by omega
      simp[z1,z2,y1,y2]
   have e1:Zf (YC aC) (Za 1) (Up Xq (Zf Zn (Za 2) (Za 0)) UB (VR (eC (.int 2)))) [aA (.int (y:Int)),aA (.int (h:Int)),aA (Xm W)]=aA (.bl (PH (eW W) h y)):=by show((((Zn (Xm W) (.int (y:Int))).bind λx=>Xq x aB (aA 2))).bind λz=>YC aC (.int (h:Int)) z)=_;rw[ta];show(Xq (pP (T7 W y)) aB (aA 2)).bind _=_;rw[sl];exact gi
   unfold xB;rw[e1];try rfl
 have e2:eP (Zd Zx [ZA 1 [8,3] (YW (Za 5)) (.one 0) (xB (Zf (YC aC) (Za 1) (Up Xq (Zf Zn (Za 2) (Za 0)) UB (VR (eC (.int 2)))))) (Za 0)]) (YB W b C F L B (aA (.int (k:Int))) (aA (.int (h:Int))) x9)=aA (.int (Z4 (eW W) L h:Int)):=by refine vP ?_;show(T9 [_] _).bind Zx=_;unfold T9;rw[hc];simp[T9,nL,Z4]
 unfold Zl;rw[e2];rfl
theorem w4a{Lm:Lam}{l:PV}{v:Bool}{k h c:Nat}(pl:YJ l=aD)(hT:VN Lm l [.int (k:Int),.int (h:Int),.int (c:Int)]=aA (.bl v)) :
  xV (Mp VN 2 [Za 7,Za 8,Za 9]) (YB W b (.clo Lm l) F L B (aA (.int (k:Int))) (aA (.int (h:Int))) (aA (.int (c:Int))))=aA v:=by
 have:Mp VN 2 [Za 7,Za 8,Za 9] (YB W b (.clo Lm l) F L B (aA (.int (k:Int))) (aA (.int (h:Int))) (aA (.int (c:Int))))=aA (.bl v):=by unfold Mp;have ev:T9 [Za 7,Za 8,Za 9] (YB W b (.clo Lm l) F L B (aA (.int (k:Int))) (aA (.int (h:Int))) (aA (.int (c:Int))))=aA [.int (k:Int),.int (h:Int),.int (c:Int)]:=rfl;have g2:(YB W b (.clo Lm l) F L B (aA (.int (k:Int))) (aA (.int (h:Int))) (aA (.int (c:Int))))[2]?=aA (aA (.clo Lm l)):=rfl;rw[g2];simp only;rw[ev];simp only[aE];rw[pC (by rw[pl];rfl),hT];rfl
 unfold xV;rw[this];rfl
theorem w4(hF:F.length<=1000)(hB:B.length<=1000){Lm:Lam}{l:PV}{v:Bool}{k h c:Nat}(pl:YJ l=aD)(hT:VN Lm l [.int (k:Int),.int (h:Int),.int (c:Int)]=aA (.bl v)) :
  Wb (xV (Mp VN 2 [Za 7,Za 8,Za 9])) (Zk (Zy 4 (eP (Za 8))) (Zy 6 (eP (Yg [Za 7,Za 8,Za 9])))) ZI (YB W b (.clo Lm l) F L B (aA (.int (k:Int))) (aA (.int (h:Int))) (aA (.int (c:Int)))) =
   aA (.nx (if v=aD then YB W b (.clo Lm l) (F++[h]) L (B++[(k,h,c)]) (aA (.int (k:Int))) (aA (.int (h:Int))) (aA (.int (c:Int))) else YB W b (.clo Lm l) F L B (aA (.int (k:Int))) (aA (.int (h:Int))) (aA (.int (c:Int))))):=by
 unfold Wb;rw[w4a pl hT];simp only[aE]
 cases v with
 | false=>rfl
 | true=>
  simp only[if_true];have e1:Zy 4 (eP (Za 8)) (YB W b (.clo Lm l) F L B (aA (.int (k:Int))) (aA (.int (h:Int))) (aA (.int (c:Int))))=aA (.nx (YB W b (.clo Lm l) (F++[h]) L B (aA (.int (k:Int))) (aA (.int (h:Int))) (aA (.int (c:Int))))):=by rw[YX (m:=iL (nL F)) (l:=.int (h:Int)) rfl rfl (by simp[nL];omega)];simp[nL,YB]
  have e2:Zy 6 (eP (Yg [Za 7,Za 8,Za 9])) (YB W b (.clo Lm l) (F++[h]) L B (aA (.int (k:Int))) (aA (.int (h:Int))) (aA (.int (c:Int))))=aA (.nx (YB W b (.clo Lm l) (F++[h]) L (B++[(k,h,c)]) (aA (.int (k:Int))) (aA (.int (h:Int))) (aA (.int (c:Int))))):=by rw[YX (m:=B.map λx=>pP (bI x)) (l:=pP (bI (k,h,c))) rfl rfl (by simp;omega)];simp[YB]
  rw[ZH e1,e2]
theorem w5:Zl 7 (Zd Z1 [Za 3,Za 5,Za 4]) (YB W b C F L B x7 x8 x9)=aA (.nx (YB W b C F L B (aA (XU (Xv (eW W) L F))) x8 x9)):=by have:Zd Z1 [Za 3,Za 5,Za 4] (YB W b C F L B x7 x8 x9)=aA (XU (Xv (eW W) L F)):=MV;unfold Zl;rw[this];rfl
end
theorem WE{W:List (List Int)}:∀e∈eW W,e.1<W.length/\e.2<W.length:=λe he=>by have:=D9 e he;omega
theorem OF{W:List (List Int)}(ok:ZV W){b:Nat}(hb:b<W.length){Lm:Lam}{l:PV}{φ:Nat->Nat->Nat->Bool}(pl:YJ l=aD)
  (hT:∀k h c:Nat,k<(eW W).length->h<W.length->VN Lm l [.int (k:Int),.int (h:Int),.int (c:Int)]=aA (.bl (φ k h c))) :
  Yz [wP W,.int (b:Int),.clo Lm l]=aA (.lst ((Yb (eW W) φ (eW W).length (R8 b)).B.map λx=>pP (bI x))):=by
 have hf:=ok.few;have tv:=Uh ok;have hm:(eW W).length<=441:=by rw[T5];exact tv.2
 obtain⟨s',k',q1,⟨s,x8,x9,rfl,wi,wl,wf⟩,q3⟩:=FK (c:=xB (Tq aD (Za 7))) (fb:=Zk (Zy 5 (eP (Za 7)))
   (Zk (Zl 8 (eP (HM (xB (Zf (YC aC) (Zf Zn (Zf Zn (Za 3) (Za 7)) (eC (.int 0))) (Za 4))) (Zf Zn (Zf Zn (Za 3) (Za 7)) (eC (.int 1))) (Zf Zn (Zf Zn (Za 3) (Za 7)) (eC (.int 0))))))
   (Zk (Zl 9 (eP (Zd Zx [ZA 1 [8,3] (YW (Za 5)) (.one 0) (xB (Zf (YC aC) (Za 1) (Up Xq (Zf Zn (Za 2) (Za 0)) UB (VR (eC (.int 2)))))) (Za 0)])))
   (Zk (Wb (xV (Mp VN 2 [Za 7,Za 8,Za 9])) (Zk (Zy 4 (eP (Za 8))) (Zy 6 (eP (Yg [Za 7,Za 8,Za 9])))) ZI)
   (Zl 7 (Zd Z1 [Za 3,Za 5,Za 4]))))))
  (λk st=>∃s x8 x9,st=YB W b (.clo Lm l) s.F s.L s.B (aA (XU (Xv (eW W) s.L s.F))) x8 x9/\WInv (eW W) W.length b s/\(eW W).length<=k+s.L.length/\Yb (eW W) φ k s=Yb (eW W) φ (eW W).length (R8 b)) (by
   rintro k st ⟨s,x8,x9,rfl,wi,wl,wf⟩
   cases e:Xv (eW W) s.L s.F with
   | none=>exact .inl (by simp[RU,XU,YB])
   | some j=>
    cases k with
    | zero=>
     have:=SK (φ:=φ) WE wi (m:=0) (by omega);unfold Yb at this;rw[e] at this;cases this
    | succ k=>
     have wi2:=wi.step (φ:=φ) WE e;obtain⟨j1,j2,_⟩:=XM e;obtain⟨n1,n2,o,ho,n3⟩:=Q6 e;have eE:Zw (eW W) j∈eW W:=by unfold Zw;rw[aL,aG j1];exact cA j1
     have hlt:ZQ (eW W) s.F j<W.length:=by
      have:=WE _ eE;rcases n3 with z | z<;>rw[z] at this
      ·exact this.2
      ·exact this.1
     have lL:=TB wi.ndL wi.ltL;have lF:=TB wi.ndF wi.ltF;have lB:s.F.length=s.B.length+1:=by rw[wi.hB];simp
     have ltL:∀i∈s.L++[j],i<(eW W).length:=λi hi=>by
      rcases aq.mp hi with z | z
      ·exact wi.ltL i z
      ·rw[aQ.mp z];exact j1
     have e1:=w1 (W:=W) (b:=b) (C:=.clo Lm l) (F:=s.F) (L:=s.L) (B:=s.B) (x8:=x8) (x9:=x9) (k:=j) (by omega);have e2:=w2 (W:=W) (b:=b) (C:=.clo Lm l) (F:=s.F) (L:=s.L++[j]) (B:=s.B) (x8:=x8) (x9:=x9) j1;have e3:=w3 (W:=W) (b:=b) (C:=.clo Lm l) (F:=s.F) (L:=s.L++[j]) (B:=s.B) (x9:=x9) (k:=j) (h:=ZQ (eW W) s.F j) ltL (by rw[aY,cD];omega);have e4:=w4 (W:=W) (b:=b) (F:=s.F) (L:=s.L++[j]) (B:=s.B) (by omega) (by omega) pl (hT j (ZQ (eW W) s.F j) (Z4 (eW W) (s.L++[j]) (ZQ (eW W) s.F j)) j1 hlt)
     have st:(if φ j (ZQ (eW W) s.F j) (Z4 (eW W) (s.L++[j]) (ZQ (eW W) s.F j))=aD then YB W b (.clo Lm l) (s.F++[ZQ (eW W) s.F j]) (s.L++[j]) (s.B++[(j,ZQ (eW W) s.F j,Z4 (eW W) (s.L++[j]) (ZQ (eW W) s.F j))]) (aA (.int (j:Int))) (aA (.int (ZQ (eW W) s.F j:Int))) (aA (.int (Z4 (eW W) (s.L++[j]) (ZQ (eW W) s.F j):Int))) else YB W b (.clo Lm l) s.F (s.L++[j]) s.B (aA (.int (j:Int))) (aA (.int (ZQ (eW W) s.F j:Int))) (aA (.int (Z4 (eW W) (s.L++[j]) (ZQ (eW W) s.F j):Int))))=YB W b (.clo Lm l) (Z0 (eW W) φ s j).F (Z0 (eW W) φ s j).L (Z0 (eW W) φ s j).B (aA (.int (j:Int))) (aA (.int (ZQ (eW W) s.F j:Int))) (aA (.int (Z4 (eW W) (s.L++[j]) (ZQ (eW W) s.F j):Int))):=by
      unfold Z0;split<;>rfl
     rw[st] at e4;have e5:=w5 (W:=W) (b:=b) (C:=.clo Lm l) (F:=(Z0 (eW W) φ s j).F) (L:=(Z0 (eW W) φ s j).L) (B:=(Z0 (eW W) φ s j).B) (x7:=aA (.int (j:Int))) (x8:=aA (.int (ZQ (eW W) s.F j:Int))) (x9:=aA (.int (Z4 (eW W) (s.L++[j]) (ZQ (eW W) s.F j):Int)));refine .inr ⟨by simp[RU,XU,YB],_,k,?_,by omega,Z0 (eW W) φ s j,aA (.int (ZQ (eW W) s.F j:Int)),aA (.int (Z4 (eW W) (s.L++[j]) (ZQ (eW W) s.F j):Int)),rfl,wi2,?_,?_⟩
     ·exact(ZH e1).trans ((ZH e2).trans ((ZH e3).trans ((ZH e4).trans e5)))
     ·rw[Q7,aY,cD];omega
     ·rw[<-wf]
      conv=>rhs;unfold Yb
      rw[e]) (k:=(eW W).length) (s:=YB W b (.clo Lm l) [b] [] [] (aA (XU (Xv (eW W) [] [b]))) aB aB) ⟨R8 b,aB,aB,rfl,WInv.start hb,by simp,rfl⟩
 have en:Xv (eW W) s.L s.F=aB:=by
  cases e:Xv (eW W) s.L s.F with
  | none=>rfl
  | some h=>rw[e] at q3;simp[RU,XU,YB] at q3
 have fin:s=Yb (eW W) φ (eW W).length (R8 b):=by
  rw[<-wf]
  cases k' with
  | zero=>rfl
  | succ n=>unfold Yb;rw[en]
 have a1:Zl 3 (Zd Y3 [Za 0]) [aA (wP W),aA (.int (b:Int)),aA (.clo Lm l),aB,aB,aB,aB,aB,aB,aB]=aA (.nx [aA (wP W),aA (.int (b:Int)),aA (.clo Lm l),aA (Xm W),aB,aB,aB,aB,aB,aB]):=by have:Zd Y3 [Za 0] [aA (wP W),aA (.int (b:Int)),aA (.clo Lm l),aB,aB,aB,aB,aB,aB,aB]=aA (Xm W):=tv.1;unfold Zl;rw[this];rfl
 have a2:Zl 4 (ZN [eP (Za 1)]) [aA (wP W),aA (.int (b:Int)),aA (.clo Lm l),aA (Xm W),aB,aB,aB,aB,aB,aB]=aA (.nx [aA (wP W),aA (.int (b:Int)),aA (.clo Lm l),aA (Xm W),aA (.lst (iL (nL [b]))),aB,aB,aB,aB,aB]):=rfl;have a3:Zl 5 (ZN []) [aA (wP W),aA (.int (b:Int)),aA (.clo Lm l),aA (Xm W),aA (.lst (iL (nL [b]))),aB,aB,aB,aB,aB]=aA (.nx [aA (wP W),aA (.int (b:Int)),aA (.clo Lm l),aA (Xm W),aA (.lst (iL (nL [b]))),aA (.lst []),aB,aB,aB,aB]):=rfl;have a4:Zl 6 (ZN []) [aA (wP W),aA (.int (b:Int)),aA (.clo Lm l),aA (Xm W),aA (.lst (iL (nL [b]))),aA (.lst []),aB,aB,aB,aB]=aA (.nx (YB W b (.clo Lm l) [b] [] [] aB aB aB)):=rfl;have a5:=w5 (W:=W) (b:=b) (C:=.clo Lm l) (F:=[b]) (L:=[]) (B:=[]) (x7:=aB) (x8:=aB) (x9:=aB);show Xi 10 SD _=_;unfold SD;show(Zk _ _ [aA (wP W),aA (.int (b:Int)),aA (.clo Lm l),aB,aB,aB,aB,aB,aB,aB]).bind Xa=_;rw[ZH a1,ZH a2,ZH a3,ZH a4,ZH a5,ZH q1,<-fin];rfl
theorem MW(st:cO)(i:Nat)(q f:ah):(JJ st i q f).free=f:=by
 unfold JJ;split
 ·split<;>rfl
 ·rfl
theorem BG:Yf≠Yu:=λh=>by have h2:=congrArg Lam.free h;unfold Yf Yu at h2;rw[MW,MW] at h2;exact absurd h2 (by decide)
theorem HG{D:List Int}{k h c:Nat}(hh:h<D.length):VN Yu (pP D) [.int (k:Int),.int (h:Int),.int (c:Int)]=aA (.bl (PJ (ZL D) k h c)):=by
 unfold VN;rw[pC rfl];have a:Zn (pP D) (.int (h:Int))=aA (.int (ZL D h)):=by show Ts (iL D) (h:Int)=_;refine WG ?_;rw[aU,aG hh];unfold ZL;rw[aL,aG hh];rfl
 have e1:Zf Zn (Za 3) (Za 1) [aA (.int (k:Int)),aA (.int (h:Int)),aA (.int (c:Int)),aA (pP D)]=aA (.int (ZL D h)):=a;show Zf S4 (Zf Zn (Za 3) (Za 1)) (Za 2) [aA (.int (k:Int)),aA (.int (h:Int)),aA (.int (c:Int)),aA (pP D)]=_;unfold Zf at e1 ⊢;rw[e1];rfl
theorem Kz{K:List Nat}{k h c:Nat}:VN Yf (pP (nL K)) [.int (k:Int),.int (h:Int),.int (c:Int)]=aA (.bl (decide (k∈K))):=by unfold VN;rw[pE BG,pC rfl];show YC aC (.int (k:Int)) (pP (nL K))=_;rw[FN];have:=Kt (y:=k) (l:=K);simp[this]
theorem Ui(D:List Int):YJ (pP D)=aD:=by
 show XD (iL D)=aD
 induction D with
 | nil=>rfl
 | cons a r ih=>exact ih
theorem RP{g:List PV->Option PV}{f:XE}{s:ZJ}{l r:PV}(h:f s=aA l)(hg:g [l]=aA r):Zd g [f] s=aA r:=by show((f s).bind λx=>aA [x]).bind g=_;rw[h];exact hg
theorem KA{W:List (List Int)}(ok:ZV W){b:Nat}(hb:b<W.length){Lm:Lam}{l:PV}{φ:Nat->Nat->Nat->Bool}(pl:YJ l=aD)
  (hT:∀k h c:Nat,k<(eW W).length->h<W.length->VN Lm l [.int (k:Int),.int (h:Int),.int (c:Int)]=aA (.bl (φ k h c))) :
  W3 [wP W,.int (b:Int),.clo Lm l]=aA (pP (nL (T6 ((Yb (eW W) φ (eW W).length (R8 b)).B.map (·.1))))):=by
 have hw:=OF ok hb pl hT;generalize hs:Yb (eW W) φ (eW W).length (R8 b)=s at hw ⊢;have wi:WInv (eW W) W.length b s:=by rw[<-hs];exact WInv.walk WE (WInv.start hb)
 have lF:=TB wi.ndF wi.ltF;have lB:s.F.length=s.B.length+1:=by rw[wi.hB];simp
 have hf:=ok.few
 have hc:ZA 1 [] (YW (Zd Yz [Za 0,Za 1,Za 2])) (.one 0) ZZ (Zf Zn (Za 0) (eC (.int 0))) [aA (wP W),aA (.int (b:Int)),aA (.clo Lm l)]=aA (.lst (iL (nL (s.B.map (·.1))))):=by
  have fi:YW (Zd Yz [Za 0,Za 1,Za 2]) [aA (wP W),aA (.int (b:Int)),aA (.clo Lm l)]=aA (s.B.map λx=>pP (bI x)):=by have:Zd Yz [Za 0,Za 1,Za 2] [aA (wP W),aA (.int (b:Int)),aA (.clo Lm l)]=aA (.lst (s.B.map λx=>pP (bI x))):=hw;unfold YW;rw[this];rfl
  rw[Y2 s.B (λx=>pP (bI x)) (λx=>.int (x.1:Int)) fi (by omega) (λx hx=>?_)]
  ·unfold nL iL;rw[bQ,bQ];rfl
  ·exact⟨[aA (pP (bI x))],by simp[VL.compEnv],rfl,rfl⟩
 have hs2:X5 [.lst (iL (nL (s.B.map (·.1))))]=aA (.lst (iL (sortI (nL (s.B.map (·.1)))))):=Pe (by rw[aH];omega);show Xi 3 Th _=_;unfold Th;show(Ya _ [aA (wP W),aA (.int (b:Int)),aA (.clo Lm l)]).bind Xa=_;have e:eP (Zd Y7 [Zd X5 [ZA 1 [] (YW (Zd Yz [Za 0,Za 1,Za 2])) (.one 0) ZZ (Zf Zn (Za 0) (eC (.int 0)))]]) [aA (wP W),aA (.int (b:Int)),aA (.clo Lm l)]=aA (pP (nL (T6 (s.B.map (·.1))))):=by rw[Nx];have e2:Zd Y7 [Zd X5 [ZA 1 [] (YW (Zd Yz [Za 0,Za 1,Za 2])) (.one 0) ZZ (Zf Zn (Za 0) (eC (.int 0)))]] [aA (wP W),aA (.int (b:Int)),aA (.clo Lm l)]=aA (pP (sortI (nL (s.B.map (·.1))))):=RP (RP hc hs2) rfl;unfold eP;rw[e2,aE,pC];show ZC (iL _)=aD;exact Yd _
 rw[SM e];rfl
theorem TC{W:List (List Int)}{D:List Int}{b:Nat}{F:List Nat}(hD:D.length<=1000)(eF:WR [wP W,pP D,.int (b:Int)]=aA (.lst (iL (nL F)))) :
  ZE [wP W,pP D,.int (b:Int)]=aA (.bl (decide (XN D b=[])&&decide (F.length=W.length))):=by
 have e1:=Kw (b:=b) hD
 have h1:Zf (YN aC) (Zd Zx [Zd Wf [Za 1,Za 2]]) (eC (.int 0)) [aA (wP W),aA (pP D),aA (.int (b:Int))]=aA (.bl (decide (XN D b=[]))):=by
  have:Zd Zx [Zd Wf [Za 1,Za 2]] [aA (wP W),aA (pP D),aA (.int (b:Int))]=aA (.int ((XN D b).length:Int)):=by have h:Zd Wf [Za 1,Za 2] [aA (wP W),aA (pP D),aA (.int (b:Int))]=aA (.lst (iL (nL (XN D b)))):=e1;rw[XI,YH,h];simp[nL]
  rw[ZF,this];simp
 have h2:Zf (YN aC) (Zd Zx [Zd WR [Za 0,Za 1,Za 2]]) (Zd Zx [Za 0]) [aA (wP W),aA (pP D),aA (.int (b:Int))]=aA (.bl (decide (F.length=W.length))):=by
  have:Zd Zx [Zd WR [Za 0,Za 1,Za 2]] [aA (wP W),aA (pP D),aA (.int (b:Int))]=aA (.int (F.length:Int)):=by have h:Zd WR [Za 0,Za 1,Za 2] [aA (wP W),aA (pP D),aA (.int (b:Int))]=aA (.lst (iL (nL F))):=eF;rw[XI,YH,h];simp[nL]
  rw[ZF,this];simp;omega
 show Xi 3 WT _=_;unfold WT;show(Ya _ [aA (wP W),aA (pP D),aA (.int (b:Int))]).bind Xa=_;rw[SM (v:=.bl (decide (XN D b=[])&&decide (F.length=W.length)))]
 ·rfl
 ·rw[Wz,Sm,Yj,h1];by_cases q:XN D b=[]
  ·rw[decide_eq_true q];simp only[aE,UK,if_true];rw[h2];rfl
  ·simp[q]
def Yl(W:List (List Int))(D:List Int)(b:Nat):WS:=Yb (eW W) (PJ (ZL D)) (eW W).length (R8 b)
def Xn(W:List (List Int))(D:List Int)(b:Nat):List Nat:=T6 ((Yl W D b).B.map (·.1))
theorem Pg{W:List (List Int)}(ok:ZV W){D:List Int}(hd:D.length=W.length){b:Nat}(hb:b<W.length)(hs:ZE [wP W,pP D,.int (b:Int)]=aA (.bl aD)):ZU [wP W,.int (b:Int),pP D]=aA (pP (nL (Xn W D b))):=by
 have ht:=KA ok hb (Ui D) (Lm:=Yu) (φ:=PJ (ZL D)) λk h c _ hh=>HG (by rw[hd];exact hh);have e1:Wb (WK (xB (Zd ZE [Za 0,Za 2,Za 1]))) UN ZI [aA (wP W),aA (.int (b:Int)),aA (pP D)]=aA (.nx [aA (wP W),aA (.int (b:Int)),aA (pP D)]):=by have:Zd ZE [Za 0,Za 2,Za 1] [aA (wP W),aA (.int (b:Int)),aA (pP D)]=aA (.bl aD):=hs;unfold Wb WK xB;rw[this];rfl
 have e2:UR W3 (Za 0) (Za 1) Yu 2 [aA (wP W),aA (.int (b:Int)),aA (pP D)]=aA (pP (nL (Xn W D b))):=by
  show(W3 [wP W,.int (b:Int),.clo Yu (pP D)]).bind _=_;rw[ht,aE,pC]
  ·rfl
  ·exact Ui _
 show Xi 3 Ti _=_;unfold Ti;show(Zk _ _ [aA (wP W),aA (.int (b:Int)),aA (pP D)]).bind Xa=_;rw[ZH e1,SM e2];rfl
theorem Ph{W:List (List Int)}(ok:ZV W){D:List Int}{b:Nat}(hb:b<W.length){G:List Nat}(B:Burn W D b G)(all:G.length=W.length)(nn:∀g,g<W.length->g≠b->0<=ZL D g):∀h,h<W.length->h∈(Yl W D b).F:=λh hh=>by
 have wi:WInv (eW W) W.length b (Yl W D b):=WInv.walk WE (WInv.start hb);have wp:PInv (eW W) W.length (ZL D) (Yl W D b):=PInv.walk WE (PInv.start nn);have en:Xv (eW W) (Yl W D b).L (Yl W D b).F=aB:=SK WE (WInv.start hb) (by simp)
 have hG:h∈G:=by
  have:=Wv (l:=nL (aS W.length)) (m:=nL G) (fL.mpr (i7.imp λz e=>z (RA e)));by_cases z:h∈G
  ·exact z
  ·have:=TB (n:=W.length) (Wl B.nd z) λx hx=>by
    rcases aq.mp hx with y | y
    ·exact B.lt x y
    ·rw[aQ.mp y];exact hh
   rw[aY,cD] at this;omega
 exact MU ok wi wp en B G.length (af _) h (by rw[dI];exact hG)
theorem HH{W:List (List Int)}{D:List Int}{b:Nat}:Yb (eW W) (λk _ _=>decide (k∈Xn W D b)) (eW W).length (R8 b)=Yl W D b:=
 Q8 (T:=Xn W D b) (λx hx=>by simp[R8] at hx) λk=>(Tp _).mem_iff
theorem HI{W:List (List Int)}{D D':List Int}{b:Nat}(h:∀g,g≠b->ZL D g=ZL D' g):Yl W D b=Yl W D' b:=
 Q9 (λk g c hg=>by unfold PJ;rw[h g hg]) (by simp[R8])
def VQ(B:List (Nat×Nat×Nat))(c:List Int):List Int:=B.foldl (λc x=>c.set x.2.1 ((x.2.2:Int)-1)) c
theorem Pj:∀(B:List (Nat×Nat×Nat))(c:List Int),(VQ B c).length=c.length
 | [],_=>rfl
 | x::B,c=>by show(VQ B (c.set _ _)).length=_;rw[Pj,bU]
theorem HJ(B:List (Nat×Nat×Nat))(x:Nat×Nat×Nat)(c:List Int):VQ (B++[x]) c=(VQ B c).set x.2.1 ((x.2.2:Int)-1):=by unfold VQ;rw[jq];rfl
def PM(W:List (List Int))(b:Nat)(K:List Nat)(c:List Int)(B:List (Nat×Nat×Nat))(x5 x6 x7:Option PV):ZJ:=[aA (wP W),aA (.int (b:Int)),aA (pP (nL K)),aA (.lst (iL c)),aA (.lst (B.map λx=>pP (bI x))),x5,x6,x7]
theorem MX{W:List (List Int)}(ok:ZV W){b:Nat}(hb:b<W.length){K:List Nat} :
  Wh [wP W,.int (b:Int),pP (nL K)]=aA (pP (VQ (Yb (eW W) (λk _ _=>decide (k∈K)) (eW W).length (R8 b)).B (aK W.length 0))):=by
 have hw:=OF ok hb (Ui (nL K)) (Lm:=Yf) (φ:=λk _ _=>decide (k∈K)) λk h c _ _=>Kz;generalize hs:Yb (eW W) (λk _ _=>decide (k∈K)) (eW W).length (R8 b)=s at hw ⊢;have wi:WInv (eW W) W.length b s:=by rw[<-hs];exact WInv.walk WE (WInv.start hb)
 have hf:=ok.few;have hB:∀x∈s.B,x.2.1<W.length:=λx hx=>wi.ltF _ (by rw[wi.hB];exact aT _ (aa.mpr ⟨x,hx,rfl⟩))
 have e1:Zl 3 (Zf W9 (ZN [eC (.int 0)]) (Zd Zx [Za 0])) [aA (wP W),aA (.int (b:Int)),aA (pP (nL K)),aB,aB,aB,aB,aB]=aA (.nx [aA (wP W),aA (.int (b:Int)),aA (pP (nL K)),aA (.lst (iL (aK W.length 0))),aB,aB,aB,aB]):=by
  have e:W9 (.lst [.int 0]) (.int (W.length:Int))=aA (.lst (iL (aK W.length 0))):=by show(if ZC [PV.int 0]=aD/\(-1000000:Int)<=(W.length:Int)/\(W.length:Int)<=1000000/\[PV.int 0].length*((W.length:Int)).toNat<=10000 then aA (PV.lst (aK ((W.length:Int)).toNat [PV.int 0]).flatten) else aB)=_;rw[pC ⟨rfl,by omega,by omega,by simp;omega⟩,cL,NU];simp
  have e0:Zf W9 (ZN [eC (.int 0)]) (Zd Zx [Za 0]) [aA (wP W),aA (.int (b:Int)),aA (pP (nL K)),aB,aB,aB,aB,aB]=aA (.lst (iL (aK W.length 0))):=by
   have z:Zd Zx [Za 0] [aA (wP W),aA (.int (b:Int)),aA (pP (nL K)),aB,aB,aB,aB,aB]=aA (.int (W.length:Int)):=by simp
   unfold Zf;rw[z];exact e
  unfold Zl;rw[e0];rfl
 have pB:XD (s.B.map λx=>pP (bI x))=aD:=by
  clear hw wi hB hs;generalize s.B=B
  induction B with
  | nil=>rfl
  | cons x r ih=>
   show(YJ (pP (bI x))&&XD _)=aD;rw[Ui];exact ih
 have e2:Zl 4 (UR Yz (Za 0) (Za 1) Yf 2) [aA (wP W),aA (.int (b:Int)),aA (pP (nL K)),aA (.lst (iL (aK W.length 0))),aB,aB,aB,aB]=aA (.nx (PM W b K (aK W.length 0) s.B aB aB aB)):=by
  have:UR Yz (Za 0) (Za 1) Yf 2 [aA (wP W),aA (.int (b:Int)),aA (pP (nL K)),aA (.lst (iL (aK W.length 0))),aB,aB,aB,aB]=aA (.lst (s.B.map λx=>pP (bI x))):=by show(Yz [wP W,.int (b:Int),.clo Yf (pP (nL K))]).bind _=_;rw[hw,aE,pC];exact pB
  unfold Zl;rw[this];rfl
 have e3:∃x5 x6 x7,Z3 [3] (YW (Za 4)) (.many [5,6,7]) (Xu 3 (Za 6) (Zf Xo (Za 7) (eC (.int 1)))) (PM W b K (aK W.length 0) s.B aB aB aB)=aA (.nx (PM W b K (VQ s.B (aK W.length 0)) s.B x5 x6 x7)):=by
  obtain⟨s',q1,x5,x6,x7,rfl⟩:=ZP (T:=.many [5,6,7]) (fb:=Xu 3 (Za 6) (Zf Xo (Za 7) (eC (.int 1)))) (ls:=s.B.map λx=>pP (bI x)) (s:=PM W b K (aK W.length 0) s.B aB aB aB)
   (λi st=>∃x5 x6 x7,st=PM W b K (VQ (s.B.take i) (aK W.length 0)) s.B x5 x6 x7) ⟨_,_,_,rfl⟩ (by
    rintro i l st hl ⟨x5,x6,x7,rfl⟩;rw[aU] at hl
    cases q:s.B[i]? with
    | none=>rw[q] at hl;cases hl
    | some x=>
     rw[q] at hl;cases hl;have hx:=hB x (bN q);refine⟨PM W b K (VQ (s.B.take i) (aK W.length 0)) s.B (aA (.int (x.1:Int))) (aA (.int (x.2.1:Int))) (aA (.int (x.2.2:Int))),PM W b K (VQ (s.B.take (i+1)) (aK W.length 0)) s.B (aA (.int (x.1:Int))) (aA (.int (x.2.1:Int))) (aA (.int (x.2.2:Int))),rfl,?_,_,_,_,rfl⟩;rw[Ov (l:=.int ((x.2.2:Int)-1)) (k:=(x.2.1:Int)) (j:=x.2.1) (m:=iL (VQ (s.B.take i) (aK W.length 0))) rfl rfl rfl (Yd _) rfl (U7 (by rw[aH,Pj,cN];exact hx))];have e:s.B.take (i+1)=s.B.take i++[x]:=by rw[iV,q];rfl
     rw[e,HJ];simp[PM,km])
  refine⟨x5,x6,x7,?_⟩;show Y8 _ _ (s.B.map λx=>pP (bI x)) _=_;rw[q1];simp
 obtain⟨x5,x6,x7,e3⟩:=e3;show Xi 8 Ub _=_;unfold Ub;show(Zk _ _ [aA (wP W),aA (.int (b:Int)),aA (pP (nL K)),aB,aB,aB,aB,aB]).bind Xa=_;rw[ZH e1,ZH e2,ZH e3];have e4:eP (Zd Y7 [Za 3]) (PM W b K (VQ s.B (aK W.length 0)) s.B x5 x6 x7)=aA (pP (VQ s.B (aK W.length 0))):=by have:Zd Y7 [Za 3] (PM W b K (VQ s.B (aK W.length 0)) s.B x5 x6 x7)=aA (pP (VQ s.B (aK W.length 0))):=rfl;unfold eP;rw[this,aE,pC];exact Yd _
 rw[SM e4];rfl
theorem Pk{h:Nat}:∀{B:List (Nat×Nat×Nat)}{c:List Int},(∀x∈B,x.2.1≠h)->(VQ B c)[h]?=c[h]?
 | [],_,_=>rfl
 | x::B,c,hb=>by show(VQ B (c.set x.2.1 _))[h]?=_;rw[Pk λy hy=>hb y (aT _ hy),cX (hb x (by simp))]
theorem JR{x:Nat×Nat×Nat}:∀{B:List (Nat×Nat×Nat)}{c:List Int},(B.map (·.2.1)).Nodup->x∈B->x.2.1<c.length->(VQ B c)[x.2.1]?=aA ((x.2.2:Int)-1)
 | [],_,_,h,_=>by simp at h
 | y::B,c,nd,h,hl=>by
  rw[aZ] at nd;have nr:=az.mp nd;show(VQ B (c.set y.2.1 _))[x.2.1]?=_;rcases a9.mp h with e | h
  ·subst e;rw[Pk λz hz e=>nr.1 (aa.mpr ⟨z,hz,e⟩),dZ hl]
  ·exact JR nr.2 h (by rw[bU];exact hl)
theorem FX{W:List (List Int)}{D:List Int}{b:Nat}{s:WS}(hd:D.length=W.length)(wi:WInv (eW W) W.length b s)(wp:PInv (eW W) W.length (ZL D) s)(all:∀h,h<W.length->h∈s.F):VQ s.B (aK W.length 0)=D.set b 0:=by
 have nd:(s.B.map (·.2.1)).Nodup:=by have:=wi.ndF;rw[wi.hB] at this;exact(az.mp this).2
 have nb:∀x∈s.B,x.2.1≠b:=λx hx e=>by have:=wi.ndF;rw[wi.hB] at this;exact(az.mp this).1 (aa.mpr ⟨x,hx,e⟩)
 apply jr;intro h;by_cases hh:h<W.length
 ·by_cases e:h=b
  ·subst e;rw[Pk nb,dZ (by omega),cI,pC hh]
  ·have hF:=all h hh;rw[wi.hB] at hF;rcases a9.mp hF with z | z
   ·exact absurd z e
   ·obtain⟨x,hx,ex⟩:=aa.mp z;have ex:x.2.1=h:=ex;subst ex;rw[JR nd hx (by rw[cN];exact hh),cX (λz=>e z.symm),wp.bur x hx];have hl:x.2.1<D.length:=by omega
    rw[aG hl];unfold ZL;rw[aL,aG hl];simp
 ·rw[eX (by rw[Pj,cN];omega),eX (by rw[bU];omega)]
theorem KC{W:List (List Int)}(ok:ZV W){D:List Int}(hd:D.length=W.length){b:Nat}(hb:b<W.length){G:List Nat}(B:Burn W D b G)(all:G.length=W.length)(nn:∀g,g<W.length->g≠b->0<=ZL D g) :
  Wh [wP W,.int (b:Int),pP (nL (Xn W D b))]=aA (pP (D.set b 0)):=by
 rw[MX ok hb,HH];have wi:WInv (eW W) W.length b (Yl W D b):=WInv.walk WE (WInv.start hb);have wp:PInv (eW W) W.length (ZL D) (Yl W D b):=PInv.walk WE (PInv.start nn);rw[FX hd wi wp (Ph ok hb B all nn)]
theorem MY{W:List (List Int)}(ok:ZV W)(m31:(eW W).length<=32){D:List Int}(hd:D.length=W.length){b:Nat}(hb:b<W.length){G:List Nat}(B:Burn W D b G)(all:G.length=W.length)(nn:∀g,g<W.length->g≠b->0<=ZL D g) :
  Wi [wP W,.int (b:Int),pP (nL (Xn W D b))]=aA (pP (D.set b 0)):=by
 have wi:WInv (eW W) W.length b (Yl W D b):=WInv.walk WE (WInv.start hb);have hall:=Ph ok hb B all nn;have hf:=ok.few;have pm:=Tp ((Yl W D b).B.map (·.1));have hT:Cc W (Xn W D b)=aD:=FR ok wi hall;have lt:∀k∈Xn W D b,k<=31:=λk hk=>by obtain⟨x,hx,rfl⟩:=aa.mp (pm.mem_iff.mp hk);have:=wi.ltL _ (wi.bl x hx);omega
 have ln:(Xn W D b).length<=17:=by
  have:=Ny wi hall;have:(Xn W D b).length=(Yl W D b).B.length:=by show(T6 _).length=_;rw[pm.length_eq,aH]
  omega
 have ht:=MR ok lt ln;rw[hT] at ht;have hs:=KC ok hd hb B all nn;have e1:Wb (WK (xB (Zd WZ [Za 0,Za 2]))) UN ZI [aA (wP W),aA (.int (b:Int)),aA (pP (nL (Xn W D b)))]=aA (.nx [aA (wP W),aA (.int (b:Int)),aA (pP (nL (Xn W D b)))]):=by have:Zd WZ [Za 0,Za 2] [aA (wP W),aA (.int (b:Int)),aA (pP (nL (Xn W D b)))]=aA (.bl aD):=ht;unfold Wb WK xB;rw[this];rfl
 have e2:Zd Wh [Za 0,Za 1,Za 2] [aA (wP W),aA (.int (b:Int)),aA (pP (nL (Xn W D b)))]=aA (pP (D.set b 0)):=hs;show Xi 3 Uc _=_;unfold Uc;show(Zk _ _ [aA (wP W),aA (.int (b:Int)),aA (pP (nL (Xn W D b)))]).bind Xa=_;rw[ZH e1,SM e2];rfl
def XW(W:List (List Int)):PV:=.lst ((eW W).map Nv)
theorem KD{W:List (List Int)}{k:Nat}(hk:k<(eW W).length):Zn (XW W) (.int (k:Int))=aA (pP [((Zw (eW W) k).1:Int),((Zw (eW W) k).2:Int)]):=by show Ts ((eW W).map Nv) (k:Int)=_;refine WG ?_;rw[aU,aG hk];unfold Zw;rw[aL,aG hk];rfl
theorem FY{W:List (List Int)}(hm:(eW W).length<=441){L F:List Nat}:X7 [XW W,.lst (iL (nL L)),.lst (iL (nL F))]=aA (XU (Xv (eW W) L F)):=by
 have key:=Tn (T:=.one 3) (fb:=Wb (Wr (xB (Zf (YC aD) (Za 3) (Za 1))) (xB (Zf (YN aD) (Zf (YC aC) (Zf Zn (Zf Zn (Za 0) (Za 3)) (eC (.int 0))) (Za 2)) (Zf (YC aC) (Zf Zn (Zf Zn (Za 0) (Za 3)) (eC (.int 1))) (Za 2))))) (Ya (eP (Za 3))) ZI) (q:=λ(i:Nat)=>.int (i:Int)) (g:=λ(i:Nat)=>.int (i:Int)) (c:=λk=>!decide (k∈L)&&(decide ((Zw (eW W) k).1∈F) != decide ((Zw (eW W) k).2∈F)))
  (λst=>∃x,st=[aA (XW W),aA (.lst (iL (nL L))),aA (.lst (iL (nL F))),x]) (ls:=aS (eW W).length) (s:=[aA (XW W),aA (.lst (iL (nL L))),aA (.lst (iL (nL F))),aB]) (by
   rintro k hk st ⟨x,rfl⟩;have hk:=bR.mp hk;have ta:=KD hk;have a0:Zn (pP [((Zw (eW W) k).1:Int),((Zw (eW W) k).2:Int)]) (.int 0)=aA (.int ((Zw (eW W) k).1:Int)):=rfl;have a1:Zn (pP [((Zw (eW W) k).1:Int),((Zw (eW W) k).2:Int)]) (.int 1)=aA (.int ((Zw (eW W) k).2:Int)):=rfl;have b0:=To (Zw (eW W) k).1 F;have b1:=To (Zw (eW W) k).2 F
   have bb:∀p q:Bool,YN aD (.bl p) (.bl q)=aA (.bl (p != q)):=λp q=>by
    unfold YN;rw[pC (by rfl)];cases p<;>cases q<;>simp
   have test:Wr (xB (Zf (YC aD) (Za 3) (Za 1))) (xB (Zf (YN aD) (Zf (YC aC) (Zf Zn (Zf Zn (Za 0) (Za 3)) (eC (.int 0))) (Za 2)) (Zf (YC aC) (Zf Zn (Zf Zn (Za 0) (Za 3)) (eC (.int 1))) (Za 2)))) [aA (XW W),aA (.lst (iL (nL L))),aA (.lst (iL (nL F))),aA (.int (k:Int))]=aA (!decide (k∈L)&&(decide ((Zw (eW W) k).1∈F) != decide ((Zw (eW W) k).2∈F))):=by
    have t1:xB (Zf (YC aD) (Za 3) (Za 1)) [aA (XW W),aA (.lst (iL (nL L))),aA (.lst (iL (nL F))),aA (.int (k:Int))]=aA (!decide (k∈L)):=by
     have:Zf (YC aD) (Za 3) (Za 1) [aA (XW W),aA (.lst (iL (nL L))),aA (.lst (iL (nL F))),aA (.int (k:Int))]=aA (.bl (!decide (k∈L))):=UX k L;unfold xB;rw[this];try rfl
    have u0:Zf (YC aC) (Zf Zn (Zf Zn (Za 0) (Za 3)) (eC (.int 0))) (Za 2) [aA (XW W),aA (.lst (iL (nL L))),aA (.lst (iL (nL F))),aA (.int (k:Int))]=aA (.bl (decide ((Zw (eW W) k).1∈F))):=by show(((Zn (XW W) (.int (k:Int))).bind λx=>Zn x (.int 0)).bind λx=>YC aC x (.lst (iL (nL F))))=_;rw[ta];exact b0
    have u1:Zf (YC aC) (Zf Zn (Zf Zn (Za 0) (Za 3)) (eC (.int 1))) (Za 2) [aA (XW W),aA (.lst (iL (nL L))),aA (.lst (iL (nL F))),aA (.int (k:Int))]=aA (.bl (decide ((Zw (eW W) k).2∈F))):=by show(((Zn (XW W) (.int (k:Int))).bind λx=>Zn x (.int 1)).bind λx=>YC aC x (.lst (iL (nL F))))=_;rw[ta];exact b1
    have t2:xB (Zf (YN aD) (Zf (YC aC) (Zf Zn (Zf Zn (Za 0) (Za 3)) (eC (.int 0))) (Za 2)) (Zf (YC aC) (Zf Zn (Zf Zn (Za 0) (Za 3)) (eC (.int 1))) (Za 2))) [aA (XW W),aA (.lst (iL (nL L))),aA (.lst (iL (nL F))),aA (.int (k:Int))]=aA (decide ((Zw (eW W) k).1∈F) != decide ((Zw (eW W) k).2∈F)):=by rw[Yj,ZF,u0,u1];simp only[aE];rw[bb];rfl
    rw[Sl,t1,aE];cases decide (k∈L)
    ·simp only[iU,if_true,kF];exact t2
    ·rfl
   refine⟨[aA (XW W),aA (.lst (iL (nL L))),aA (.lst (iL (nL F))),aA (.int (k:Int))],rfl,λhc=>?_,λhc=>⟨[aA (XW W),aA (.lst (iL (nL L))),aA (.lst (iL (nL F))),aA (.int (k:Int))],?_,aA (.int (k:Int)),rfl⟩⟩
   ·rw[Z8,test,hc];rfl
   ·rw[Z8,test,hc];rfl) ⟨_,rfl⟩
 have en:ZG [Zd Zx [Za 0]] [aA (XW W),aA (.lst (iL (nL L))),aA (.lst (iL (nL F))),aB]=aA ((aS (eW W).length).map λ(i:Nat)=>.int (i:Int)):=by
  have:Zd Zx [Za 0] [aA (XW W),aA (.lst (iL (nL L))),aA (.lst (iL (nL F))),aB]=aA (.int ((eW W).length:Int)):=by show aA (PV.int (((eW W).map Nv).length:Int))=_;rw[aH]
  exact Yp this (by omega)
 show Xi 4 SF _=_;unfold SF;show(Zk (Z3 [] _ _ _) _ [aA (XW W),aA (.lst (iL (nL L))),aA (.lst (iL (nL F))),aB]).bind Xa=_;unfold Xv
 cases q:(aS (eW W).length).find? λk=>!decide (k∈L)&&(decide ((Zw (eW W) k).1∈F) != decide ((Zw (eW W) k).2∈F)) with
 | some h=>
  rw[q] at key;rw[HB (v:=.int (h:Int))]
  ·rfl
  ·show(ZG [Zd Zx [Za 0]] [aA (XW W),aA (.lst (iL (nL L))),aA (.lst (iL (nL F))),aB]).bind _=_;rw[en];exact key
 | none=>
  rw[q] at key;obtain⟨s',k1,x,rfl⟩:=key;rw[ZH (s1:=[aA (XW W),aA (.lst (iL (nL L))),aA (.lst (iL (nL F))),x])]
  ·rfl
  ·show(ZG [Zd Zx [Za 0]] [aA (XW W),aA (.lst (iL (nL L))),aA (.lst (iL (nL F))),aB]).bind _=_;rw[en];exact k1
def Ys(W:List (List Int))(b:Nat)(D:List Int)(x4 x5:Option PV)(F L T:List Nat)(x9 x10 x11:Option PV):ZJ:=[aA (wP W),aA (.int (b:Int)),aA (pP D),aA (XW W),x4,x5,aA (.lst (iL (nL F))),aA (.lst (iL (nL L))),aA (.lst (iL (nL T))),x9,x10,x11]
section
variable {W:List (List Int)} {b:Nat} {D:List Int} {x4 x5:Option PV} {F L T:List Nat} {x9 x10 x11:Option PV} {k h c:Nat}
theorem v1(hl:L.length<=1000):Zy 7 (eP (Za 9)) (Ys W b D x4 x5 F L T (aA (.int (k:Int))) x10 x11)=aA (.nx (Ys W b D x4 x5 F (L++[k]) T (aA (.int (k:Int))) x10 x11)):=by rw[YX (m:=iL (nL L)) (l:=.int (k:Int)) rfl rfl (by simp[nL];omega)];simp[nL,Ys]
theorem v2(hk:k<(eW W).length):Zl 10 (eP (Zf Zn (ZN [Zf Zn (Zf Zn (Za 3) (Za 9)) (eC (.int 0)),Zf Zn (Zf Zn (Za 3) (Za 9)) (eC (.int 1))]) (Zd UA [Zf (YC aC) (Zf Zn (Zf Zn (Za 3) (Za 9)) (eC (.int 0))) (Za 6)]))) (Ys W b D x4 x5 F L T (aA (.int (k:Int))) x10 x11)=aA (.nx (Ys W b D x4 x5 F L T (aA (.int (k:Int))) (aA (.int (ZQ (eW W) F k:Int))) x11)):=by
 have ta:=KD hk;have b0:=To (Zw (eW W) k).1 F;have e0:Zf Zn (Zf Zn (Za 3) (Za 9)) (eC (.int 0)) (Ys W b D x4 x5 F L T (aA (.int (k:Int))) x10 x11)=aA (.int ((Zw (eW W) k).1:Int)):=by show((Zn (XW W) (.int (k:Int))).bind λx=>Zn x (.int 0))=_;rw[ta];rfl
 have e1:Zf Zn (Zf Zn (Za 3) (Za 9)) (eC (.int 1)) (Ys W b D x4 x5 F L T (aA (.int (k:Int))) x10 x11)=aA (.int ((Zw (eW W) k).2:Int)):=by show((Zn (XW W) (.int (k:Int))).bind λx=>Zn x (.int 1))=_;rw[ta];rfl
 have e2:Zf (YC aC) (Zf Zn (Zf Zn (Za 3) (Za 9)) (eC (.int 0))) (Za 6) (Ys W b D x4 x5 F L T (aA (.int (k:Int))) x10 x11)=aA (.bl (decide ((Zw (eW W) k).1∈F))):=by rw[ZF,e0];exact b0
 have e3:ZN [Zf Zn (Zf Zn (Za 3) (Za 9)) (eC (.int 0)),Zf Zn (Zf Zn (Za 3) (Za 9)) (eC (.int 1))] (Ys W b D x4 x5 F L T (aA (.int (k:Int))) x10 x11)=aA (.lst [.int ((Zw (eW W) k).1:Int),.int ((Zw (eW W) k).2:Int)]):=by show(((Zf Zn (Zf Zn (Za 3) (Za 9)) (eC (.int 0)) (Ys W b D x4 x5 F L T (aA (.int (k:Int))) x10 x11)).bind λx=>((Zf Zn (Zf Zn (Za 3) (Za 9)) (eC (.int 1)) (Ys W b D x4 x5 F L T (aA (.int (k:Int))) x10 x11)).bind λy=>aA [y]).map (x::·)).map PV.lst)=_;rw[e0,e1];rfl
 have e4:Zd UA [Zf (YC aC) (Zf Zn (Zf Zn (Za 3) (Za 9)) (eC (.int 0))) (Za 6)] (Ys W b D x4 x5 F L T (aA (.int (k:Int))) x10 x11)=aA (.int (if(Zw (eW W) k).1∈F then 1 else 0)):=by
  refine RP e2 ?_;by_cases q:(Zw (eW W) k).1∈F
  ·simp[q]
  ·simp[q]
 have ei:eP (Zf Zn (ZN [Zf Zn (Zf Zn (Za 3) (Za 9)) (eC (.int 0)),Zf Zn (Zf Zn (Za 3) (Za 9)) (eC (.int 1))]) (Zd UA [Zf (YC aC) (Zf Zn (Zf Zn (Za 3) (Za 9)) (eC (.int 0))) (Za 6)])) (Ys W b D x4 x5 F L T (aA (.int (k:Int))) x10 x11)=aA (.int (ZQ (eW W) F k:Int)):=by
  refine vP ?_;rw[ZF,e3,e4];simp only[aE];unfold ZQ;by_cases q:(Zw (eW W) k).1∈F
  ·rw[pC q,pC q];rfl
  ·rw[pE q,pE q];rfl
 unfold Zl;rw[ei];rfl
theorem v5(hm:(eW W).length<=441):Zl 9 (Zd X7 [Za 3,Za 7,Za 6]) (Ys W b D x4 x5 F L T x9 x10 x11)=aA (.nx (Ys W b D x4 x5 F L T (aA (XU (Xv (eW W) L F))) x10 x11)):=by have:Zd X7 [Za 3,Za 7,Za 6] (Ys W b D x4 x5 F L T x9 x10 x11)=aA (XU (Xv (eW W) L F)):=FY hm;unfold Zl;rw[this];rfl
end
section
variable {W:List (List Int)} {b:Nat} {D:List Int} {x4 x5:Option PV} {F L T:List Nat} {x9 x10 x11:Option PV} {k h c:Nat}
theorem v3(hL:∀j∈L,j<(eW W).length)(hl:L.length<=1000):Zl 11 (eP (Zd Zx [ZA 1 [10,3] (YW (Za 7)) (.one 0) (xB (Zf (YC aC) (Za 1) (Zf Zn (Za 2) (Za 0)))) (Za 0)])) (Ys W b D x4 x5 F L T (aA (.int (k:Int))) (aA (.int (h:Int))) x11)=aA (.nx (Ys W b D x4 x5 F L T (aA (.int (k:Int))) (aA (.int (h:Int))) (aA (.int (Z4 (eW W) L h:Int))))):=by
 have hc:ZA 1 [10,3] (YW (Za 7)) (.one 0) (xB (Zf (YC aC) (Za 1) (Zf Zn (Za 2) (Za 0)))) (Za 0) (Ys W b D x4 x5 F L T (aA (.int (k:Int))) (aA (.int (h:Int))) x11)=aA (.lst (iL (nL (L.filter (PH (eW W) h))))):=by
  rw[V7 L (λ(i:Nat)=>.int (i:Int)) (λ(i:Nat)=>.int (i:Int)) (PH (eW W) h) (by simp[nL,Ys]) (by omega) λy hy=>⟨[aA (.int (y:Int)),aA (.int (h:Int)),aA (XW W)],by simp[VL.compEnv,Ys],?_,λ_=>by simp⟩]
  ·unfold nL iL;rw[bQ];rfl
  ·have ta:=KD (hL y hy)
   have gi:YC aC (.int (h:Int)) (pP [((Zw (eW W) y).1:Int),((Zw (eW W) y).2:Int)])=aA (.bl (PH (eW W) h y)):=by
    rw[FN];unfold PH;by_cases z1:h=(Zw (eW W) y).1
    ·simp[z1]
    ·by_cases z2:h=(Zw (eW W) y).2
     ·simp[z2]
     ·have y1:¬(h:Int)=((Zw (eW W) y).1:Int):=by omega
      have y2:¬(h:Int)=((Zw (eW W) y).2:Int):=by omega
      simp[z1,z2,y1,y2]
   have e1:Zf (YC aC) (Za 1) (Zf Zn (Za 2) (Za 0)) [aA (.int (y:Int)),aA (.int (h:Int)),aA (XW W)]=aA (.bl (PH (eW W) h y)):=by show((Zn (XW W) (.int (y:Int))).bind λz=>YC aC (.int (h:Int)) z)=_;rw[ta];exact gi
   unfold xB;rw[e1];try rfl
 have e2:eP (Zd Zx [ZA 1 [10,3] (YW (Za 7)) (.one 0) (xB (Zf (YC aC) (Za 1) (Zf Zn (Za 2) (Za 0)))) (Za 0)]) (Ys W b D x4 x5 F L T (aA (.int (k:Int))) (aA (.int (h:Int))) x11)=aA (.int (Z4 (eW W) L h:Int)):=by refine vP (RP hc ?_);simp[nL,Z4]
 unfold Zl;rw[e2];rfl
theorem v4(hh:h<D.length)(hF:F.length<=1000)(hT:T.length<=1000):Wb (xB (Zf S4 (Zf Zn (Za 2) (Za 10)) (Za 11))) (Zk (Zy 6 (eP (Za 10))) (Zy 8 (eP (Za 9)))) ZI (Ys W b D x4 x5 F L T (aA (.int (k:Int))) (aA (.int (h:Int))) (aA (.int (c:Int)))) =
  aA (.nx (if PJ (ZL D) k h c=aD then Ys W b D x4 x5 (F++[h]) L (T++[k]) (aA (.int (k:Int))) (aA (.int (h:Int))) (aA (.int (c:Int))) else Ys W b D x4 x5 F L T (aA (.int (k:Int))) (aA (.int (h:Int))) (aA (.int (c:Int))))):=by
 have a:Zf Zn (Za 2) (Za 10) (Ys W b D x4 x5 F L T (aA (.int (k:Int))) (aA (.int (h:Int))) (aA (.int (c:Int))))=aA (.int (ZL D h)):=by show Ts (iL D) (h:Int)=_;refine WG ?_;rw[aU,aG hh];unfold ZL;rw[aL,aG hh];rfl
 have t:xB (Zf S4 (Zf Zn (Za 2) (Za 10)) (Za 11)) (Ys W b D x4 x5 F L T (aA (.int (k:Int))) (aA (.int (h:Int))) (aA (.int (c:Int))))=aA (PJ (ZL D) k h c):=by rw[Yj,ZF,a];rfl
 rw[Z8,t];simp only[aE]
 cases PJ (ZL D) k h c with
 | false=>rfl
 | true=>
  simp only[if_true];have e1:Zy 6 (eP (Za 10)) (Ys W b D x4 x5 F L T (aA (.int (k:Int))) (aA (.int (h:Int))) (aA (.int (c:Int))))=aA (.nx (Ys W b D x4 x5 (F++[h]) L T (aA (.int (k:Int))) (aA (.int (h:Int))) (aA (.int (c:Int))))):=by rw[YX (m:=iL (nL F)) (l:=.int (h:Int)) rfl rfl (by simp[nL];omega)];simp[nL,Ys]
  have e2:Zy 8 (eP (Za 9)) (Ys W b D x4 x5 (F++[h]) L T (aA (.int (k:Int))) (aA (.int (h:Int))) (aA (.int (c:Int))))=aA (.nx (Ys W b D x4 x5 (F++[h]) L (T++[k]) (aA (.int (k:Int))) (aA (.int (h:Int))) (aA (.int (c:Int))))):=by rw[YX (m:=iL (nL T)) (l:=.int (k:Int)) rfl rfl (by simp[nL];omega)];simp[nL,Ys]
  rw[ZH e1,e2]
end
theorem A0{W:List (List Int)}(ok:ZV W){b:Nat}(hb:b<W.length){D:List Int}(hd:D.length=W.length){x4 x5:Option PV}:∃x9 x10 x11,Vu (xB (Tq aD (Za 9))) (Zk (Zy 7 (eP (Za 9)))
  (Zk (Zl 10 (eP (Zf Zn (ZN [Zf Zn (Zf Zn (Za 3) (Za 9)) (eC (.int 0)),Zf Zn (Zf Zn (Za 3) (Za 9)) (eC (.int 1))]) (Zd UA [Zf (YC aC) (Zf Zn (Zf Zn (Za 3) (Za 9)) (eC (.int 0))) (Za 6)]))))
  (Zk (Zl 11 (eP (Zd Zx [ZA 1 [10,3] (YW (Za 7)) (.one 0) (xB (Zf (YC aC) (Za 1) (Zf Zn (Za 2) (Za 0)))) (Za 0)])))
  (Zk (Wb (xB (Zf S4 (Zf Zn (Za 2) (Za 10)) (Za 11))) (Zk (Zy 6 (eP (Za 10)))
  (Zy 8 (eP (Za 9)))) ZI)
  (Zl 9 (Zd X7 [Za 3,Za 7,Za 6])))))) (Ys W b D x4 x5 [b] [] [] (aA (XU (Xv (eW W) [] [b]))) aB aB)=aA (.nx (Ys W b D x4 x5 (Yl W D b).F (Yl W D b).L ((Yl W D b).B.map (·.1)) x9 x10 x11)):=by
 have hf:=ok.few;have tv:=Uh ok;have hm:(eW W).length<=441:=by rw[T5];exact tv.2
 obtain⟨s',k',q1,⟨s,x8,x9,rfl,wi,wl,wf⟩,q3⟩:=FK (c:=xB (Tq aD (Za 9))) (fb:=Zk (Zy 7 (eP (Za 9)))
  (Zk (Zl 10 (eP (Zf Zn (ZN [Zf Zn (Zf Zn (Za 3) (Za 9)) (eC (.int 0)),Zf Zn (Zf Zn (Za 3) (Za 9)) (eC (.int 1))]) (Zd UA [Zf (YC aC) (Zf Zn (Zf Zn (Za 3) (Za 9)) (eC (.int 0))) (Za 6)]))))
  (Zk (Zl 11 (eP (Zd Zx [ZA 1 [10,3] (YW (Za 7)) (.one 0) (xB (Zf (YC aC) (Za 1) (Zf Zn (Za 2) (Za 0)))) (Za 0)])))
  (Zk (Wb (xB (Zf S4 (Zf Zn (Za 2) (Za 10)) (Za 11))) (Zk (Zy 6 (eP (Za 10)))
  (Zy 8 (eP (Za 9)))) ZI)
  (Zl 9 (Zd X7 [Za 3,Za 7,Za 6]))))))
  (λk st=>∃s x8 x9,st=Ys W b D x4 x5 s.F s.L (s.B.map (·.1)) (aA (XU (Xv (eW W) s.L s.F))) x8 x9/\WInv (eW W) W.length b s/\(eW W).length<=k+s.L.length/\Yb (eW W) (PJ (ZL D)) k s=Yl W D b) (by
   rintro k st ⟨s,x8,x9,rfl,wi,wl,wf⟩
   cases e:Xv (eW W) s.L s.F with
   | none=>exact .inl (by simp[RU,XU,Ys])
   | some j=>
    cases k with
    | zero=>
     have:=SK (φ:=PJ (ZL D)) WE wi (m:=0) (by omega);unfold Yb at this;rw[e] at this;cases this
    | succ k=>
     have wi2:=wi.step (φ:=PJ (ZL D)) WE e;obtain⟨j1,j2,_⟩:=XM e;obtain⟨n1,n2,o,ho,n3⟩:=Q6 e;have eE:Zw (eW W) j∈eW W:=by unfold Zw;rw[aL,aG j1];exact cA j1
     have hlt:ZQ (eW W) s.F j<W.length:=by
      have:=WE _ eE;rcases n3 with z | z<;>rw[z] at this
      ·exact this.2
      ·exact this.1
     have lL:=TB wi.ndL wi.ltL;have lF:=TB wi.ndF wi.ltF;have lB:s.F.length=s.B.length+1:=by rw[wi.hB];simp
     have ltL:∀i∈s.L++[j],i<(eW W).length:=λi hi=>by
      rcases aq.mp hi with z | z
      ·exact wi.ltL i z
      ·rw[aQ.mp z];exact j1
     have e1:=v1 (W:=W) (b:=b) (D:=D) (x4:=x4) (x5:=x5) (F:=s.F) (L:=s.L) (T:=s.B.map (·.1)) (x10:=x8) (x11:=x9) (k:=j) (by omega);have e2:=v2 (W:=W) (b:=b) (D:=D) (x4:=x4) (x5:=x5) (F:=s.F) (L:=s.L++[j]) (T:=s.B.map (·.1)) (x10:=x8) (x11:=x9) j1;have e3:=v3 (W:=W) (b:=b) (D:=D) (x4:=x4) (x5:=x5) (F:=s.F) (L:=s.L++[j]) (T:=s.B.map (·.1)) (x11:=x9) (k:=j) (h:=ZQ (eW W) s.F j) ltL (by rw[aY,cD];omega);have e4:=v4 (W:=W) (b:=b) (D:=D) (x4:=x4) (x5:=x5) (F:=s.F) (L:=s.L++[j]) (T:=s.B.map (·.1)) (k:=j) (h:=ZQ (eW W) s.F j) (c:=Z4 (eW W) (s.L++[j]) (ZQ (eW W) s.F j)) (by omega) (by omega) (by rw[aH];omega)
     have st:(if PJ (ZL D) j (ZQ (eW W) s.F j) (Z4 (eW W) (s.L++[j]) (ZQ (eW W) s.F j))=aD then Ys W b D x4 x5 (s.F++[ZQ (eW W) s.F j]) (s.L++[j]) (s.B.map (·.1)++[j]) (aA (.int (j:Int))) (aA (.int (ZQ (eW W) s.F j:Int))) (aA (.int (Z4 (eW W) (s.L++[j]) (ZQ (eW W) s.F j):Int))) else Ys W b D x4 x5 s.F (s.L++[j]) (s.B.map (·.1)) (aA (.int (j:Int))) (aA (.int (ZQ (eW W) s.F j:Int))) (aA (.int (Z4 (eW W) (s.L++[j]) (ZQ (eW W) s.F j):Int))))=Ys W b D x4 x5 (Z0 (eW W) (PJ (ZL D)) s j).F (Z0 (eW W) (PJ (ZL D)) s j).L ((Z0 (eW W) (PJ (ZL D)) s j).B.map (·.1)) (aA (.int (j:Int))) (aA (.int (ZQ (eW W) s.F j:Int))) (aA (.int (Z4 (eW W) (s.L++[j]) (ZQ (eW W) s.F j):Int))):=by
      unfold Z0;split
      ·simp only[bV,aZ,da]
      ·rfl
     rw[st] at e4;have e5:=v5 (W:=W) (b:=b) (D:=D) (x4:=x4) (x5:=x5) (F:=(Z0 (eW W) (PJ (ZL D)) s j).F) (L:=(Z0 (eW W) (PJ (ZL D)) s j).L) (T:=(Z0 (eW W) (PJ (ZL D)) s j).B.map (·.1)) (x9:=aA (.int (j:Int))) (x10:=aA (.int (ZQ (eW W) s.F j:Int))) (x11:=aA (.int (Z4 (eW W) (s.L++[j]) (ZQ (eW W) s.F j):Int))) hm;refine .inr ⟨by simp[RU,XU,Ys],_,k,?_,by omega,Z0 (eW W) (PJ (ZL D)) s j,aA (.int (ZQ (eW W) s.F j:Int)),aA (.int (Z4 (eW W) (s.L++[j]) (ZQ (eW W) s.F j):Int)),rfl,wi2,?_,?_⟩
     ·exact(ZH e1).trans ((ZH e2).trans ((ZH e3).trans ((ZH e4).trans e5)))
     ·rw[Q7,aY,cD];omega
     ·rw[<-wf]
      conv=>rhs;unfold Yb
      rw[e]) (k:=(eW W).length) (s:=Ys W b D x4 x5 [b] [] [] (aA (XU (Xv (eW W) [] [b]))) aB aB) ⟨R8 b,aB,aB,rfl,WInv.start hb,by simp,rfl⟩
 have en:Xv (eW W) s.L s.F=aB:=by
  cases e:Xv (eW W) s.L s.F with
  | none=>rfl
  | some h=>rw[e] at q3;simp[RU,XU,Ys] at q3
 have fin:s=Yl W D b:=by
  rw[<-wf]
  cases k' with
  | zero=>rfl
  | succ n=>unfold Yb;rw[en]
 subst fin;exact⟨_,_,_,q1⟩
abbrev Pl(W:List (List Int))(b:Nat)(D:List Int)(T:List Z7)(x4 x5:Option PV):ZJ:=[aA (wP W),aA (.int (b:Int)),aA (pP D),aA (.lst (T.map Nv)),x4,x5,aB,aB,aB,aB,aB,aB]
theorem MZ(T:List Z7):ZC (T.map Nv)=aD:=S9 λ_ _=>rfl
theorem A1{W:List (List Int)}(ok:ZV W){b:Nat}{D:List Int}{a c:Nat}(ha:a<W.length)(hc:c<W.length){T:List Z7}(hT:T.length<=1000) :
  Zl 3 (Zf Vm (Za 3) (Zf W9 (ZN [Yg [Za 4,Za 5]]) (Zf Zn (Zf Zn (Za 0) (Za 4)) (Za 5)))) (Pl W b D T (aA (.int (a:Int))) (aA (.int (c:Int))))=aA (.nx (Pl W b D (T++PL W a c) (aA (.int (a:Int))) (aA (.int (c:Int))))):=by
 have hr:=ok.sq a ha;have b1:=ok.lo a c ha hc;have b2:=ok.hi a c ha hc;have a1:Zf Zn (Za 0) (Za 4) (Pl W b D T (aA (.int (a:Int))) (aA (.int (c:Int))))=aA (pP (ZK W a)):=Sn ha;have a2:Zf Zn (Zf Zn (Za 0) (Za 4)) (Za 5) (Pl W b D T (aA (.int (a:Int))) (aA (.int (c:Int))))=aA (.int (XQ W a c)):=by rw[ZF,a1];exact Vv (l:=ZK W a) (k:=c) (by omega)
 have a3:Zf W9 (ZN [Yg [Za 4,Za 5]]) (Zf Zn (Zf Zn (Za 0) (Za 4)) (Za 5)) (Pl W b D T (aA (.int (a:Int))) (aA (.int (c:Int))))=aA (.lst ((PL W a c).map Nv)):=by have a4:ZN [Yg [Za 4,Za 5]] (Pl W b D T (aA (.int (a:Int))) (aA (.int (c:Int))))=aA (.lst [Nv (a,c)]):=rfl;rw[ZF,a4,a2];simp only[aE];unfold W9;simp only[];rw[pC ⟨rfl,by omega,by omega,by simp;omega⟩];unfold PL;rw[List.flatten_replicate_singleton,jh]
 have hl:=Nw ok ha hc;have a5:Zf Vm (Za 3) (Zf W9 (ZN [Yg [Za 4,Za 5]]) (Zf Zn (Zf Zn (Za 0) (Za 4)) (Za 5))) (Pl W b D T (aA (.int (a:Int))) (aA (.int (c:Int))))=aA (.lst ((T++PL W a c).map Nv)):=by rw[ZF,a3];show(if _ then _ else _)=_;rw[pC ⟨by rw[aH,aH];omega,MZ _,MZ _⟩,bV]
 rw[ZD,a5];rfl
theorem FZ{W:List (List Int)}(ok:ZV W){b:Nat}{D:List Int}{a:Nat}(ha:a<W.length)(acc:List Z7)(hacc:acc.length<=900)(b0:Option PV) :
  ∃b',Y8 (.one 5) (Zl 3 (Zf Vm (Za 3) (Zf W9 (ZN [Yg [Za 4,Za 5]]) (Zf Zn (Zf Zn (Za 0) (Za 4)) (Za 5))))) (XB ((a:Int)+1) (W.length-(a+1))) (Pl W b D acc (aA (.int (a:Int))) b0)
   = aA (.nx (Pl W b D (acc++eA W a) (aA (.int (a:Int))) b'))/\(eA W a).length<=63:=by
 have hf:=ok.few
 obtain⟨s',h1,b',h2,h3⟩:=ZP (T:=.one 5) (fb:=Zl 3 (Zf Vm (Za 3) (Zf W9 (ZN [Yg [Za 4,Za 5]]) (Zf Zn (Zf Zn (Za 0) (Za 4)) (Za 5))))) (ls:=XB ((a:Int)+1) (W.length-(a+1))) (s:=Pl W b D acc (aA (.int (a:Int))) b0)
  (λj st=>∃b',st=Pl W b D (acc++(aS j).flatMap λj=>PL W a (a+1+j)) (aA (.int (a:Int))) b'/\((aS j).flatMap λj=>PL W a (a+1+j)).length<=9*j)
  ⟨b0,by simp,by simp⟩ (λj l st hl hJ=>by
   obtain⟨hj,rfl⟩:=Va hl;obtain⟨b',rfl,hlen⟩:=hJ;have hb:a+1+j<W.length:=by omega
   have e1:(a:Int)+1+(j:Int)=((a+1+j:Nat):Int):=by omega
   rw[e1];have hl2:=Nw ok ha hb;have hc:=A1 ok (b:=b) (D:=D) ha hb (T:=acc++(aS j).flatMap λj=>PL W a (a+1+j)) (by rw[aY];omega);refine⟨_,_,rfl,hc,aA (.int ((a+1+j:Nat):Int)),?_,?_⟩
   ·rw[Yv,fF]
   ·rw[Yv,aY];omega)
 rw[VF] at h2 h3;refine⟨b',?_,?_⟩
 ·rw[h1,h2];rfl
 ·have:eA W a=(aS (W.length-(a+1))).flatMap λj=>PL W a (a+1+j):=rfl;rw[this];omega
theorem DH{W:List (List Int)}(ok:ZV W){b:Nat}{D:List Int}:∃y z,Z3 [6,7,8] (ZG [Zd Zx [Za 0]]) (.one 4) (Z3 [6,7,8] (Yi [Zf ZO (Za 4) (eC (.int 1)),Zd Zx [Za 0]]) (.one 5) (Zl 3 (Zf Vm (Za 3) (Zf W9 (ZN [Yg [Za 4,Za 5]]) (Zf Zn (Zf Zn (Za 0) (Za 4)) (Za 5)))))) (Pl W b D [] aB aB)=aA (.nx (Pl W b D (eW W) y z)):=by
 have hf:=ok.few;have lenW:∀T x y,Zd Zx [Za 0] (Pl W b D T x y)=aA (.int (W.length:Int)):=λT x y=>by show aA (PV.int ((W.map pP).length:Int))=_;rw[aH]
 obtain⟨s',h1,y,z,h2,h3⟩:=ZP (T:=.one 4) (fb:=Z3 [6,7,8] (Yi [Zf ZO (Za 4) (eC (.int 1)),Zd Zx [Za 0]]) (.one 5) (Zl 3 (Zf Vm (Za 3) (Zf W9 (ZN [Yg [Za 4,Za 5]]) (Zf Zn (Zf Zn (Za 0) (Za 4)) (Za 5)))))) (ls:=Wd W.length) (s:=Pl W b D [] aB aB)
  (λi st=>∃y z,st=Pl W b D ((aS i).flatMap (eA W)) y z/\((aS i).flatMap (eA W)).length<=63*i)
  ⟨aB,aB,by simp,by simp⟩ (λi l st hl hJ=>by
   obtain⟨y,z,rfl,hlen⟩:=hJ;obtain⟨hi,rfl⟩:=X2 hl;obtain⟨b',e1,e2⟩:=FZ ok (b:=b) (D:=D) hi ((aS i).flatMap (eA W)) (by omega) z;refine⟨_,_,rfl,?_,aA (.int (i:Int)),b',rfl,?_⟩
   ·have hr:Yi [Zf ZO (Za 4) (eC (.int 1)),Zd Zx [Za 0]] (Z2 [6,7,8] (Pl W b D ((aS i).flatMap (eA W)) (aA (.int (i:Int))) z))=aA (XB ((i:Int)+1) (W.length-(i+1))):=by show Yi [Zf ZO (Za 4) (eC (.int 1)),Zd Zx [Za 0]] (Pl W b D ((aS i).flatMap (eA W)) (aA (.int (i:Int))) z)=_;have p1:Zf ZO (Za 4) (eC (.int 1)) (Pl W b D ((aS i).flatMap (eA W)) (aA (.int (i:Int))) z)=aA (.int ((i:Int)+1)):=vI (op:=(· + ·)) (a:=(i:Int)) rfl rfl;rw[We p1 (lenW _ _ _) ⟨by omega,by omega⟩ ⟨by omega,by omega⟩];congr 2;omega
    show Z3 _ _ _ _ (Pl W b D ((aS i).flatMap (eA W)) (aA (.int (i:Int))) z)=_;rw[Yq,hr];simp only[aE];rw[e1,Yv]
   ·rw[Yv,aY];omega)
 rw[X3] at h2 h3;refine⟨y,z,?_⟩;show(ZG [Zd Zx [Za 0]] (Pl W b D [] aB aB)).bind _=_;rw[Yp (n:=W.length) (lenW _ aB aB) (by omega),aE,h1,h2,R9]
theorem PN{W:List (List Int)}(ok:ZV W){b:Nat}(hb:b<W.length){D:List Int}(hd:D.length=W.length):Yr [wP W,.int (b:Int),pP D]=aA (pP (nL (Xn W D b))):=by
 have hf:=ok.few;have hm:(eW W).length<=441:=(HC ok).2;obtain⟨y,z,e2⟩:=DH ok (b:=b) (D:=D);obtain⟨x9,x10,x11,e7⟩:=A0 ok hb hd (x4:=y) (x5:=z);have wi:WInv (eW W) W.length b (Yl W D b):=WInv.walk WE (WInv.start hb);have lF:=TB wi.ndF wi.ltF;have lB:(Yl W D b).F.length=(Yl W D b).B.length+1:=by rw[wi.hB];simp
 have e1:Zl 3 (ZN []) [aA (wP W),aA (.int (b:Int)),aA (pP D),aB,aB,aB,aB,aB,aB,aB,aB,aB]=aA (.nx (Pl W b D [] aB aB)):=rfl;have e3:Zl 6 (ZN [eP (Za 1)]) (Pl W b D (eW W) y z)=aA (.nx [aA (wP W),aA (.int (b:Int)),aA (pP D),aA (XW W),y,z,aA (.lst (iL (nL [b]))),aB,aB,aB,aB,aB]):=rfl;have e4:Zl 7 (ZN []) [aA (wP W),aA (.int (b:Int)),aA (pP D),aA (XW W),y,z,aA (.lst (iL (nL [b]))),aB,aB,aB,aB,aB]=aA (.nx [aA (wP W),aA (.int (b:Int)),aA (pP D),aA (XW W),y,z,aA (.lst (iL (nL [b]))),aA (.lst (iL (nL []))),aB,aB,aB,aB]):=rfl;have e5:Zl 8 (ZN []) [aA (wP W),aA (.int (b:Int)),aA (pP D),aA (XW W),y,z,aA (.lst (iL (nL [b]))),aA (.lst (iL (nL []))),aB,aB,aB,aB]=aA (.nx (Ys W b D y z [b] [] [] aB aB aB)):=rfl;have e6:=v5 (W:=W) (b:=b) (D:=D) (x4:=y) (x5:=z) (F:=[b]) (L:=[]) (T:=[]) (x9:=aB) (x10:=aB) (x11:=aB) hm;have hs2:X5 [.lst (iL (nL ((Yl W D b).B.map (·.1))))]=aA (.lst (iL (sortI (nL ((Yl W D b).B.map (·.1)))))):=Pe (by rw[aH];omega);have e8:eP (Zd Y7 [Zd X5 [Za 8]]) (Ys W b D y z (Yl W D b).F (Yl W D b).L ((Yl W D b).B.map (·.1)) x9 x10 x11)=aA (pP (nL (Xn W D b))):=by unfold Xn;rw[Nx];have e2:Zd Y7 [Zd X5 [Za 8]] (Ys W b D y z (Yl W D b).F (Yl W D b).L ((Yl W D b).B.map (·.1)) x9 x10 x11)=aA (pP (sortI (nL ((Yl W D b).B.map (·.1))))):=RP (RP rfl hs2) rfl;unfold eP;rw[e2,aE,pC];show ZC (iL _)=aD;exact Yd _
 show Xi 12 X8 _=_;unfold X8;show(Zk _ _ [aA (wP W),aA (.int (b:Int)),aA (pP D),aB,aB,aB,aB,aB,aB,aB,aB,aB]).bind Xa=_;rw[ZH e1,ZH e2,ZH e3,ZH e4,ZH e5,ZH e6,ZH e7,SM e8];rfl
def Pm(W:List (List Int))(D:List Int)(L:List Nat)(h:Nat):List Nat:=if h∉L/\ZL D h<ZT W h L then L++[h] else L
structure Lit(W:List (List Int))(b:Nat)(F L:List Nat):Prop where
 nd:L.Nodup
 sub:∀x∈L,x∈F
 hb:b∈L
theorem Lit.step{W:List (List Int)}(ok:ZV W){D:List Int}{b h:Nat}{F L:List Nat}(B:Burn W D b F)(en:Xe W D F=aB)(i:Lit W b F L)(hh:h<W.length):Lit W b F (Pm W D L h):=by
 unfold Pm;split
 ·rename_i q
  have hF:h∈F:=by
   by_cases z:h∈F
   ·exact z
   ·have h1:=Kv en hh z;have h2:=SN ok hh i.nd i.sub B.lt;omega
  refine⟨Wl i.nd q.1,λx hx=>?_,av _ i.hb⟩;rcases aq.mp hx with z | z
  ·exact i.sub x z
  ·rw[aQ.mp z];exact hF
 ·exact i
theorem M0{W:List (List Int)}{D:List Int}{L:List Nat}{h x:Nat}(hx:x∈L):x∈Pm W D L h:=by
 unfold Pm;split
 ·exact av _ hx
 ·exact hx
theorem DI{W:List (List Int)}(ok:ZV W){D:List Int}{b h:Nat}{F L G:List Nat}(B:Burn W D b F)(i:Lit W b F L)(hh:h<W.length)(nd:G.Nodup)(sub:∀x∈G,x∈L)(lt:ZL D h<ZT W h G):h∈Pm W D L h:=by
 unfold Pm;have h2:=SN ok hh nd sub λx hx=>B.lt x (i.sub x hx);by_cases z:h∈L
 ·rw[pE (λq=>q.1 z)];exact z
 ·rw[pC ⟨z,by omega⟩];simp
theorem Lit.len{W:List (List Int)}{D:List Int}{b:Nat}{F L:List Nat}(B:Burn W D b F)(i:Lit W b F L):L.length<=W.length:=TB i.nd λx hx=>B.lt x (i.sub x hx)
abbrev Vw(W:List (List Int))(D:List Int)(b:Nat)(L:List Nat)(x4 x5 x6:Option PV):ZJ:=[aA (wP W),aA (pP D),aA (.int (b:Int)),aA (.lst (iL (nL L))),x4,x5,x6]
def KG:XS:=Zk (Zl 6 (eP (Zd V3 [ZA 1 [0,5] (YW (Za 3)) (.one 0) ZZ (Zf Zn (Zf Zn (Za 1) (Za 2)) (Za 0))])))
  (Wb (Wr (xB (Zf (YC aD) (Za 5) (Za 3))) (xB (Zf S4 (Zf Zn (Za 1) (Za 5)) (Za 6)))) (Zy 3 (eP (Za 5))) ZI)
theorem DJ{W:List (List Int)}(ok:ZV W){D:List Int}(hd:D.length=W.length){b h:Nat}{L:List Nat}(hh:h<W.length)(lt:∀x∈L,x<W.length)(hl:L.length<=7){x4 x6:Option PV}:∃y6,KG (Vw W D b L x4 (aA (.int (h:Int))) x6)=aA (.nx (Vw W D b (Pm W D L h) x4 (aA (.int (h:Int))) y6)):=by
 refine⟨aA (.int (ZT W h L)),?_⟩;have e1:Zl 6 (eP (Zd V3 [ZA 1 [0,5] (YW (Za 3)) (.one 0) ZZ (Zf Zn (Zf Zn (Za 1) (Za 2)) (Za 0))])) (Vw W D b L x4 (aA (.int (h:Int))) x6)=aA (.nx (Vw W D b L x4 (aA (.int (h:Int))) (aA (.int (ZT W h L))))):=by rw[ZD,vP (Pb (i:=0) (j:=5) (k:=3) ok hh lt (by omega) rfl rfl rfl)];rfl
 have a:Zf Zn (Za 1) (Za 5) (Vw W D b L x4 (aA (.int (h:Int))) (aA (.int (ZT W h L))))=aA (.int (ZL D h)):=Vv (by omega);have t1:xB (Zf (YC aD) (Za 5) (Za 3)) (Vw W D b L x4 (aA (.int (h:Int))) (aA (.int (ZT W h L))))=aA (!decide (h∈L)):=by have:Zf (YC aD) (Za 5) (Za 3) (Vw W D b L x4 (aA (.int (h:Int))) (aA (.int (ZT W h L))))=aA (.bl (!decide (h∈L))):=UX h L;rw[Yj,this];rfl
 have t2:xB (Zf S4 (Zf Zn (Za 1) (Za 5)) (Za 6)) (Vw W D b L x4 (aA (.int (h:Int))) (aA (.int (ZT W h L))))=aA (decide (ZL D h<ZT W h L)):=by rw[Yj,ZF,a];rfl
 unfold KG;rw[ZH e1,Z8,Sl,t1,aE];by_cases z:h∈L
 ·have eL:Pm W D L h=L:=pE λq=>q.1 z;rw[eL,decide_eq_true z];rfl
 ·rw[decide_eq_false z];simp only[iU,if_true];rw[t2,aE];by_cases y:ZL D h<ZT W h L
  ·have eL:Pm W D L h=L++[h]:=pC ⟨z,y⟩;rw[eL,decide_eq_true y];simp only[if_true];rw[YX (m:=iL (nL L)) (l:=.int (h:Int)) rfl rfl (by simp[nL];omega)];simp[nL]
  ·have eL:Pm W D L h=L:=pE λq=>y q.2;rw[eL,decide_eq_false y];rfl
theorem M1{W:List (List Int)}(ok:ZV W){D:List Int}(hd:D.length=W.length){b:Nat}{F:List Nat}(B:Burn W D b F)(en:Xe W D F=aB):X6 [wP W,pP D,.int (b:Int)]=aA (.bl (decide (F.length=W.length))):=by
 have hf:=ok.few;have lenW:∀L x y z,Zd Zx [Za 0] (Vw W D b L x y z)=aA (.int (W.length:Int)):=λL x y z=>by show aA (PV.int ((W.map pP).length:Int))=_;rw[aH]
 have hbF:b∈F:=bN B.hd
 have inner:∀(i:Nat)(L0:List Nat)(x4 x5 x6:Option PV),Lit W b F L0->(∀x∈F.take (i+1),x∈L0)->∃L y5 y6,Y8 (.one 5) KG (Wd W.length) (Vw W D b L0 x4 x5 x6)=aA (.nx (Vw W D b L x4 y5 y6))/\Lit W b F L/\∀x∈F.take (i+2),x∈L:=λi L0 x4 x5 x6 l0 s0=>by
  obtain⟨s',h1,L,y5,y6,h2,lL,kp,nw⟩:=ZP (T:=.one 5) (fb:=KG) (ls:=Wd W.length) (s:=Vw W D b L0 x4 x5 x6)
   (λj st=>∃L y5 y6,st=Vw W D b L x4 y5 y6/\Lit W b F L/\(∀x∈L0,x∈L)/\∀x,F[i+1]?=aA x->x<j->x∈L) ⟨L0,x5,x6,rfl,l0,λ_ h=>h,λx _ hx=>by omega⟩ (by
    rintro j l st hl ⟨L,y5,y6,rfl,lL,kp,nw⟩;obtain⟨hj,rfl⟩:=X2 hl;obtain⟨z6,e⟩:=DJ ok hd (b:=b) (h:=j) (L:=L) (x4:=x4) (x6:=y6) hj (λx hx=>B.lt x (lL.sub x hx)) (by have:=lL.len B;omega);refine⟨_,_,rfl,e,Pm W D L j,aA (.int (j:Int)),z6,rfl,lL.step ok B en hj,λx hx=>M0 (kp x hx),λx hx hlt=>?_⟩;by_cases q:x=j
    ·subst q;have hi:=(aX.mp hx).1;have st:=B.st (i+1) (by omega) hi;rw[hx] at st;exact DI ok B lL hj (B.nd.sublist (gO _ _)) (λy hy=>kp y (s0 y hy)) (T4 st).2.2
    ·exact M0 (nw x hx (by omega)))
  rw[X3] at nw;refine⟨L,y5,y6,by rw[h1,h2],lL,λx hx=>?_⟩;rw[iV] at hx;rcases aq.mp hx with z | z
  ·exact kp x (s0 x z)
  ·have hx:F[i+1]?=aA x:=by
    cases e:F[i+1]? with
    | none=>rw[e] at z;simp at z
    | some y=>rw[e] at z;simp at z;rw[z]
   exact nw x hx (B.lt x (bN hx))
 obtain⟨s',h1,L,y4,y5,y6,h2,lL,tk⟩:=ZP (T:=.one 4) (fb:=Z3 [3] (ZG [Zd Zx [Za 0]]) (.one 5) KG) (ls:=Wd W.length) (s:=Vw W D b [b] aB aB aB)
  (λi st=>∃L y4 y5 y6,st=Vw W D b L y4 y5 y6/\Lit W b F L/\∀x∈F.take (i+1),x∈L) ⟨[b],aB,aB,aB,rfl,⟨by simp,λx hx=>by rw[aQ.mp hx];exact hbF,by simp⟩,λx hx=>by
   have:=B.hd
   cases F with
   | nil=>simp at this
   | cons y r=>simp at this;subst this;simpa using hx⟩ (by
   rintro i l st hl ⟨L,y4,y5,y6,rfl,lL,tk⟩;obtain⟨hi,rfl⟩:=X2 hl;obtain⟨L2,z5,z6,e,l2,t2⟩:=inner i L (aA (.int (i:Int))) y5 y6 lL tk;refine⟨_,_,rfl,?_,L2,aA (.int (i:Int)),z5,z6,rfl,l2,t2⟩;show Z3 _ _ _ _ (Vw W D b L (aA (.int (i:Int))) y5 y6)=_;rw[Yq];show(ZG [Zd Zx [Za 0]] [aA (wP W),aA (pP D),aA (.int (b:Int)),aB,aA (.int (i:Int)),y5,y6]).bind _=_;rw[Yp (n:=W.length) (by show aA (PV.int ((W.map pP).length:Int))=_;rw[aH]) (by omega)];exact e)
 rw[X3] at tk;have lF:=B.len;rw[cG (by omega)] at tk
 have eL:L.length=F.length:=by
  have p1:=Wv (l:=nL L) (m:=nL F) (fL.mpr (lL.nd.imp λz e=>z (RA e))) λy hy=>by obtain⟨a,ha,rfl⟩:=aa.mp hy;exact aa.mpr ⟨a,lL.sub a ha,rfl⟩
  have p2:=Wv (l:=nL F) (m:=nL L) (fL.mpr (B.nd.imp λz e=>z (RA e))) λy hy=>by obtain⟨a,ha,rfl⟩:=aa.mp hy;exact aa.mpr ⟨a,tk a ha,rfl⟩
  unfold nL at p1 p2;rw[aH,aH] at p1 p2;omega
 have e1:Zl 3 (ZN [eP (Za 2)]) [aA (wP W),aA (pP D),aA (.int (b:Int)),aB,aB,aB,aB]=aA (.nx (Vw W D b [b] aB aB aB)):=rfl;have e2:Z3 [3] (ZG [Zd Zx [Za 0]]) (.one 4) (Z3 [3] (ZG [Zd Zx [Za 0]]) (.one 5) KG) (Vw W D b [b] aB aB aB)=aA (.nx (Vw W D b L y4 y5 y6)):=by rw[Yq];show(ZG [Zd Zx [Za 0]] [aA (wP W),aA (pP D),aA (.int (b:Int)),aB,aB,aB,aB]).bind _=_;rw[Yp (n:=W.length) (by show aA (PV.int ((W.map pP).length:Int))=_;rw[aH]) (by omega),aE,h1,h2]
 have e3:eP (Zf (YN aC) (Zd Zx [Za 3]) (Zd Zx [Za 0])) (Vw W D b L y4 y5 y6)=aA (.bl (decide (F.length=W.length))):=by
  have a:Zd Zx [Za 3] (Vw W D b L y4 y5 y6)=aA (.int (F.length:Int)):=by show aA (PV.int ((iL (nL L)).length:Int))=_;unfold nL;rw[aH,aH,eL]
  rw[Wz,ZF,a,lenW];simp only[aE,TV,b9,if_false,GN,if_true];congr 2;exact decide_eq_decide.mpr (by omega)
 show Xi 7 WU _=_;unfold WU;show(Zk _ (Zk (Z3 [3] (ZG [Zd Zx [Za 0]]) (.one 4) (Z3 [3] (ZG [Zd Zx [Za 0]]) (.one 5) KG)) _) [aA (wP W),aA (pP D),aA (.int (b:Int)),aB,aB,aB,aB]).bind Xa=_;rw[ZH e1,ZH e2,SM e3];rfl
theorem JS{f g:XE}{s:ZJ}{l:List Int}{k:Nat}(hf:f s=aA (pP l))(hg:g s=aA (.int (k:Int)))(h:k<l.length):Up Xq f UB (VR g) s=aA (pP (l.take k)):=by rw[Jt,hf];simp only[aE,Ju];unfold VR;rw[hg];simp only[aE];unfold Xq;simp only[];rw[pE,FH];rw[HT.sIx_none,HT.sIx_nat,aH];omega
theorem JT{f g:XE}{s:ZJ}{l:List Int}{k:Nat}(hf:f s=aA (pP l))(hg:g s=aA (.int ((k+1:Nat):Int)))(h:k<l.length):Up Xq f (VR g) UB s=aA (pP (l.drop (k+1))):=by rw[Jt,hf];simp only[aE,Ju];unfold VR;rw[hg];simp only[aE];unfold Xq;simp only[];rw[pE,Bz];rw[HT.sIx_none,HT.sIx_nat,aH];omega
theorem F0{D:List Int}{b:Nat}(hb:b<D.length):(if D.take b++D.drop (b+1)=[] then(0:Int) else Rf (D.take b++D.drop (b+1)))<0↔¬XN D b=[]:=by
 have mem:∀x,x∈D.take b++D.drop (b+1)↔∃h,h<D.length/\h≠b/\ZL D h=x:=λx=>by
  rw[aq,List.mem_take_iff_getElem,List.mem_drop_iff_getElem];have nt:∀h,(hh:h<D.length)->ZL D h=D[h]:=λh hh=>by unfold ZL;rw[aL,aG hh];rfl
  constructor
  ·rintro(⟨i,hi,e⟩ | ⟨i,hi,e⟩)
   ·exact⟨i,by omega,by omega,by rw[nt i (by omega),e]⟩
   ·exact⟨b+1+i,by omega,by omega,by rw[nt _ (by omega),<-e]⟩
  ·rintro⟨h,h1,h2,e⟩;rw[nt h h1] at e;by_cases q:h<b
   ·exact .inl ⟨h,by omega,e⟩
   ·refine .inr ⟨h-(b+1),by omega,?_⟩;rw[<-e];congr 1;omega
 rw[debt_nil];split
 ·rename_i h;refine⟨λz=>by omega,λz=>?_⟩;exfalso;refine z λx hx hne=>?_;have:=(mem (ZL D x)).mpr ⟨x,hx,hne,rfl⟩;rw[h] at this;simp at this
 ·rename_i h;have sp:=Rg h;constructor
  ·intro z y;obtain⟨x,h1,h2,e⟩:=(mem _).mp sp.1;have:=y x h1 h2;omega
  ·intro z;by_cases q:Rf (D.take b++D.drop (b+1))<0
   ·exact q
   ·refine absurd (λx hx hne=>?_) z;have:=sp.2 _ ((mem (ZL D x)).mpr ⟨x,hx,hne,rfl⟩);omega
theorem NA{W:List (List Int)}(ok:ZV W){D:List Int}(hd:D.length=W.length){b:Nat}(hb:b<W.length){F:List Nat}(B:Burn W D b F)(en:Xe W D F=aB):Xk [wP W,pP D,.int (b:Int)]=aA (.bl (decide (XN D b=[])&&decide (F.length=W.length))):=by
 have hf:=ok.few;have a0:Zf ZO (Za 2) (eC (.int 1)) [aA (wP W),aA (pP D),aA (.int (b:Int)),aB]=aA (.int ((b+1:Nat):Int)):=rfl;have a1:Up Xq (Za 1) UB (VR (Za 2)) [aA (wP W),aA (pP D),aA (.int (b:Int)),aB]=aA (pP (D.take b)):=JS rfl rfl (by omega);have a2:Up Xq (Za 1) (VR (Zf ZO (Za 2) (eC (.int 1)))) UB [aA (wP W),aA (pP D),aA (.int (b:Int)),aB]=aA (pP (D.drop (b+1))):=JT rfl a0 (by omega);have a3:eP (Zf WD (Up Xq (Za 1) UB (VR (Za 2))) (Up Xq (Za 1) (VR (Zf ZO (Za 2) (eC (.int 1)))) UB)) [aA (wP W),aA (pP D),aA (.int (b:Int)),aB]=aA (pP (D.take b++D.drop (b+1))):=by rw[Wz,ZF,a1,a2];simp only[aE];unfold WD;simp only[];rw[pC (by rw[aH,aH,bp,bq];omega),<-bV];rw[aE,pC];show ZC (iL _)=aD;exact Yd _
 have e1:Zl 3 (eP (Zf WD (Up Xq (Za 1) UB (VR (Za 2))) (Up Xq (Za 1) (VR (Zf ZO (Za 2) (eC (.int 1)))) UB))) [aA (wP W),aA (pP D),aA (.int (b:Int)),aB]=aA (.nx [aA (wP W),aA (pP D),aA (.int (b:Int)),aA (pP (D.take b++D.drop (b+1)))]):=by rw[ZD,a3];rfl
 have a4:RI JI (Za 3) [aA (wP W),aA (pP D),aA (.int (b:Int)),aA (pP (D.take b++D.drop (b+1)))]=aA (.int (if D.take b++D.drop (b+1)=[] then(0:Int) else Rf (D.take b++D.drop (b+1)))):=by
  show(YD (iL (D.take b++D.drop (b+1)))).bind _=_;rw[YQ];simp only[aE];split<;>rfl
 have lr:=F0 (D:=D) (b:=b) (by omega);have c1:xB (Zf S4 (RI JI (Za 3)) (eC (.int 0))) [aA (wP W),aA (pP D),aA (.int (b:Int)),aA (pP (D.take b++D.drop (b+1)))]=aA (!decide (XN D b=[])):=by rw[Yj,ZF,a4];show aA (decide ((if D.take b++D.drop (b+1)=[] then(0:Int) else Rf (D.take b++D.drop (b+1)))<0))=_;rw[<-decide_not];exact congrArg aA (decide_eq_decide.mpr lr)
 have c2:Zd X6 [Za 0,Za 1,Za 2] [aA (wP W),aA (pP D),aA (.int (b:Int)),aA (pP (D.take b++D.drop (b+1)))]=aA (.bl (decide (F.length=W.length))):=M1 ok hd B en;show Xi 4 Vr _=_;unfold Vr;show(Zk _ _ [aA (wP W),aA (pP D),aA (.int (b:Int)),aB]).bind Xa=_;rw[ZH e1,Yk,Z8,c1,aE];by_cases q:XN D b=[]
 ·rw[decide_eq_true q];simp only[gN,b9,if_false,Ot,aE,kF];rw[SM c2];rfl
 ·rw[decide_eq_false q];rfl
theorem BH(O:List Nat)(k h:Nat):(iL (nL O)).take k++PV.int (h:Int)::(iL (nL O)).drop k=iL (nL (O.take k++h::O.drop k)):=by unfold nL iL;simp[fT,ip]
abbrev HP(ns:List Int)(n b:Nat)(O:List Nat)(x5:Option PV):ZJ:=[aA (.cst (iL ns)),aA (.int 30),aA (.int (n:Int)),aA (.int (b:Int)),aA (.lst (iL (nL O))),x5]
theorem KH{ns:List Int}(hns:ns.length<=63){n b:Nat}(hb:b<n)(hn:n<=7):∃O,Wg [.cst (iL ns),.int 30,.int (n:Int),.int (b:Int)]=aA (.lst (iL (nL O)))/\(∀x∈O,x<n)/\1<=O.length/\O.length<=n+1:=by
 obtain⟨s',h1,O,x5,h2,lt,l1,l2⟩:=ZP (T:=.one 5) (fb:=Wb (xB (Zf (YN aD) (Za 5) (Za 3))) (WQ 4 (Zf ZO (eC (.int 1)) (Zf Z9 (Zd Zr [Za 0,Zf ZO (Za 1) (Za 5)]) (Zd Zx [Za 4]))) (Za 5)) ZI) (ls:=Wd n) (s:=HP ns n b [b] aB)
  (λi st=>∃O x5,st=HP ns n b O x5/\(∀x∈O,x<n)/\1<=O.length/\O.length<=i+1) ⟨[b],aB,rfl,λx hx=>by rw[aQ.mp hx];exact hb,by simp,by simp⟩ (by
   rintro i l st hl ⟨O,x5,rfl,lt,l1,l2⟩;obtain⟨hi,rfl⟩:=X2 hl
   have c:xB (Zf (YN aD) (Za 5) (Za 3)) (HP ns n b O (aA (.int (i:Int))))=aA (!decide (i=b)):=by
    have:Zf (YN aD) (Za 5) (Za 3) (HP ns n b O (aA (.int (i:Int))))=aA (.bl (!decide ((i:Int)=(b:Int)))):=by show YN aD (.int (i:Int)) (.int (b:Int))=_;rw[TV];rfl
    rw[Yj,this];simp only[aE,UK];congr 2;exact decide_eq_decide.mpr (by omega)
   by_cases q:i=b
   ·refine⟨_,_,rfl,?_,O,aA (.int (i:Int)),rfl,lt,l1,by omega⟩;show Wb _ _ _ (HP ns n b O (aA (.int (i:Int))))=_;rw[Z8,c,decide_eq_true q];rfl
   ·have c1:Zd Zr [Za 0,Zf ZO (Za 1) (Za 5)] (HP ns n b O (aA (.int (i:Int))))=aA (.int (ZL ns (30+i))):=by
     show Zr [.cst (iL ns),.int ((30:Int)+(i:Int))]=_;have z:(30:Int)+(i:Int)=((30+i:Nat):Int):=by omega
     rw[z];exact Vt hns (30+i)
    have c2:Zd Zx [Za 4] (HP ns n b O (aA (.int (i:Int))))=aA (.int (O.length:Int)):=by show aA (PV.int ((iL (nL O)).length:Int))=_;unfold nL;rw[aH,aH]
    have m0:=dW (ZL ns (30+i)) (show(O.length:Int)≠0 by omega);have m1:=c0 (ZL ns (30+i)) (show(0:Int)<(O.length:Int) by omega);generalize hk:1+ZL ns (30+i)%(O.length:Int)=k at *;have c3:Zf ZO (eC (.int 1)) (Zf Z9 (Zd Zr [Za 0,Zf ZO (Za 1) (Za 5)]) (Zd Zx [Za 4])) (HP ns n b O (aA (.int (i:Int))))=aA (.int k):=by rw[<-hk];exact vI (op:=(· + ·)) (a:=1) rfl (vC (C:=λ_ j=>0<j) (op:=(· % ·)) c1 c2 (by omega))
    have ins:=QI (i:=4) (m:=iL (nL O)) (l:=.int (i:Int)) c3 (f:=Za 5) rfl rfl (Yd _) rfl (by omega) (by omega) (by unfold nL;rw[aH,aH];omega);rw[BH] at ins;refine⟨_,_,rfl,?_,O.take k.toNat++i::O.drop k.toNat,aA (.int (i:Int)),rfl,λx hx=>?_,?_,?_⟩
    ·show Wb _ _ _ (HP ns n b O (aA (.int (i:Int))))=_;rw[Z8,c,decide_eq_false q];simp only[aE,iU,if_true];exact ins
    ·rcases aq.mp hx with z | z
     ·exact lt x (dA z)
     ·rcases a9.mp z with z | z
      ·rw[z];exact hi
      ·exact lt x (fH z)
    ·rw[aY,bA];omega
    ·rw[aY,bA,bp,bq];omega)
 rw[X3] at l2;refine⟨O,?_,lt,l1,l2⟩;have e1:Zl 4 (ZN [eP (Za 3)]) [aA (.cst (iL ns)),aA (.int 30),aA (.int (n:Int)),aA (.int (b:Int)),aB,aB]=aA (.nx (HP ns n b [b] aB)):=rfl;have e2:Z3 [4] (ZG [Za 2]) (.one 5) (Wb (xB (Zf (YN aD) (Za 5) (Za 3))) (WQ 4 (Zf ZO (eC (.int 1)) (Zf Z9 (Zd Zr [Za 0,Zf ZO (Za 1) (Za 5)]) (Zd Zx [Za 4]))) (Za 5)) ZI) (HP ns n b [b] aB)=aA (.nx (HP ns n b O x5)):=by rw[Yq,Yp (n:=n) (by rfl) (by omega),aE,h1,h2]
 show Xi 6 Tf _=_;unfold Tf;show(Zk _ _ [aA (.cst (iL ns)),aA (.int 30),aA (.int (n:Int)),aA (.int (b:Int)),aB,aB]).bind Xa=_;rw[ZH e1,ZH e2];rfl
def Bd(l:List Int):Prop:=∀x∈l,-(10^29)<=x/\x<=10^29
theorem Bd.set{l:List Int}(h:Bd l){j:Nat}{v:Int}(hv : -(10^29)<=v/\v<=10^29):Bd (l.set j v):=λx hx=>by
 rcases List.mem_or_eq_of_mem_set hx with z | z
 ·exact h x z
 ·rw[z];exact hv
theorem KI{m:Int}:∀{l:List Int},(∀x∈l,0<=x/\x<=m)->0<=l.sum/\l.sum<=m*l.length
 | [],_=>by simp
 | a::r,h=>by
  have h1:=h a (by simp);have ih:=KI (l:=r) λx hx=>h x (by simp[hx]);rw[dF,bA];have:m*((r.length+1:Nat):Int)=m*(r.length:Int)+m:=by rw[Int.natCast_add,Int.mul_add];simp
  omega
abbrev Sa(ns:List Int)(W:List (List Int))(b:Nat)(O:List Nat)(f:List Int)(x5 x6 x7 x8 x9:Option PV):ZJ:=[aA (.cst (iL ns)),aA (wP W),aA (.int (b:Int)),aA (.lst (iL (nL O))),aA (.lst (iL f)),x5,x6,x7,x8,x9]
def F1:XS:=(Zk (Zl 6 (eP (Zf Zn (Za 3) (Za 5))))
  (Zk (Zl 7 (Zd Zr [Za 0,Zf ZO (eC (.int 38)) (Za 6)]))
  (Zk (Zl 8 (eP (Zd V3 [ZA 1 [1,6] (YW (Up O0 (Za 3) UB (VR (Za 5)))) (.one 0) ZZ (Zf Zn (Zf Zn (Za 1) (Za 2)) (Za 0))])))
  (Zk (Xu 4 (Za 6) (Zf Z9 (Zf XJ (Za 7) (eC (.int 4))) (Zd Tw [eC (.int 1),Za 8])))
  (Wb (xB (Zf (YN aC) (Zf Z9 (Za 7) (eC (.int 4))) (eC (.int 1)))) (Zk (Zl 9 (eP (Zd V3 [Zf Zn (Za 1) (Za 6)])))
  (Xu 4 (Za 6) (Zf Zn (ZN [Zf Xo (Za 9) (eC (.int 1)),Za 9,Zf Z9 (Zf XJ (Za 7) (eC (.int 16))) (eC (.int 4)),RI NY (eC (.int 1))]) (Zf Z9 (Zf XJ (Za 7) (eC (.int 4))) (eC (.int 4)))))) ZI)))))
theorem NB{fk f:XE}{s:ZJ}{l:List Int}{j:Nat}{v:Int}(h:f s=aA (.int v))(hk:fk s=aA (.int (j:Int)))(hm:Iq s 4=aA (iL l))(hj:j<l.length):Xu 4 fk f s=aA (.nx (s.set 4 (aA (.lst (iL (l.set j v)))))):=by rw[Ov (m:=iL l) (l:=.int v) (k:=(j:Int)) (j:=j) h hk hm (Yd _) rfl (by rw[aH];exact U7 hj)];unfold iL;rw[km]
theorem DK{ns:List Int}(hns:ns.length<=63){W:List (List Int)}(ok:ZV W){b:Nat}{O:List Nat}{f:List Int}(hf:f.length=W.length)(bd:Bd f)(lt:∀x∈O,x<W.length)(lO:O.length<=8){k:Nat}(hk:k<O.length){x6 x7 x8 x9:Option PV} :
  ∃f' y6 y7 y8 y9,F1 (Sa ns W b O f (aA (.int (k:Int))) x6 x7 x8 x9)=aA (.nx (Sa ns W b O f' (aA (.int (k:Int))) y6 y7 y8 y9))/\f'.length=W.length/\Bd f':=by
 have hW:=ok.few;obtain⟨h,eh⟩:∃h,O[k]?=aA h:=⟨_,aG hk⟩;have hh:h<W.length:=lt h (bN eh);generalize hc:ZL ns (38+h)=c;have e1:Zl 6 (eP (Zf Zn (Za 3) (Za 5))) (Sa ns W b O f (aA (.int (k:Int))) x6 x7 x8 x9)=aA (.nx (Sa ns W b O f (aA (.int (k:Int))) (aA (.int (h:Int))) x7 x8 x9)):=by have:Zf Zn (Za 3) (Za 5) (Sa ns W b O f (aA (.int (k:Int))) x6 x7 x8 x9)=aA (.int (h:Int)):=BB eh;rw[ZD,vP this];rfl
 have e2:Zl 7 (Zd Zr [Za 0,Zf ZO (eC (.int 38)) (Za 6)]) (Sa ns W b O f (aA (.int (k:Int))) (aA (.int (h:Int))) x7 x8 x9)=aA (.nx (Sa ns W b O f (aA (.int (k:Int))) (aA (.int (h:Int))) (aA (.int c)) x8 x9)):=by
  have:Zd Zr [Za 0,Zf ZO (eC (.int 38)) (Za 6)] (Sa ns W b O f (aA (.int (k:Int))) (aA (.int (h:Int))) x7 x8 x9)=aA (.int c):=by
   show Zr [.cst (iL ns),.int ((38:Int)+(h:Int))]=_;have z:(38:Int)+(h:Int)=((38+h:Nat):Int):=by omega
   rw[z,<-hc];exact Vt hns (38+h)
  rw[ZD,this];rfl
 have rl:=ok.sq h hh
 have bT:0<=ZT W h (O.take k)/\ZT W h (O.take k)<=100:=by
  have:=KI (m:=9) (l:=(O.take k).map λo=>XQ W h o) λx hx=>by obtain⟨o,ho,rfl⟩:=aa.mp hx;have ho:=lt o (dA ho);exact⟨ok.lo h o hh ho,ok.hi h o hh ho⟩
  rw[aH,bp] at this;show 0<=((O.take k).map λo=>XQ W h o).sum/\((O.take k).map λo=>XQ W h o).sum<=100;omega
 generalize ht:ZT W h (O.take k)=t at bT
 have e3:Zl 8 (eP (Zd V3 [ZA 1 [1,6] (YW (Up O0 (Za 3) UB (VR (Za 5)))) (.one 0) ZZ (Zf Zn (Zf Zn (Za 1) (Za 2)) (Za 0))])) (Sa ns W b O f (aA (.int (k:Int))) (aA (.int (h:Int))) (aA (.int c)) x8 x9)=aA (.nx (Sa ns W b O f (aA (.int (k:Int))) (aA (.int (h:Int))) (aA (.int c)) (aA (.int t)) x9)):=by
  have hs:Up O0 (Za 3) UB (VR (Za 5)) (Sa ns W b O f (aA (.int (k:Int))) (aA (.int (h:Int))) (aA (.int c)) x8 x9)=aA (.lst (iL (nL (O.take k)))):=by show aA (PV.lst (V5 (iL (nL O)) aB (aA (k:Int))))=_;rw[DC]
  have hcmp:ZA 1 [1,6] (YW (Up O0 (Za 3) UB (VR (Za 5)))) (.one 0) ZZ (Zf Zn (Zf Zn (Za 1) (Za 2)) (Za 0)) (Sa ns W b O f (aA (.int (k:Int))) (aA (.int (h:Int))) (aA (.int c)) x8 x9)=aA (.lst (iL ((O.take k).map λo=>XQ W h o))):=by
   rw[Y2 (O.take k) (λ(o:Nat)=>.int (o:Int)) (λo=>.int (XQ W h o)) (by rw[GU,hs];simp only[aE,AF];unfold nL iL;rw[bQ];rfl) (by rw[bp];omega) (λo ho=>⟨[aA (.int (o:Int)),aA (wP W),aA (.int (h:Int))],rfl,rfl,?_⟩)]
   ·unfold iL;rw[bQ];rfl
   ·have ho:=lt o (dA ho);have a1:Zf Zn (Za 1) (Za 2) [aA (.int (o:Int)),aA (wP W),aA (.int (h:Int))]=aA (pP (ZK W h)):=Sn hh;rw[ZF,a1];exact Vv (l:=ZK W h) (k:=o) (by omega)
  have:Zd V3 [ZA 1 [1,6] (YW (Up O0 (Za 3) UB (VR (Za 5)))) (.one 0) ZZ (Zf Zn (Zf Zn (Za 1) (Za 2)) (Za 0))] (Sa ns W b O f (aA (.int (k:Int))) (aA (.int (h:Int))) (aA (.int c)) x8 x9)=aA (.int t):=by refine RP hcmp ?_;rw[GP,<-ht];rfl
  rw[ZD,vP this];rfl
 have c4:Tz c 4:=⟨by decide,by decide +kernel⟩;have c16:Tz c 16:=⟨by decide,by decide +kernel⟩;let s3:List Int->Option PV->ZJ:=λf x9=>Sa ns W b O f (aA (.int (k:Int))) (aA (.int (h:Int))) (aA (.int c)) (aA (.int t)) x9;have d4:∀f x9,Zf XJ (Za 7) (eC (.int 4)) (s3 f x9)=aA (.int (c.fdiv 4)):=λf x9=>vC (C:=Tz) (op:=oM) rfl rfl c4;have d16:∀f x9,Zf XJ (Za 7) (eC (.int 16)) (s3 f x9)=aA (.int (c.fdiv 16)):=λf x9=>vC (C:=Tz) (op:=oM) rfl rfl c16
 obtain⟨v,bv,e4⟩:∃v:Int,(-(10^29)<=v/\v<=10^29)/\Xu 4 (Za 6) (Zf Z9 (Zf XJ (Za 7) (eC (.int 4))) (Zd Tw [eC (.int 1),Za 8])) (s3 f x9)=aA (.nx (s3 (f.set h v) x9)):=by
  have mx:Zd Tw [eC (.int 1),Za 8] (s3 f x9)=aA (.int (if t>1 then t else 1)):=rfl;have pm:0<(if t>1 then t else 1)/\(if t>1 then t else 1)<=100:=by split<;>omega
  generalize (if t>1 then t else 1)=m at mx pm;have m0:=dW (c.fdiv 4) (show m≠0 by omega);have m1:=c0 (c.fdiv 4) pm.1;refine⟨c.fdiv 4%m,⟨by omega,by omega⟩,?_⟩;exact NB (j:=h) (l:=f) (vC (C:=λ_ j=>0<j) (op:=(· % ·)) (d4 f x9) mx pm.1) rfl rfl (by omega)
 have t1:xB (Zf (YN aC) (Zf Z9 (Za 7) (eC (.int 4))) (eC (.int 1))) (s3 (f.set h v) x9)=aA (decide (c%4=1)):=by have m:Zf Z9 (Za 7) (eC (.int 4)) (s3 (f.set h v) x9)=aA (.int (c%4)):=vC (C:=λ_ j=>0<j) (op:=(· % ·)) rfl rfl (by decide);rw[Yj,ZF,m];show(YN aC (.int (c%4)) (.int 1)).bind Jo=_;rw[TV];rfl
 unfold F1;rw[ZH e1,ZH e2,ZH e3,ZH e4,Z8,t1,aE];by_cases q:c%4=1
 ·rw[decide_eq_true q];simp only[if_true]
  have bS:0<=(ZK W h).sum/\(ZK W h).sum<=100:=by
   have:=KI (m:=9) (l:=ZK W h) λx hx=>by obtain⟨o,ho,rfl⟩:=DB hx;exact⟨ok.lo h o hh (by omega),ok.hi h o hh (by omega)⟩
   omega
  generalize hs:(ZK W h).sum=n at bS;have e5:Zl 9 (eP (Zd V3 [Zf Zn (Za 1) (Za 6)])) (s3 (f.set h v) x9)=aA (.nx (s3 (f.set h v) (aA (.int n)))):=by have a1:Zf Zn (Za 1) (Za 6) (s3 (f.set h v) x9)=aA (pP (ZK W h)):=Sn hh;have:Zd V3 [Zf Zn (Za 1) (Za 6)] (s3 (f.set h v) x9)=aA (.int n):=RP a1 (by rw[Bb,hs]);rw[ZD,vP this];rfl
  have m0:=dW (c.fdiv 16) (show(4:Int)≠0 by decide);have m1:=c0 (c.fdiv 16) (show(0:Int)<4 by decide);have md:Zf Z9 (Zf XJ (Za 7) (eC (.int 4))) (eC (.int 4)) (s3 (f.set h v) (aA (.int n)))=aA (.int (c.fdiv 4%4)):=vC (C:=λ_ j=>0<j) (op:=(· % ·)) (d4 _ _) rfl (by decide);have md2:Zf Z9 (Zf XJ (Za 7) (eC (.int 16))) (eC (.int 4)) (s3 (f.set h v) (aA (.int n)))=aA (.int (c.fdiv 16%4)):=vC (C:=λ_ j=>0<j) (op:=(· % ·)) (d16 _ _) rfl (by decide);have sb:Zf Xo (Za 9) (eC (.int 1)) (s3 (f.set h v) (aA (.int n)))=aA (.int (n-1)):=vI (op:=(· - ·)) rfl rfl;have ls:ZN [Zf Xo (Za 9) (eC (.int 1)),Za 9,Zf Z9 (Zf XJ (Za 7) (eC (.int 16))) (eC (.int 4)),RI NY (eC (.int 1))] (s3 (f.set h v) (aA (.int n)))=aA (.lst (iL [n-1,n,c.fdiv 16%4,-1])):=by rw[N7,YH,YH,YH,YH,sb,md2];rfl
  obtain⟨u,bu,eu⟩:∃u:Int,(-(10^29)<=u/\u<=10^29)/\Ts (iL [n-1,n,c.fdiv 16%4,-1]) (c.fdiv 4%4)=aA (.int u):=by
   have r:c.fdiv 4%4=0\/c.fdiv 4%4=1\/c.fdiv 4%4=2\/c.fdiv 4%4=3:=by omega
   rcases r with r | r | r | r<;>rw[r]
   ·exact⟨n-1,⟨by omega,by omega⟩,rfl⟩
   ·exact⟨n,⟨by omega,by omega⟩,rfl⟩
   ·exact⟨c.fdiv 16%4,⟨by omega,by omega⟩,rfl⟩
   ·exact⟨-1,⟨by decide,by decide⟩,rfl⟩
  have e6:=NB (fk:=Za 6) (f:=Zf Zn (ZN [Zf Xo (Za 9) (eC (.int 1)),Za 9,Zf Z9 (Zf XJ (Za 7) (eC (.int 16))) (eC (.int 4)),RI NY (eC (.int 1))]) (Zf Z9 (Zf XJ (Za 7) (eC (.int 4))) (eC (.int 4)))) (s:=s3 (f.set h v) (aA (.int n))) (l:=f.set h v) (j:=h) (v:=u) (by rw[ZF,ls,md];exact eu) rfl rfl (by rw[bU];omega);refine⟨(f.set h v).set h u,aA (.int (h:Int)),aA (.int c),aA (.int t),aA (.int n),?_,by rw[bU,bU];exact hf,(bd.set bv).set bu⟩;rw[ZH e5,e6];rfl
 ·rw[decide_eq_false q];exact⟨f.set h v,aA (.int (h:Int)),aA (.int c),aA (.int t),x9,rfl,by rw[bU];exact hf,bd.set bv⟩
theorem KJ{ns:List Int}(hns:ns.length<=63){W:List (List Int)}(ok:ZV W){b:Nat}(hb:b<W.length):∃D,W0 [.cst (iL ns),wP W,.int (b:Int)]=aA (pP D)/\D.length=W.length/\Bd D:=by
 have hW:=ok.few;obtain⟨O,eO,ltO,l1,l2⟩:=KH hns hb hW
 have e1:Zl 3 (Zd Wg [Za 0,eC (.int 30),Zd Zx [Za 1],Za 2]) [aA (.cst (iL ns)),aA (wP W),aA (.int (b:Int)),aB,aB,aB,aB,aB,aB,aB]=aA (.nx [aA (.cst (iL ns)),aA (wP W),aA (.int (b:Int)),aA (.lst (iL (nL O))),aB,aB,aB,aB,aB,aB]):=by
  have:Zd Wg [Za 0,eC (.int 30),Zd Zx [Za 1],Za 2] [aA (.cst (iL ns)),aA (wP W),aA (.int (b:Int)),aB,aB,aB,aB,aB,aB,aB]=aA (.lst (iL (nL O))):=by show Wg [.cst (iL ns),.int 30,.int ((W.map pP).length:Int),.int (b:Int)]=_;rw[aH];exact eO
  rw[ZD,this];rfl
 have e2:Zl 4 (Zf W9 (ZN [eC (.int 0)]) (Zd Zx [Za 1])) [aA (.cst (iL ns)),aA (wP W),aA (.int (b:Int)),aA (.lst (iL (nL O))),aB,aB,aB,aB,aB,aB]=aA (.nx (Sa ns W b O (aK W.length 0) aB aB aB aB aB)):=by
  have:Zf W9 (ZN [eC (.int 0)]) (Zd Zx [Za 1]) [aA (.cst (iL ns)),aA (wP W),aA (.int (b:Int)),aA (.lst (iL (nL O))),aB,aB,aB,aB,aB,aB]=aA (.lst (iL (aK W.length 0))):=by show W9 (.lst [.int 0]) (.int ((W.map pP).length:Int))=_;rw[aH];unfold W9;simp only[];rw[pC ⟨rfl,by omega,by omega,by simp;omega⟩,cL,By]
  rw[ZD,this];rfl
 obtain⟨s',h1,f,x5,x6,x7,x8,x9,h2,lf,bf⟩:=ZP (T:=.one 5) (fb:=F1) (ls:=XB 1 (O.length-1)) (s:=Sa ns W b O (aK W.length 0) aB aB aB aB aB)
  (λi st=>∃f x5 x6 x7 x8 x9,st=Sa ns W b O f x5 x6 x7 x8 x9/\f.length=W.length/\Bd f) ⟨_,aB,aB,aB,aB,aB,rfl,by simp,λx hx=>by rw[(mj.mp hx).2];constructor<;>decide⟩ (by
   rintro i l st hl ⟨f,x5,x6,x7,x8,x9,rfl,lf,bf⟩;obtain⟨hi,rfl⟩:=Va hl;have z:(1:Int)+(i:Int)=((i+1:Nat):Int):=by omega
   rw[z];obtain⟨f',y6,y7,y8,y9,e,lf',bf'⟩:=DK hns ok (b:=b) lf bf ltO (by omega) (k:=i+1) (by omega) (x6:=x6) (x7:=x7) (x8:=x8) (x9:=x9);exact⟨_,_,rfl,e,f',_,y6,y7,y8,y9,rfl,lf',bf'⟩)
 have e3:Z3 [4] (Yi [eC (.int 1),Zd Zx [Za 3]]) (.one 5) F1 (Sa ns W b O (aK W.length 0) aB aB aB aB aB)=aA (.nx (Sa ns W b O f x5 x6 x7 x8 x9)):=by
  rw[Yq];show(Yi [eC (.int 1),Zd Zx [Za 3]] [aA (.cst (iL ns)),aA (wP W),aA (.int (b:Int)),aA (.lst (iL (nL O))),aB,aB,aB,aB,aB,aB]).bind _=_;rw[We (i:=1) (j:=(O.length:Int)) rfl (by show aA (PV.int ((iL (nL O)).length:Int))=_;unfold nL;rw[aH,aH]) ⟨by omega,by omega⟩ ⟨by omega,by omega⟩];have:((O.length:Int)-1).toNat=O.length-1:=by omega
  rw[this,aE,h1,h2]
 generalize hc:ZL ns 46=c
 have e4:Zl 7 (Zd Zr [Za 0,eC (.int 46)]) (Sa ns W b O f x5 x6 x7 x8 x9)=aA (.nx (Sa ns W b O f x5 x6 (aA (.int c)) x8 x9)):=by
  have:Zd Zr [Za 0,eC (.int 46)] (Sa ns W b O f x5 x6 x7 x8 x9)=aA (.int c):=by rw[<-hc];exact Vt hns 46
  rw[ZD,this];rfl
 have c2:Tz c 2:=⟨by decide,by decide +kernel⟩;have d2:∀f,Zf XJ (Za 7) (eC (.int 2)) (Sa ns W b O f x5 x6 (aA (.int c)) x8 x9)=aA (.int (c.fdiv 2)):=λf=>vC (C:=Tz) (op:=oM) rfl rfl c2;have m0:=dW (c.fdiv 2) (show(41:Int)≠0 by decide);have m1:=c0 (c.fdiv 2) (show(0:Int)<41 by decide)
 have e5:Xu 4 (Za 2) (Zf Xo (Zf Z9 (Zf XJ (Za 7) (eC (.int 2))) (eC (.int 41))) (eC (.int 20))) (Sa ns W b O f x5 x6 (aA (.int c)) x8 x9)=aA (.nx (Sa ns W b O (f.set b (c.fdiv 2%41-20)) x5 x6 (aA (.int c)) x8 x9)):=
  NB (j:=b) (l:=f) (vI (op:=(· - ·)) (vC (C:=λ_ j=>0<j) (op:=(· % ·)) (d2 f) rfl (by decide)) rfl) rfl rfl (by omega)
 have bf1:Bd (f.set b (c.fdiv 2%41-20)):=bf.set ⟨by omega,by omega⟩;have lf1:(f.set b (c.fdiv 2%41-20)).length=W.length:=by rw[bU];exact lf
 generalize f.set b (c.fdiv 2%41-20)=f1 at e5 bf1 lf1;have p29:∀s:ZJ,Zf Lp (eC (.int 10)) (eC (.int 29)) s=aA (.int (10^29)):=λs=>vC (a:=10) (b:=29) (C:=H9) (op:=λi j=>i^j.toNat) rfl rfl (by decide);have cm:CMulW 2 (10^29):=⟨OE (by decide),OE (by decide)⟩;have pT:∀s:ZJ,Zf ZO (Zf Jy (eC (.int 2)) (Zf Lp (eC (.int 10)) (eC (.int 29)))) (eC (.int 1)) s=aA (.int (2*10^29+1)):=λs=>vI (op:=(· + ·)) (vC (C:=CMulW) (op:=(· * ·)) (a:=2) rfl (p29 s) cm) rfl;have t1:xB (Zf (YN aC) (Zf Z9 (Za 7) (eC (.int 2))) (eC (.int 1))) (Sa ns W b O f1 x5 x6 (aA (.int c)) x8 x9)=aA (decide (c%2=1)):=by have m:Zf Z9 (Za 7) (eC (.int 2)) (Sa ns W b O f1 x5 x6 (aA (.int c)) x8 x9)=aA (.int (c%2)):=vC (C:=λ_ j=>0<j) (op:=(· % ·)) rfl rfl (by decide);rw[Yj,ZF,m];show(YN aC (.int (c%2)) (.int 1)).bind Jo=_;rw[TV];rfl
 obtain⟨f2,lf2,bf2,e6⟩:∃f2:List Int,f2.length=W.length/\Bd f2/\Wb (xB (Zf (YN aC) (Zf Z9 (Za 7) (eC (.int 2))) (eC (.int 1)))) (Xu 4 (Za 2) (Zf Xo (Zf Z9 (Zf XJ (Za 7) (eC (.int 2))) (Zf ZO (Zf Jy (eC (.int 2)) (Zf Lp (eC (.int 10)) (eC (.int 29)))) (eC (.int 1)))) (Zf Lp (eC (.int 10)) (eC (.int 29))))) ZI (Sa ns W b O f1 x5 x6 (aA (.int c)) x8 x9)=aA (.nx (Sa ns W b O f2 x5 x6 (aA (.int c)) x8 x9)):=by
  rw[Z8,t1,aE];by_cases q:c%2=1
  ·rw[decide_eq_true q];simp only[if_true];have h0:=dW (c.fdiv 2) (show(2*10^29+1:Int)≠0 by decide);have h1:=c0 (c.fdiv 2) (show(0:Int)<2*10^29+1 by decide);exact⟨f1.set b (c.fdiv 2%(2*10^29+1)-10^29),by rw[bU];exact lf1,bf1.set ⟨by omega,by omega⟩,NB (j:=b) (l:=f1) (vI (op:=(· - ·)) (vC (C:=λ_ j=>0<j) (op:=(· % ·)) (d2 f1) (pT _) (by decide)) (p29 _)) rfl rfl (by omega)⟩
  ·rw[decide_eq_false q];exact⟨f1,lf1,bf1,rfl⟩
 refine⟨f2,?_,lf2,bf2⟩;have e7:eP (Zd Y7 [Za 4]) (Sa ns W b O f2 x5 x6 (aA (.int c)) x8 x9)=aA (pP f2):=by show(aA (pP f2)).bind _=_;rw[aE,pC];show ZC (iL _)=aD;exact Yd _
 show Xi 10 Tg _=_;unfold Tg;show(Zk _ (Zk _ (Zk (Z3 [4] (Yi [eC (.int 1),Zd Zx [Za 3]]) (.one 5) F1) _)) [aA (.cst (iL ns)),aA (wP W),aA (.int (b:Int)),aB,aB,aB,aB,aB,aB,aB]).bind Xa=_;rw[ZH e1,ZH e2,ZH e3,ZH e4,ZH e5,ZH e6,SM e7];rfl
end PW
namespace PT
open L2 VL PW VX PK
theorem Za9(c:Int):∃v:Int,0<=v/\v<=9/\Ts [PV.int 0,PV.int 1,PV.int 0,PV.int 1,PV.int 2,PV.int 0,PV.int 0] (c%7)=aA (.int v):=by
 have h:c%7=0\/c%7=1\/c%7=2\/c%7=3\/c%7=4\/c%7=5\/c%7=6:=by omega
 rcases h with h | h | h | h | h | h | h<;>rw[h]
 ·exact⟨0,by decide,by decide,rfl⟩
 ·exact⟨1,by decide,by decide,rfl⟩
 ·exact⟨0,by decide,by decide,rfl⟩
 ·exact⟨1,by decide,by decide,rfl⟩
 ·exact⟨2,by decide,by decide,rfl⟩
 ·exact⟨0,by decide,by decide,rfl⟩
 ·exact⟨0,by decide,by decide,rfl⟩
def Wa(ns:List Int)(Xd n:Nat)(first:Int)(ts:List Xg)(oz:Int)(x6 x7 x8 x9 x10 x11:Option Int):ZJ:=
 [aA (.cst (iL ns)),aA (.int (Xd:Int)),aA (.int (n:Int)),aA (.int first),aA (dP ts),aA (.int oz),x6.map PV.int,x7.map PV.int,x8.map PV.int,x9.map PV.int,x10.map PV.int,x11.map PV.int]
def A2:XS:=(Zk (Zl 7 (Zd Zr [Za 0,Zf ZO (Za 1) (Za 6)]))
  (Zk (Zl 8 (eP (Zd Uj [Zf Zn (ZN [eC (.int 1),eC (.int 1),eC (.int 1),eC (.int 2),eC (.int 3),eC (.int 9)]) (Zf Z9 (Zf W6 (Za 7) (Za 6)) (eC (.int 6))),Zf Xo (Za 5) (Zf Xo (Zf Xo (Za 2) (eC (.int 1))) (Za 6))])))
  (Zk (VL.sDPut 4 (Yg [Zf Z9 (Za 7) (Za 6),Za 6]) (Za 8))
  (Zl 5 (eP (Zf Xo (Za 5) (Za 8)))))))
theorem BI{ns:List Int}{Xd n:Nat}{first:Int}{ts:List Xg}{oz:Int}{x7 x8 x9 x10 x11:Option Int}{h:Nat}(hns:ns.length<=63)(ok:DictOk n ts)(hl:ts.length<=1000)(h1:1<=h)(hh:h<n)(hn:n<=7)(hr:(n:Int)-(h:Int)<=oz) :
  ∃ts' p8 y7 y8,A2 (Wa ns Xd n first ts oz (aA (h:Int)) x7 x8 x9 x10 x11)=aA (.nx (Wa ns Xd n first ts' p8 (aA (h:Int)) (aA y7) (aA y8) x9 x10 x11))/\DictOk n ts'/\ts'.length<=ts.length+1/\(n:Int)-((h:Int)+1)<=p8/\Ext ts ts'/\YO ts'+p8<=YO ts+oz/\∃c,c<h/\Kp ts' c h:=by
 generalize hc:ZL ns (Xd+h)=c
 have e1:Zl 7 (Zd Zr [Za 0,Zf ZO (Za 1) (Za 6)]) (Wa ns Xd n first ts oz (aA (h:Int)) x7 x8 x9 x10 x11)=aA (.nx (Wa ns Xd n first ts oz (aA (h:Int)) (aA c) x8 x9 x10 x11)):=by
  have z:(Xd:Int)+(h:Int)=((Xd+h:Nat):Int):=by omega
  have q:=Vt hns (Xd+h);rw[hc] at q;have q:Zr [PV.cst (ns.map PV.int),PV.int ((Xd:Int)+(h:Int))]=aA (PV.int c):=by rw[z];exact q
  simp[Wa,q]
 obtain⟨v,v1,v9,ev⟩:=Za6 (c/(h:Int));have cd:Qc c (h:Int):=Ra (by omega) (by omega);have hp:(0:Int)<(h:Int):=by omega
 generalize hd:(if oz-((n:Int)-1-(h:Int))<v then oz-((n:Int)-1-(h:Int)) else v)=dp;have d1:1<=dp:=by rw[<-hd];split<;>omega
 have d9:dp<=9:=by rw[<-hd];split<;>omega
 have dr:dp<=oz-((n:Int)-1-(h:Int)):=by rw[<-hd];split<;>omega
 have e2:Zl 8 (eP (Zd Uj [Zf Zn (ZN [eC (.int 1),eC (.int 1),eC (.int 1),eC (.int 2),eC (.int 3),eC (.int 9)]) (Zf Z9 (Zf W6 (Za 7) (Za 6)) (eC (.int 6))),Zf Xo (Za 5) (Zf Xo (Zf Xo (Za 2) (eC (.int 1))) (Za 6))])) (Wa ns Xd n first ts oz (aA (h:Int)) (aA c) x8 x9 x10 x11)=aA (.nx (Wa ns Xd n first ts oz (aA (h:Int)) (aA c) (aA dp) x9 x10 x11)):=by simp[Wa,cd,ev,hd]
 have m0:=dW c (show(h:Int)≠0 by omega);have m1:=c0 c hp;obtain⟨ts2,pe,ok2,hle2,hh2,hx2,hs2⟩:=SH (a:=(c%(h:Int)).toNat) (b:=h) (t:=dp) ok (by omega) hh d1 d9 (by omega);have hcast:(((c%(h:Int)).toNat:Nat):Int)=c%(h:Int):=by omega
 rw[hcast] at pe;have e3:VL.sDPut 4 (Yg [Zf Z9 (Za 7) (Za 6),Za 6]) (Za 8) (Wa ns Xd n first ts oz (aA (h:Int)) (aA c) (aA dp) x9 x10 x11)=aA (.nx (Wa ns Xd n first ts2 oz (aA (h:Int)) (aA c) (aA dp) x9 x10 x11)):=by rw[SI (v:=.int dp) (k:=.tup [.int (c%(h:Int)),.int (h:Int)]) (d:=dP ts) rfl (by simp[Wa,show 0<h by omega]) rfl pe];rfl
 refine⟨ts2,oz-dp,c,dp,?_,ok2,hle2,by omega,hx2,by omega,(c%(h:Int)).toNat,by omega,hh2⟩;unfold A2;rw[AW e1 e2 e3];simp[Wa]
def BR:XS:=(Zk (Zl 8 (eP (Zf Zn (ZN [eC (.int 0),eC (.int 1),eC (.int 0),eC (.int 1),eC (.int 2),eC (.int 0),eC (.int 0)]) (Zf Z9 (Zd Zr [Za 0,Za 9]) (eC (.int 7))))))
  (Zk (Zl 9 (eP (Zf ZO (Za 9) (eC (.int 1)))))
  (Wb (Wr (xB (LB aD (Yg [Za 10,Za 11]) (Za 4))) (xB (HN S4 EK (eC (.int 0)) (Za 8) (Za 5)))) (Zk (VL.sDPut 4 (Yg [Za 10,Za 11]) (Za 8))
  (Zl 5 (eP (Zf Xo (Za 5) (Za 8))))) ZI)))
theorem BJ{ns:List Int}{Xd n:Nat}{first:Int}{ts:List Xg}{oz:Int}{x6 x7 x8:Option Int}{k a b:Nat}(hns:ns.length<=63)(ok:DictOk n ts)(hl:ts.length<=1000)(hab:a<b)(hb:b<n) :
  ∃ts' p8 y8,BR (Wa ns Xd n first ts oz x6 x7 x8 (aA (k:Int)) (aA (a:Int)) (aA (b:Int)))=aA (.nx (Wa ns Xd n first ts' p8 x6 x7 (aA y8) (aA ((k+1:Nat):Int)) (aA (a:Int)) (aA (b:Int))))/\DictOk n ts'/\ts'.length<=ts.length+1/\Ext ts ts'/\(0<=oz->0<=p8/\YO ts'+p8<=YO ts+oz):=by
 obtain⟨v,v0,v9,ev⟩:=Za9 (ZL ns k);have e1:Zl 8 (eP (Zf Zn (ZN [eC (.int 0),eC (.int 1),eC (.int 0),eC (.int 1),eC (.int 2),eC (.int 0),eC (.int 0)]) (Zf Z9 (Zd Zr [Za 0,Za 9]) (eC (.int 7))))) (Wa ns Xd n first ts oz x6 x7 x8 (aA (k:Int)) (aA (a:Int)) (aA (b:Int)))=aA (.nx (Wa ns Xd n first ts oz x6 x7 (aA v) (aA (k:Int)) (aA (a:Int)) (aA (b:Int)))):=by have q:Zr [PV.cst (ns.map PV.int),PV.int (k:Int)]=aA (PV.int (ZL ns k)):=Vt hns k;simp[Wa,q,ev]
 have e2:Zl 9 (eP (Zf ZO (Za 9) (eC (.int 1)))) (Wa ns Xd n first ts oz x6 x7 (aA v) (aA (k:Int)) (aA (a:Int)) (aA (b:Int)))=aA (.nx (Wa ns Xd n first ts oz x6 x7 (aA v) (aA ((k+1:Nat):Int)) (aA (a:Int)) (aA (b:Int)))):=by simp[Wa]
 obtain⟨cc,ec⟩:=Bx ts (a:Int) (b:Int);unfold BR;rw[AX e1 e2]
 have tst:∃q:Bool,Wr (xB (LB aD (Yg [Za 10,Za 11]) (Za 4))) (xB (HN S4 EK (eC (.int 0)) (Za 8) (Za 5))) (Wa ns Xd n first ts oz x6 x7 (aA v) (aA ((k+1:Nat):Int)) (aA (a:Int)) (aA (b:Int)))=aA q/\(q=aD->0<v/\v<=oz):=by
  have t1:xB (LB aD (Yg [Za 10,Za 11]) (Za 4)) (Wa ns Xd n first ts oz x6 x7 (aA v) (aA ((k+1:Nat):Int)) (aA (a:Int)) (aA (b:Int)))=aA !cc:=by simp[Wa,LB,ec]
  have t2:xB (HN S4 EK (eC (.int 0)) (Za 8) (Za 5)) (Wa ns Xd n first ts oz x6 x7 (aA v) (aA ((k+1:Nat):Int)) (aA (a:Int)) (aA (b:Int)))=aA (decide (0<v)&&decide (v<=oz)):=by
   by_cases hv:0<v
   ·simp[Wa,HN,hv]
   ·simp[Wa,HN,hv]
  rw[Sl,t1,t2]
  cases cc with
  | true=>exact⟨aC,rfl,λz=>by cases z⟩
  | false=>exact⟨_,rfl,λz=>by
    rw[ak] at z;exact⟨of_decide_eq_true z.1,of_decide_eq_true z.2⟩⟩
 obtain⟨q,eq,hq⟩:=tst;rw[Z8,eq];simp only[aE]
 cases q with
 | false=>exact⟨ts,oz,v,rfl,ok,by omega,Ext.refl ts,λh=>⟨h,g6 _⟩⟩
 | true=>
  obtain⟨hv,hvr⟩:=hq rfl;obtain⟨ts2,pe,ok2,hle2,_,hx2,hs2⟩:=SH (t:=v) ok hab hb (by omega) v9 (by omega);refine⟨ts2,oz-v,v,?_,ok2,hle2,hx2,λ_=>⟨by omega,by omega⟩⟩;rw[pC rfl];have e3:VL.sDPut 4 (Yg [Za 10,Za 11]) (Za 8) (Wa ns Xd n first ts oz x6 x7 (aA v) (aA ((k+1:Nat):Int)) (aA (a:Int)) (aA (b:Int)))=aA (.nx (Wa ns Xd n first ts2 oz x6 x7 (aA v) (aA ((k+1:Nat):Int)) (aA (a:Int)) (aA (b:Int)))):=by rw[SI (v:=.int v) (k:=.tup [.int (a:Int),.int (b:Int)]) (d:=dP ts) rfl (by simp[Wa]) rfl pe];rfl
  rw[ZH e3];simp[Wa]
theorem F3{ns:List Int}{Xd n:Nat}(hns:ns.length<=63)(h1:1<=n)(hn:n<=7):∃ts,Xj [.cst (iL ns),.int (Xd:Int),.int (n:Int)]=aA (dP ts)/\DictOk n ts/\Hang n ts/\YO ts<=30:=by
 generalize hf:ZL ns Xd=first
 have hcell:Zr [PV.cst (ns.map PV.int),PV.int (Xd:Int)]=aA (PV.int first):=by rw[<-hf];exact Vt hns Xd
 obtain⟨r,er,alt⟩:=Q4 (n:=n) (most:=9) (Zt:=first/2) (oz:=30) (by omega) (by omega) hn h1;have cd2:Qc first 2:=Ra (by omega) (by omega)
 -- the first test
 have hstart:Zl 3 (Zd Zr [Za 0,Za 1]) [aA (.cst (iL ns)),aA (.int (Xd:Int)),aA (.int (n:Int)),aB,aB,aB,aB,aB,aB,aB,aB,aB]=aA (.nx [aA (.cst (iL ns)),aA (.int (Xd:Int)),aA (.int (n:Int)),aA (.int first),aB,aB,aB,aB,aB,aB,aB,aB]):=by simp[hcell]
 have htest:Wr (xB (Zf (YN aC) (Zf Z9 (Za 3) (eC (.int 2))) (eC (.int 1)))) (xB (Tq aD (Zd YI [Zf W6 (Za 3) (eC (.int 2)),Za 2,eC (.int 30),eC (.int 9)]))) [aA (.cst (iL ns)),aA (.int (Xd:Int)),aA (.int (n:Int)),aA (.int first),aB,aB,aB,aB,aB,aB,aB,aB]=aA (decide (first%2=1)&&!Qp r):=by
  have eb:RU aD r=aA (.bl (!Qp r)):=by cases r<;>rfl
  by_cases h:first%2=1
  ·simp[h,cd2,er,eb]
  ·simp[h]
 show ∃ts,Xi 12 Ud [.cst (iL ns),.int (Xd:Int),.int (n:Int)]=aA (dP ts)/\DictOk n ts/\Hang n ts/\YO ts<=30;unfold Ud;simp only[Xi,Y9,aZ,da,bA,dk];show ∃ts,(Zk (Zl 3 (Zd Zr [Za 0,Za 1])) _ [aA (.cst (iL ns)),aA (.int (Xd:Int)),aA (.int (n:Int)),aB,aB,aB,aB,aB,aB,aB,aB,aB]).bind Xa=aA (dP ts)/\DictOk n ts/\Hang n ts/\YO ts<=30;rw[ZH hstart,Yk,Z8,htest];simp only[aE];by_cases hc:(decide (first%2=1)&&!Qp r)=aD
 ·rw[pC hc];rw[ak] at hc;rcases alt with rfl | ⟨ts,rfl,ok,_,hg,hsu⟩
  ·exact absurd hc.2 (by decide)
  ·exact⟨ts,by simp[cd2,er],ok,hg,hsu (by omega)⟩
 ·rw[pE hc];simp only[Ot,aE]
  -- the dict,the oz
  have e45:∀g:XS,Zk (Zl 4 (eC (.dT [] []))) (Zk (Zl 5 (eP (eC (.int 30)))) g) [aA (.cst (iL ns)),aA (.int (Xd:Int)),aA (.int (n:Int)),aA (.int first),aB,aB,aB,aB,aB,aB,aB,aB]=g (Wa ns Xd n first [] 30 aB aB aB aB aB aB):=λg=>by rw[AX (s1:=[aA (.cst (iL ns)),aA (.int (Xd:Int)),aA (.int (n:Int)),aA (.int first),aA (dP []),aB,aB,aB,aB,aB,aB,aB]) (s2:=Wa ns Xd n first [] 30 aB aB aB aB aB aB) (by simp;rfl) (by simp[Wa])]
  rw[e45]
  -- the first loop
  obtain⟨s1,l1,ts1,room1,y6,y7,y8,es1,ok1,hle1,hrm1,hsu1,tree⟩:=ZP (T:=.one 6) (fb:=A2) (ls:=XB 1 (n-1)) (s:=Wa ns Xd n first [] 30 aB aB aB aB aB aB)
   (λi st=>∃ts oz y6 y7 y8,st=Wa ns Xd n first ts oz y6 y7 y8 aB aB aB/\DictOk n ts/\ts.length<=i/\(n:Int)-((i:Int)+1)<=oz/\YO ts+oz<=30/\∀h,1<=h->h<=i->∃c,c<h/\Kp ts c h) ⟨[],30,aB,aB,aB,rfl,DictOk.nil n,af _,by omega,by show(0:Int)+30<=30;omega,λh h1 h2=>by omega⟩ (λi l st hl' hJ=>by
    obtain⟨hi,rfl⟩:=Va hl';obtain⟨ts,oz,y6,y7,y8,rfl,ok,hle,hroom,hsu,tree⟩:=hJ;have z:(1:Int)+(i:Int)=((i+1:Nat):Int):=by omega
    rw[z];obtain⟨ts2,room2,z7,z8,e2,ok2,hle2,hr2,hx2,hs2,hc2⟩:=BI (Xd:=Xd) (first:=first) (oz:=oz) (x7:=y7) (x8:=y8) (x9:=aB) (x10:=aB) (x11:=aB) (h:=i+1) hns ok (by omega) (by omega) (by omega) hn (by omega)
    exact⟨_,_,rfl,e2,ts2,room2,aA ((i+1:Nat):Int),aA z7,aA z8,rfl,ok2,by omega,by omega,by omega,λh h1 h2=>by
     by_cases q:h<=i
     ·obtain⟨c,a,b⟩:=tree h h1 q;exact⟨c,a,hx2 _ _ b⟩
     ·have:h=i+1:=by omega
      subst this;exact hc2⟩)
  rw[VF] at hle1 tree hrm1;have r1:Yi [eC (.int 1),Za 2] (Z2 [4] (Wa ns Xd n first [] 30 aB aB aB aB aB aB))=aA (XB 1 (n-1)):=by rw[We (i:=1) (j:=(n:Int)) rfl (by simp[Z2,Wa]) ⟨by omega,by omega⟩ ⟨by omega,by omega⟩];congr 2;omega
  have f1:Z3 [4] (Yi [eC (.int 1),Za 2]) (.one 6) A2 (Wa ns Xd n first [] 30 aB aB aB aB aB aB)=aA (.nx (Wa ns Xd n first ts1 room1 y6 y7 y8 aB aB aB)):=by rw[Yq,r1];exact l1.trans (by rw[es1])
  have e9:Zl 9 (eP (Zf ZO (Za 1) (eC (.int 7)))) (Wa ns Xd n first ts1 room1 y6 y7 y8 aB aB aB)=aA (.nx (Wa ns Xd n first ts1 room1 y6 y7 y8 (aA ((Xd+7:Nat):Int)) aB aB)):=by simp[Wa]
  -- the second loops
  have inner:∀(a:Nat)(ts:List Xg)(oz:Int)(x8:Option Int)(k:Nat)(x11:Option Int),a<n->DictOk n ts->ts.length<=500->∃ts' p8 y8 k' y11,Y8 (.one 11) BR (XB ((a:Int)+1) (n-(a+1))) (Wa ns Xd n first ts oz y6 y7 x8 (aA (k:Int)) (aA (a:Int)) x11)=aA (.nx (Wa ns Xd n first ts' p8 y6 y7 y8 (aA ((k':Nat):Int)) (aA (a:Int)) y11))/\DictOk n ts'/\ts'.length<=ts.length+7/\Ext ts ts'/\(0<=oz->0<=p8/\YO ts'+p8<=YO ts+oz):=by
   intro a ts oz x8 k x11 ha ok hl
   obtain⟨s',h,ts',p8,z8,k',z11,e,ok',hle,hx,hsu⟩:=ZP (T:=.one 11) (fb:=BR) (ls:=XB ((a:Int)+1) (n-(a+1))) (s:=Wa ns Xd n first ts oz y6 y7 x8 (aA (k:Int)) (aA (a:Int)) x11)
    (λj st=>∃ts' p8 z8 k' z11,st=Wa ns Xd n first ts' p8 y6 y7 z8 (aA ((k':Nat):Int)) (aA (a:Int)) z11/\DictOk n ts'/\ts'.length<=ts.length+j/\Ext ts ts'/\(0<=oz->0<=p8/\YO ts'+p8<=YO ts+oz)) ⟨ts,oz,x8,k,x11,rfl,ok,by omega,Ext.refl ts,λh=>⟨h,g6 _⟩⟩ (λj l st hl' hJ=>by
     obtain⟨hj,rfl⟩:=Va hl';obtain⟨ts',p8,z8,k',z11,rfl,ok',hle,hx,hsu⟩:=hJ;have z:(a:Int)+1+(j:Int)=((a+1+j:Nat):Int):=by omega
     rw[z];obtain⟨ts2,room2,w8,e2,ok2,hle2,hx2,hs2⟩:=BJ (Xd:=Xd) (first:=first) (oz:=p8) (x6:=y6) (x7:=y7) (x8:=z8) (k:=k') hns ok' (by omega) (show a<a+1+j by omega) (by omega);exact⟨_,_,rfl,e2,ts2,room2,aA w8,k'+1,aA ((a+1+j:Nat):Int),rfl,ok2,by omega,hx.trans hx2,λh=>by have a1:=hsu h;have a2:=hs2 a1.1;exact⟨a2.1,by omega⟩⟩)
   rw[VF] at hle;exact⟨ts',p8,z8,k',z11,by rw[h,e],ok',by omega,hx,hsu⟩
  obtain⟨s2,l2,ts2,room2,w8,w9,w10,w11,es2,ok2,hle2,hx2,hsu2⟩:=ZP (T:=.one 10) (fb:=Z3 [4] (Yi [Zf ZO (Za 10) (eC (.int 1)),Za 2]) (.one 11) BR) (ls:=Wd n) (s:=Wa ns Xd n first ts1 room1 y6 y7 y8 (aA ((Xd+7:Nat):Int)) aB aB)
   (λi st=>∃ts oz w8 k w10 w11,st=Wa ns Xd n first ts oz y6 y7 w8 (aA ((k:Nat):Int)) w10 w11/\DictOk n ts/\ts.length<=7+7*i/\Ext ts1 ts/\0<=oz/\YO ts+oz<=30) ⟨ts1,room1,y8,Xd+7,aB,aB,rfl,ok1,by omega,Ext.refl ts1,by omega,hsu1⟩ (λi l st hl' hJ=>by
    obtain⟨hi,rfl⟩:=X2 hl';obtain⟨ts,oz,w8,k,w10,w11,rfl,ok,hle,hx,hrm,hsu⟩:=hJ;obtain⟨ts',p8,z8,k',z11,e2,ok',hle',hx',hs'⟩:=inner i ts oz w8 k w11 hi ok (by omega);refine⟨_,_,rfl,?_,ts',p8,z8,k',aA (i:Int),z11,rfl,ok',by omega,hx.trans hx',(hs' hrm).1,by have:=(hs' hrm).2;omega⟩;have hr:Yi [Zf ZO (Za 10) (eC (.int 1)),Za 2] (Z2 [4] (Wa ns Xd n first ts oz y6 y7 w8 (aA (k:Int)) (aA (i:Int)) w11))=aA (XB ((i:Int)+1) (n-(i+1))):=by rw[We (i:=(i:Int)+1) (j:=(n:Int)) (by simp[Z2,Wa]) (by simp[Z2,Wa]) ⟨by omega,by omega⟩ ⟨by omega,by omega⟩];congr 2;omega
    show Z3 _ _ _ _ (Wa ns Xd n first ts oz y6 y7 w8 (aA (k:Int)) (aA (i:Int)) w11)=_;rw[Yq,hr];exact e2)
  rw[X3] at hle2;have r2:ZG [Za 2] (Z2 [4] (Wa ns Xd n first ts1 room1 y6 y7 y8 (aA ((Xd+7:Nat):Int)) aB aB))=aA (Wd n):=Yp (by simp[Z2,Wa]) (by omega);have f2:Z3 [4] (ZG [Za 2]) (.one 10) (Z3 [4] (Yi [Zf ZO (Za 10) (eC (.int 1)),Za 2]) (.one 11) BR) (Wa ns Xd n first ts1 room1 y6 y7 y8 (aA ((Xd+7:Nat):Int)) aB aB)=aA (.nx (Wa ns Xd n first ts2 room2 y6 y7 w8 (aA ((w9:Nat):Int)) w10 w11)):=by rw[Yq,r2];exact l2.trans (by rw[es2])
  have hg:Hang n ts2:=by
   have all:∀P,Cl ts2 P->∀i,i<n->(P i↔P 0):=by
    intro P hP i
    induction i using Nat.strongRecOn with
    | _ i ih=>
     intro hi;by_cases h0:i=0
     ·subst h0;exact Iff.rfl
     ·obtain⟨c,hc,hb⟩:=tree i (by omega) (by omega);exact(hP _ _ (hx2 _ _ hb)).symm.trans (ih c hc (by omega))
   exact λP hP i j hi hj=>(all P hP i hi).trans (all P hP j hj).symm
  obtain⟨ts',eR,okR,_,hgR,hsR⟩:=MI ok2 hn (by omega) (first/7);have cd7:Qc first 7:=Ra (by omega) (by omega)
  refine⟨ts',?_,okR,hgR hg,by omega⟩;refine Eq.trans (congrArg (λo=>Option.bind o Xa) (AW (f:=Z3 [4] (Yi [eC (.int 1),Za 2]) (.one 6) A2) f1 e9 f2)) ?_;simp[Wa,hcell,cd7,eR]
theorem JU{f g h:Z7->Nat}:∀{l:List Z7},(∀p∈l,f p<=g p+h p)->(l.map f).sum<=(l.map g).sum+(l.map h).sum
 | [],_=>by simp
 | p::r,H=>by have h1:=H p (by simp);have:=JU (l:=r) λq hq=>H q (by simp[hq]);simp only[aZ,dF];omega
def uN(n:Nat)(M:List (List Int)):Nat:=((Hz n).map λp=>(XQ M p.1 p.2).toNat).sum
theorem A3(W:List (List Int)):(eW W).length=uN W.length W:=by unfold eW OC uN;rw[fW];congr 1;refine bO λp _=>?_;rw[cN]
theorem DL{n:Nat}(hn:n<=7){M:List (List Int)}{e:Xg}(ok:MatOk n M)(h:e.1<e.2.1/\e.2.1<n/\1<=e.2.2/\e.2.2<=9):uN n (Yc M e)<=uN n M+e.2.2.toNat:=by
 have a:=JU (f:=λp:Z7=>(XQ (Yc M e) p.1 p.2).toNat) (g:=λp=>(XQ M p.1 p.2).toNat) (h:=λp=>if p=(e.1,e.2.1) then e.2.2.toNat else 0) (l:=Hz n) λp hp=>by
  have:=mem_prs.mp (show(p.1,p.2)∈Hz n from hp);show(XQ (Yc M e) p.1 p.2).toNat<=(XQ M p.1 p.2).toNat+(if p=(e.1,e.2.1) then e.2.2.toNat else 0);rw[Q3 ok h,pE (by omega)];by_cases q:e.1=p.1/\e.2.1=p.2
  ·rw[pC q,pC (Prod.ext q.1.symm q.2.symm)];omega
  ·rw[pE q];omega
 have b:=Rx (f:=λp:Z7=>if p=(e.1,e.2.1) then e.2.2.toNat else 0) (p:=(e.1,e.2.1)) (l:=Hz n) (FI n hn) λq _ hq=>pE hq
 have c:(if(e.1,e.2.1)∈Hz n then(if(e.1,e.2.1)=(e.1,e.2.1) then e.2.2.toNat else 0) else 0)<=e.2.2.toNat:=by
  split
  ·rw[pC rfl];exact af _
  ·omega
 unfold uN;rw[b] at a;exact cu a (mH c _)
theorem JV{n:Nat}(hn:n<=7):∀(l:List Xg)(M:List (List Int)),(∀e∈l,e.1<e.2.1/\e.2.1<n/\1<=e.2.2/\e.2.2<=9)->MatOk n M->(uN n (l.foldl Yc M):Int)<=(uN n M:Int)+YO l
 | [],M,_,_=>by show(uN n M:Int)<=(uN n M:Int)+(0:Int);omega
 | e::r,M,hl,hM=>by have he:=hl e (by simp);have a:=DL hn hM he;have b:=JV hn r _ (λe' h'=>hl e' (by simp[h'])) (hM.step he);rw[Rw];show(uN n (r.foldl Yc (Yc M e)):Int)<=_;omega
abbrev M3(n:Nat):List (List Int):=aK n (aK n 0)
theorem HK{n a b:Nat}(ha:a<n)(hb:b<n):XQ (M3 n) a b=0:=by unfold XQ ZK ZL;simp[aL,cI,ha,hb]
theorem F4{n:Nat}{ts:List Xg}(ok:DictOk n ts)(hn:n<=7)(hs:YO ts<=30):uN n (Gn n ts)<=30:=by
 have h:=JV hn ts (M3 n) ok.ok (MatOk.zero n)
 have z:uN n (M3 n)=0:=by
  unfold uN
  have:∀l:List Z7,(∀p∈l,p.1<n/\p.2<n)->(l.map λp=>(XQ (M3 n) p.1 p.2).toNat).sum=0:=by
   intro l
   induction l with
   | nil=>intro _;rfl
   | cons p r ih=>
    intro H;have hp:=H p (by simp);rw[aZ,dF,ih λq hq=>H q (by simp[hq]),HK hp.1 hp.2];rfl
  exact this _ λp hp=>by have:=mem_prs.mp (show(p.1,p.2)∈Hz n from hp);omega
 have e:uN n (Gn n ts)=uN n (ts.foldl Yc (M3 n)):=rfl;omega
theorem drawn_web{ns:List Int}{Xd n:Nat}(hns:ns.length<=63)(h1:1<=n)(hn:n<=7):∃ts W,Xj [.cst (iL ns),.int (Xd:Int),.int (n:Int)]=aA (dP ts)/\XC [dP ts,.int (n:Int)]=aA (wP W)/\ZV W/\W.length=n/\AU W/\(eW W).length<=30:=by obtain⟨ts,e,ok,hg,hs⟩:=F3 (Xd:=Xd) hns h1 hn;refine⟨ts,Gn n ts,e,Hw ok hn,(S2 ok).web h1 hn,(S2 ok).len,hg.conn ok,?_⟩;rw[A3,(S2 ok).len];exact F4 ok hn hs
end PT
namespace PW
open PySem L2 VL VX PK
theorem BK:VP [.exc "NotSettled"]=aA (.int 5):=by
 have t':∀(cx:og)(x:Option PV),Xx (RM "NotSettled" cx) (Za 0) [aA (.exc "NotSettled"),x]=aA (.bl (decide (cx = "NotSettled"))):=λcx x=>by simp[Xx,RM]
 have v':∀(x:Option PV),Xx (BQ "NotSettled") (Za 0) [aA (.exc "NotSettled"),x]=aA (.bl aD):=λx=>by simp[Xx,BQ]
 have e1:Zl 1 (ZN [eP (Xx (RM "NotSettled" "NoWeb") (Za 0)),eP (Xx (RM "NotSettled" "Apart") (Za 0)),eP (Xx (RM "NotSettled" "NoText") (Za 0)),eP (Xx (RM "NotSettled" "NoOrder") (Za 0))]) [aA (.exc "NotSettled"),aB]=aA (.nx [aA (.exc "NotSettled"),aA (.lst (bL [aC,aC,aC,aC]))]):=by rw[ZD];simp only[ZN,T9,Wz,t',aE,ZY,if_true,bF];rfl
 have e2:Zl 1 (Zf Vm (Za 1) (ZN [Xx (RM "NotSettled" "TooMany") (Za 0),Xx (RM "NotSettled" "NotSettled") (Za 0),Xx (RM "NotSettled" "NoTree") (Za 0)])) [aA (.exc "NotSettled"),aA (.lst (bL [aC,aC,aC,aC]))]=aA (.nx [aA (.exc "NotSettled"),aA (.lst (bL [aC,aC,aC,aC,aC,aD,aC]))]):=by rw[ZD,ZF];simp only[ZN,T9,t',aE,bF,UJ];rfl
 have e3:Zl 1 (Zf Vm (Za 1) (ZN [Xx (RM "NotSettled" "NoTotal") (Za 0),Xx (RM "NotSettled" "NoEnds") (Za 0),Xx (RM "NotSettled" "NoRow") (Za 0),Xx (RM "NotSettled" "NoName") (Za 0)])) [aA (.exc "NotSettled"),aA (.lst (bL [aC,aC,aC,aC,aC,aD,aC]))]=aA (.nx [aA (.exc "NotSettled"),aA (.lst (bL [aC,aC,aC,aC,aC,aD,aC,aC,aC,aC,aC]))]):=by rw[ZD,ZF];simp only[ZN,T9,t',aE,bF,UJ];rfl
 have c:Zf Sw (Za 1) (eC (.bl aD)) [aA (.exc "NotSettled"),aA (.lst (bL [aC,aC,aC,aC,aC,aD,aC,aC,aC,aC,aC]))]=aA (.int 1):=rfl;have x:Zf R7 (Za 1) (eC (.bl aD)) [aA (.exc "NotSettled"),aA (.lst (bL [aC,aC,aC,aC,aC,aD,aC,aC,aC,aC,aC]))]=aA (.int 5):=rfl;have e4:Wb (Gs (WK (xB (Xx (BQ "NotSettled") (Za 0)))) (xB (Zf (YN aD) (Zf Sw (Za 1) (eC (.bl aD))) (eC (.int 1))))) (Ya (eP (RI NY (eC (.int 1))))) ZI [aA (.exc "NotSettled"),aA (.lst (bL [aC,aC,aC,aC,aC,aD,aC,aC,aC,aC,aC]))]=aA (.nx [aA (.exc "NotSettled"),aA (.lst (bL [aC,aC,aC,aC,aC,aD,aC,aC,aC,aC,aC]))]):=by rw[Z8,U5,Wu,Yj,v'];simp only[aE,Jo,bF,gN,b9,if_false];rw[Yj,ZF,c];simp
 show Xi 2 SE _=_;unfold SE;show(Zk _ _ [aA (.exc "NotSettled"),aB]).bind Xa=_;rw[ZH e1,ZH e2,ZH e3,ZH e4,QG,Wz,x];rfl
theorem BL{D:List Int}(bd:Bd D)(hl:D.length<=100):JC (pP D)=aD:=by
 show(match YD (iL D) with | some is=>decide (is.length<=100)&&is.all λi=>decide (i.natAbs.log2<1920) | none=>aC)=aD;rw[YQ];simp only[ak,decide_eq_true_eq,bC];refine⟨hl,λx hx=>?_⟩;have:=bd x hx;by_cases h0:x.natAbs=0
 ·rw[h0];decide +kernel
 ·have hp:x.natAbs<2^200:=by
   have e:(2:Nat)^200=1606938044258990275541962092341162602522202993782792835301376:=by decide +kernel
   rw[e];omega
  have:=(nZ h0).mpr hp;omega
theorem HL{W:List (List Int)}(ok:ZV W){D:List Int}(hd:D.length=W.length)(bd:Bd D){b:Nat}(hb:b<W.length)(hs:ZE [wP W,pP D,.int (b:Int)]=aA (.bl aC)):Xl [wP W,.int (b:Int),pP D]=aA (.bl aD):=by
 have hf:=ok.few
 have hR:Xs [wP W,.int (b:Int),pP D]=aA ("NotSettled" : og):=by
  have hc:WK (xB (Zd ZE [Za 0,Za 2,Za 1])) [aA (wP W),aA (.int (b:Int)),aA (pP D)]=aA aD:=by have:Zd ZE [Za 0,Za 2,Za 1] [aA (wP W),aA (.int (b:Int)),aA (pP D)]=aA (.bl aC):=hs;rw[Wu,Yj,this];rfl
  have hm:Ms "NotSettled" (Za 1) (Za 2) [aA (wP W),aA (.int (b:Int)),aA (pP D)]=aA ("NotSettled" : og):=by
   show(if(LY (.int (b:Int))&&JC (pP D))=aD then _ else _)=_
   have g1:LY (.int (b:Int))=aD:=by
    show decide ((b:Int).natAbs.log2<1920)=aD;refine decide_eq_true ?_;by_cases h0:(b:Int).natAbs=0
    ·rw[h0];decide +kernel
    ·have:=(nZ (k:=10) h0).mpr (by omega);omega
   rw[pC (by rw[g1,BL bd (by omega)];rfl)]
  unfold Xs AL;show Md _ _ _ [aA (wP W),aA (.int (b:Int)),aA (pP D)]=_;unfold Md AI;rw[hc];simp only[aE,if_true];rw[hm]
 have e2:Zl 3 (eP (eC .non)) [aA (wP W),aA (.int (b:Int)),aA (pP D),aB,aB]=aA (.nx [aA (wP W),aA (.int (b:Int)),aA (pP D),aA .non,aB]):=rfl
 have e3:AN (IM Xs [Za 0,Za 1,Za 2] 4 (Zl 3 (eP (Za 4)))) (sEx (Zd ZU [Za 0,Za 1,Za 2])) [aA (wP W),aA (.int (b:Int)),aA (pP D),aA .non,aB]=aA (.nx [aA (wP W),aA (.int (b:Int)),aA (pP D),aA (.exc "NotSettled"),aB]):=by
  have:IM Xs [Za 0,Za 1,Za 2] 4 (Zl 3 (eP (Za 4))) [aA (wP W),aA (.int (b:Int)),aA (pP D),aA .non,aB]=aA (.nx [aA (wP W),aA (.int (b:Int)),aA (pP D),aA (.exc "NotSettled"),aB]):=by unfold IM;show(Xs [wP W,.int (b:Int),pP D]).bind _=_;rw[hR];rfl
  unfold AN;rw[this]
 have a1:Tq aD (Za 3) [aA (wP W),aA (.int (b:Int)),aA (pP D),aA (.exc "NotSettled"),aB]=aA (.bl aD):=rfl
 have a2:Zf (YN aC) (Zd VP [Za 3]) (eC (.int 5)) [aA (wP W),aA (.int (b:Int)),aA (pP D),aA (.exc "NotSettled"),aB]=aA (.bl aD):=by
  have:Zd VP [Za 3] [aA (wP W),aA (.int (b:Int)),aA (pP D),aA (.exc "NotSettled"),aB]=aA (.int 5):=by rw[XI];exact BK
  rw[ZF,this];simp
 show Xi 5 Vs _=_;unfold Vs;show(Zk _ _ [aA (wP W),aA (.int (b:Int)),aA (pP D),aB,aB]).bind Xa=_;rw[ZH e2,ZH e3,QG,Wz,Sm,Yj,a1];simp only[aE,Jo,if_true];rw[a2];rfl
theorem T8{D:List Int}{b g:Nat}(v:Int)(h:g≠b):ZL (D.set b v) g=ZL D g:=by unfold ZL;rw[aL,aL,cX (cY h)]
theorem Pn{W:List (List Int)}{D:List Int}{b:Nat}{v:Int}{F:List Nat}(hb:b∈F):Xe W (D.set b v) F=Xe W D F:=by
 unfold Xe;congr 1;funext h;by_cases q:h=b
 ·subst q;simp[hb]
 ·rw[T8 v q]
theorem Burn.base{W:List (List Int)}{D:List Int}{b:Nat}{v:Int}{F:List Nat}(B:Burn W D b F):Burn W (D.set b v) b F:=by
 refine⟨B.nd,B.lt,B.hd,λk k1 k2=>?_⟩;rw[Pn,B.st k k1 k2];have:=B.hd
 cases F with
 | nil=>simp at this
 | cons x r=>
  simp at this;subst this
  cases k with
  | zero=>omega
  | succ k=>simp
theorem NC{W:List (List Int)}(ok:ZV W){D:List Int}(hd:D.length=W.length){b:Nat}{v:Int}{F:List Nat}(hb:b<W.length)(eF:WR [wP W,pP (D.set b v),.int (b:Int)]=aA (.lst (iL (nL F))))(dn:XN D b=[])(all:F.length=W.length):ZE [wP W,pP (D.set b v),.int (b:Int)]=aA (.bl aD):=by
 have hf:=ok.few;rw[TC (by rw[bU];omega) eF];have:XN (D.set b v) b=[]:=debt_nil.mpr λh hh hne=>by rw[bU] at hh;rw[T8 v hne];exact debt_nil.mp dn h hh hne
 rw[decide_eq_true this,decide_eq_true all];rfl
theorem law_true:∀ns:List Int,ns.length<=63->(∀n∈ns,n.natAbs.log2<=1048576)->D_law [.cst (iL ns)]=aA (.bl aD):=by
 intro ns hns _;have m0:=dW (ZL ns 0) (show(7:Int)≠0 by decide);have m1:=c0 (ZL ns 0) (show(0:Int)<7 by decide);obtain⟨n,en⟩:∃n:Nat,1+ZL ns 0%7=(n:Int):=⟨(1+ZL ns 0%7).toNat,by omega⟩;have h1:1<=n:=by omega
 have h7:n<=7:=by omega
 obtain⟨ts,W,eT,eS,ok,lW,cn,few⟩:=PT.drawn_web (Xd:=1) hns h1 h7;have q0:=dW (ZL ns 29) (show(n:Int)≠0 by omega);have q1:=c0 (ZL ns 29) (show(0:Int)<(n:Int) by omega);obtain⟨b,eb⟩:∃b:Nat,ZL ns 29%(n:Int)=(b:Int):=⟨(ZL ns 29%(n:Int)).toNat,by omega⟩;have hb:b<W.length:=by omega
 obtain⟨D,eD,lD,bD⟩:=KJ hns ok hb;obtain⟨F,eF,B,nx⟩:=MP ok lD hb;let st:Option PV->Option PV->Option PV->Option PV->Option PV->Option PV->Option PV->ZJ:=λx1 x2 x3 x4 x5 x6 x7=>[aA (.cst (iL ns)),x1,x2,x3,x4,x5,x6,x7];have e1:Zl 1 (eP (Zf ZO (eC (.int 1)) (Zf Z9 (Zd Zr [Za 0,eC (.int 0)]) (eC (.int 7))))) (st aB aB aB aB aB aB aB)=aA (.nx (st (aA (.int (n:Int))) aB aB aB aB aB aB)):=by have c:Zd Zr [Za 0,eC (.int 0)] (st aB aB aB aB aB aB aB)=aA (.int (ZL ns 0)):=Vt hns 0;have a:=vP (vI (op:=(· + ·)) (f:=eC (.int 1)) (a:=1) (s:=st aB aB aB aB aB aB aB) rfl (vC (C:=λ_ j=>0<j) (op:=(· % ·)) c (g:=eC (.int 7)) (b:=7) rfl (by decide)));rw[ZD,a,show(1:Int)+ZL ns 0%7=(n:Int) from en];rfl
 have e2:Zl 2 (Zd XC [Zd Xj [Za 0,eC (.int 1),Za 1],Za 1]) (st (aA (.int (n:Int))) aB aB aB aB aB aB)=aA (.nx (st (aA (.int (n:Int))) (aA (wP W)) aB aB aB aB aB)):=by
  have a:Zd Xj [Za 0,eC (.int 1),Za 1] (st (aA (.int (n:Int))) aB aB aB aB aB aB)=aA (dP ts):=eT;have:Zd XC [Zd Xj [Za 0,eC (.int 1),Za 1],Za 1] (st (aA (.int (n:Int))) aB aB aB aB aB aB)=aA (wP W):=by rw[XI,YH,a];exact eS
  rw[ZD,this];rfl
 have e3:Zl 3 (eP (Zf Z9 (Zd Zr [Za 0,eC (.int 29)]) (Za 1))) (st (aA (.int (n:Int))) (aA (wP W)) aB aB aB aB aB)=aA (.nx (st (aA (.int (n:Int))) (aA (wP W)) (aA (.int (b:Int))) aB aB aB aB)):=by have c:Zd Zr [Za 0,eC (.int 29)] (st (aA (.int (n:Int))) (aA (wP W)) aB aB aB aB aB)=aA (.int (ZL ns 29)):=Vt hns 29;have a:=vP (vC (C:=λ_ j=>0<j) (op:=(· % ·)) c (g:=Za 1) (b:=(n:Int)) rfl (by omega));rw[ZD,a,eb];rfl
 have e4:Zl 4 (Zd W0 [Za 0,Za 2,Za 3]) (st (aA (.int (n:Int))) (aA (wP W)) (aA (.int (b:Int))) aB aB aB aB)=aA (.nx (st (aA (.int (n:Int))) (aA (wP W)) (aA (.int (b:Int))) (aA (pP D)) aB aB aB)):=by have:Zd W0 [Za 0,Za 2,Za 3] (st (aA (.int (n:Int))) (aA (wP W)) (aA (.int (b:Int))) aB aB aB aB)=aA (pP D):=eD;rw[ZD,this];rfl
 have sv:=TC (by omega) eF;have nv:=NA ok lD hb B nx;have c5:Zd Xk [Za 2,Za 4,Za 3] (st (aA (.int (n:Int))) (aA (wP W)) (aA (.int (b:Int))) (aA (pP D)) aB aB aB)=aA (.bl (decide (XN D b=[])&&decide (F.length=W.length))):=nv;show Xi 8 JK _=_;unfold JK;show(Zk _ _ (st aB aB aB aB aB aB aB)).bind Xa=_;rw[ZH e1,ZH e2,ZH e3,ZH e4];by_cases q:(decide (XN D b=[])&&decide (F.length=W.length))=aD
 ·rw[q] at sv nv c5;rw[ak,decide_eq_true_eq,decide_eq_true_eq] at q;obtain⟨dn,all⟩:=q;have nn:∀g,g<W.length->g≠b->0<=ZL D g:=λg hg hne=>debt_nil.mp dn g (by omega) hne;have tv:=Pg ok lD hb sv;have bv:=PN ok hb lD;have sl:=MY ok (by omega) lD hb B all nn;have lD2:(D.set b 0).length=W.length:=by rw[bU];exact lD
  have sv2:ZE [wP W,pP (D.set b 0),.int (b:Int)]=aA (.bl aD):=by obtain⟨F2,eF2,B2,nx2⟩:=MP (D:=D.set b 0) ok lD2 hb;have e:F2=F:=Burn.uniq B2 B.base nx2 (by rw[Pn (bN B.hd)];exact nx);subst e;exact NC ok lD hb eF2 dn all
  have tv2:ZU [wP W,.int (b:Int),pP (D.set b 0)]=aA (pP (nL (Xn W D b))):=by rw[Pg ok lD2 hb sv2];unfold Xn;rw[HI (D:=D.set b 0) (D':=D) λg hg=>T8 0 hg]
  have wi:WInv (eW W) W.length b (Yl W D b):=WInv.walk WE (WInv.start hb);have hall:=Ph ok hb B all nn
  have lT:(Xn W D b).length=n-1:=by
   have:=Ny wi hall;have:(Xn W D b).length=(Yl W D b).B.length:=by show(T6 _).length=_;rw[(Tp _).length_eq,aH]
   omega
  generalize Xn W D b=T at tv bv sl tv2 lT;let s5:Option PV->Option PV->ZJ:=λx6 x7=>st (aA (.int (n:Int))) (aA (wP W)) (aA (.int (b:Int))) (aA (pP D)) (aA (pP (nL T))) x6 x7;have e5:Wb (WK (xB (Zd Xk [Za 2,Za 4,Za 3]))) (Ya (Zd Xl [Za 2,Za 3,Za 4])) ZI (st (aA (.int (n:Int))) (aA (wP W)) (aA (.int (b:Int))) (aA (pP D)) aB aB aB)=aA (.nx (st (aA (.int (n:Int))) (aA (wP W)) (aA (.int (b:Int))) (aA (pP D)) aB aB aB)):=by rw[Z8,Wu,Yj,c5];rfl
  have e6:Zl 5 (Zd ZU [Za 2,Za 3,Za 4]) (st (aA (.int (n:Int))) (aA (wP W)) (aA (.int (b:Int))) (aA (pP D)) aB aB aB)=aA (.nx (s5 aB aB)):=by have:Zd ZU [Za 2,Za 3,Za 4] (st (aA (.int (n:Int))) (aA (wP W)) (aA (.int (b:Int))) (aA (pP D)) aB aB aB)=aA (pP (nL T)):=tv;rw[ZD,this];rfl
  have lnT:(nL T).length=n-1:=by unfold nL;rw[aH];exact lT
  have e7:Wb (Gs (WK (xB (Zd Y4 [Za 5,Zf Xo (Za 1) (eC (.int 1))]))) (xB (Zf (YN aD) (Za 5) (Zd Yr [Za 2,Za 3,Za 4])))) (Ya (eP (eC (.bl aC)))) ZI (s5 aB aB)=aA (.nx (s5 aB aB)):=by
   have a1:Zd Y4 [Za 5,Zf Xo (Za 1) (eC (.int 1))] (s5 aB aB)=aA (.bl aD):=by
    have tq:=MD (l:=nL T) (by omega);rw[lnT] at tq;have z:((n-1:Nat):Int)=(n:Int)-1:=by omega
    rw[z] at tq;exact tq
   have a2:Zd Yr [Za 2,Za 3,Za 4] (s5 aB aB)=aA (pP (nL T)):=bv;have a3:xB (Zf (YN aD) (Za 5) (Zd Yr [Za 2,Za 3,Za 4])) (s5 aB aB)=aA aC:=by rw[Yj,ZF,a2];show(YN aD (pP (nL T)) (pP (nL T))).bind Jo=_;rw[O7];simp
   rw[Z8,U5,Wu,Yj,a1];simp only[aE,UK,bF,gN,b9,if_false];rw[a3];rfl
  have e8:Zl 6 (eP (Zf WD (Zf WD (Up Xq (Za 4) UB (VR (Za 3))) (Yg [eC (.int 0)])) (Up Xq (Za 4) (VR (Zf ZO (Za 3) (eC (.int 1)))) UB))) (s5 aB aB)=aA (.nx (s5 (aA (pP (D.set b 0))) aB)):=by
   have a0:Zf ZO (Za 3) (eC (.int 1)) (s5 aB aB)=aA (.int ((b+1:Nat):Int)):=rfl;have a1:Up Xq (Za 4) UB (VR (Za 3)) (s5 aB aB)=aA (pP (D.take b)):=JS rfl rfl (by omega);have a2:Up Xq (Za 4) (VR (Zf ZO (Za 3) (eC (.int 1)))) UB (s5 aB aB)=aA (pP (D.drop (b+1))):=JT rfl a0 (by omega);have a3:Zf WD (Up Xq (Za 4) UB (VR (Za 3))) (Yg [eC (.int 0)]) (s5 aB aB)=aA (pP (D.take b++[0])):=by have z:Yg [eC (.int 0)] (s5 aB aB)=aA (pP [0]):=rfl;rw[ZF,a1,z];simp only[aE];unfold WD;simp only[];rw[pC (by rw[aH,aH,bp,cD];omega)];simp
   have a4:Zf WD (Zf WD (Up Xq (Za 4) UB (VR (Za 3))) (Yg [eC (.int 0)])) (Up Xq (Za 4) (VR (Zf ZO (Za 3) (eC (.int 1)))) UB) (s5 aB aB)=aA (pP (D.set b 0)):=by rw[ZF,a3,a2];simp only[aE];unfold WD;simp only[];rw[pC (by rw[aH,aH,aY,bp,bq,cD];omega),<-bV,DA 0 (by omega)]
   have a5:eP (Zf WD (Zf WD (Up Xq (Za 4) UB (VR (Za 3))) (Yg [eC (.int 0)])) (Up Xq (Za 4) (VR (Zf ZO (Za 3) (eC (.int 1)))) UB)) (s5 aB aB)=aA (pP (D.set b 0)):=by rw[Wz,a4,aE,pC];show ZC (iL _)=aD;exact Yd _
   rw[ZD,a5];rfl
  have e9:Zl 7 (Zd Wi [Za 2,Za 3,Za 5]) (s5 (aA (pP (D.set b 0))) aB)=aA (.nx (s5 (aA (pP (D.set b 0))) (aA (pP (D.set b 0))))):=by have:Zd Wi [Za 2,Za 3,Za 5] (s5 (aA (pP (D.set b 0))) aB)=aA (pP (D.set b 0)):=sl;rw[ZD,this];rfl
  have e10:Wb (Gs (WK (xB (Zd Y4 [Za 7,Za 1]))) (xB (Zf (YN aD) (Za 7) (Za 6)))) (Ya (eP (eC (.bl aC)))) ZI (s5 (aA (pP (D.set b 0))) (aA (pP (D.set b 0))))=aA (.nx (s5 (aA (pP (D.set b 0))) (aA (pP (D.set b 0))))):=by
   have a1:Zd Y4 [Za 7,Za 1] (s5 (aA (pP (D.set b 0))) (aA (pP (D.set b 0))))=aA (.bl aD):=by have tq:=MD (l:=D.set b 0) (by omega);rw[lD2,lW] at tq;exact tq
   have a3:xB (Zf (YN aD) (Za 7) (Za 6)) (s5 (aA (pP (D.set b 0))) (aA (pP (D.set b 0))))=aA aC:=by rw[Yj,ZF];show(YN aD (pP (D.set b 0)) (pP (D.set b 0))).bind Jo=_;rw[O7];simp
   rw[Z8,U5,Wu,Yj,a1];simp only[aE,UK,bF,gN,b9,if_false];rw[a3];rfl
  have e11:eP (Qo (Zf (YN aC) (Zd ZU [Za 2,Za 3,Za 6]) (Za 5)) (Zf (YN aC) (Zd ZU [Za 2,Za 3,Za 4]) (Za 5))) (s5 (aA (pP (D.set b 0))) (aA (pP (D.set b 0))))=aA (.bl aD):=by
   have a1:Zd ZU [Za 2,Za 3,Za 6] (s5 (aA (pP (D.set b 0))) (aA (pP (D.set b 0))))=aA (pP (nL T)):=tv2;have a2:Zd ZU [Za 2,Za 3,Za 4] (s5 (aA (pP (D.set b 0))) (aA (pP (D.set b 0))))=aA (pP (nL T)):=tv;have b1:Zf (YN aC) (Zd ZU [Za 2,Za 3,Za 6]) (Za 5) (s5 (aA (pP (D.set b 0))) (aA (pP (D.set b 0))))=aA (.bl aD):=by rw[ZF,a1];show YN aC (pP (nL T)) (pP (nL T))=_;rw[O7];simp
   have b2:Zf (YN aC) (Zd ZU [Za 2,Za 3,Za 4]) (Za 5) (s5 (aA (pP (D.set b 0))) (aA (pP (D.set b 0))))=aA (.bl aD):=by rw[ZF,a2];show YN aC (pP (nL T)) (pP (nL T))=_;rw[O7];simp
   rw[Wz,Sm,Yj,b1];simp only[aE,UK,if_true];rw[b2];rfl
  rw[ZH e5,ZH e6,ZH e7,ZH e8,ZH e9,ZH e10,SM e11];rfl
 ·have q:(decide (XN D b=[])&&decide (F.length=W.length))=aC:=by simpa using q
  rw[q] at sv c5;have rv:=HL ok lD bD hb sv;have cr:Zd Xl [Za 2,Za 3,Za 4] (st (aA (.int (n:Int))) (aA (wP W)) (aA (.int (b:Int))) (aA (pP D)) aB aB aB)=aA (.bl aD):=rv;have e5:Wb (WK (xB (Zd Xk [Za 2,Za 4,Za 3]))) (Ya (Zd Xl [Za 2,Za 3,Za 4])) ZI (st (aA (.int (n:Int))) (aA (wP W)) (aA (.int (b:Int))) (aA (pP D)) aB aB aB)=aA (.rt (.bl aD)):=by rw[Z8,Wu,Yj,c5];simp only[aE,UK,bF,iU,if_true];exact SM cr
  rw[HB e5];rfl
end PW
namespace PW
open PySem L2 VL
theorem all_mk{P:bE}{w:bg}{K:aI}{h:bw}{mg:ah->Option aJ}{fa:aM}(X:K.In h)(G:h.Ns bJ mg)(hfa:mg "law" = aA (.ref fa))(B:Uy mg)
  (d0:Def K mg "_law_square" TZ)
  (d1:Def K mg "_law_cell" QY)
  (d2:Def K mg "_law_order" Rk)
  (d3:Def K mg "_law_purse" Rl)
  (d4:Def K mg "ties_of" Rn)
  (d5:Def K mg "tie_to_look_at" Wj)
  (d6:Def K mg "walked" QZ)
  (d7:Def K mg "tree_by" Ro)
  (d8:Def K mg "in_debt" Rp)
  (d9:Def K mg "ties_to" Rq)
  (d10:Def K mg "house_to_burn" WA)
  (d11:Def K mg "burnt" Nm)
  (d12:Def K mg "is_settled" Ue)
  (d13:Def K mg "tree_of" Tj)
  (d14:Def K mg "still_by" T1)
  (d15:Def K mg "pieces_of" US)
  (d16:Def K mg "is_tree" Rt)
  (d17:Def K mg "still_of" T2)
  (d18:Def K mg "_law_renamed" UT)
  (d19:Def K mg "_law_read_times" Vd)
  (d20:Def K mg "_law_times" T3)
  (d21:Def K mg "_law_all_burn" Ug)
  (d22:Def K mg "_law_settled" UU)
  (d23:Def K mg "_law_kind" Q1)
  (d24:Def K mg "_law_refused" UW)
  (d25:Def K mg "_law_whole" Ru)
  (d26:Def K mg "_law_tuple" Rv)
  (d27:Def K mg "_law_next" Q2)
  (d28:Def K mg "_law_burnt_ties" Ve)
  (d29:Def K mg "law" Fw)
  {CNoWeb CApart CNoText CNoOrder CTooMany CNotSettled CNoTree CNoTotal CNoEnds CNoRow CNoName Cb:aM}
  (qNotSettled:cB K bJ "NotSettled" = aA (aA (.ref CNotSettled))) (tNotSettled:bM K (.ref CNotSettled) (.ref CNotSettled)=aA aD)
  (qNoWeb:cB K bJ "NoWeb" = aA (aA (.ref CNoWeb))) (tNoWeb:bM K (.ref CNotSettled) (.ref CNoWeb)=aA aC)
  (qApart:cB K bJ "Apart" = aA (aA (.ref CApart))) (tApart:bM K (.ref CNotSettled) (.ref CApart)=aA aC)
  (qNoText:cB K bJ "NoText" = aA (aA (.ref CNoText))) (tNoText:bM K (.ref CNotSettled) (.ref CNoText)=aA aC)
  (qNoOrder:cB K bJ "NoOrder" = aA (aA (.ref CNoOrder))) (tNoOrder:bM K (.ref CNotSettled) (.ref CNoOrder)=aA aC)
  (qTooMany:cB K bJ "TooMany" = aA (aA (.ref CTooMany))) (tTooMany:bM K (.ref CNotSettled) (.ref CTooMany)=aA aC)
  (qNoTree:cB K bJ "NoTree" = aA (aA (.ref CNoTree))) (tNoTree:bM K (.ref CNotSettled) (.ref CNoTree)=aA aC)
  (qNoTotal:cB K bJ "NoTotal" = aA (aA (.ref CNoTotal))) (tNoTotal:bM K (.ref CNotSettled) (.ref CNoTotal)=aA aC)
  (qNoEnds:cB K bJ "NoEnds" = aA (aA (.ref CNoEnds))) (tNoEnds:bM K (.ref CNotSettled) (.ref CNoEnds)=aA aC)
  (qNoRow:cB K bJ "NoRow" = aA (aA (.ref CNoRow))) (tNoRow:bM K (.ref CNotSettled) (.ref CNoRow)=aA aC)
  (qNoName:cB K bJ "NoName" = aA (aA (.ref CNoName))) (tNoName:bM K (.ref CNotSettled) (.ref CNoName)=aA aC)
  (qB:cB K bJ "PurseError" = aA (aA (.ref Cb))) (x0:gw K CNotSettled [.type "ValueError",.type "Exception",.type "BaseException",.type "object"] "ValueError.__new__" = aD) (x1:eU K CNotSettled "BaseException" = aD) (x2:eU K Cb "BaseException" = aD) (x3:VX.belowIn K CNotSettled Cb=aD)
  (x4:dS K (.ref CNotSettled) "__getattribute__" = aA (aA (.builtin "BaseException.__getattribute__"))) (x5:dS K (.ref CNotSettled) "__getattr__" = aA aB) (x6:dS K (.ref CNotSettled) "__class__" = aA (aA (.builtin "object.__class__"))) (x7:jv K CNotSettled (.type "object")=aA aD) (x8:bM K (.ref CNotSettled) (.type "ValueError")=aA aD)
  : ∃fd:fX,(∀(s:aN)(u:aJ),mq s fd ⟨[u],[]⟩ [("_law_script",u)])/\∀base:bw,K.In base->base.Ns bJ mg->SV P w K mg base Lk 7 fa fd ["_law_script"] (YY K D_law 1):=by
 have Q:VX.QN "NotSettled" K mg CNotSettled Cb:=⟨qNotSettled,ck X G qNotSettled,ck X G qB,x0,⟨x4,x5,x6,x7,x1⟩,x2,x3,λcx hc=>by
  unfold VX.nms at hc;simp only[a9,fm,or_false] at hc;rcases hc with rfl | rfl | rfl | rfl | rfl | rfl | rfl | rfl | rfl | rfl | rfl
  ·exact⟨CNoWeb,ck X G qNoWeb,tNoWeb⟩
  ·exact⟨CApart,ck X G qApart,tApart⟩
  ·exact⟨CNoText,ck X G qNoText,tNoText⟩
  ·exact⟨CNoOrder,ck X G qNoOrder,tNoOrder⟩
  ·exact⟨CTooMany,ck X G qTooMany,tTooMany⟩
  ·exact⟨CNotSettled,ck X G qNotSettled,tNotSettled⟩
  ·exact⟨CNoTree,ck X G qNoTree,tNoTree⟩
  ·exact⟨CNoTotal,ck X G qNoTotal,tNoTotal⟩
  ·exact⟨CNoEnds,ck X G qNoEnds,tNoEnds⟩
  ·exact⟨CNoRow,ck X G qNoRow,tNoRow⟩
  ·exact⟨CNoName,ck X G qNoName,tNoName⟩,x8⟩
 refine GL d29 hfa (λ_ _ _ _ _ _ _=>rfl) λbase f fd _ _ F=>?_;have C_l_square:=Mx (P:=P) (w:=w) (base:=base) d0 B;have C_l_cell:=Ho (P:=P) (w:=w) (base:=base) d1 B;have C_n_order:=L7 (P:=P) (w:=w) (base:=base) d2 B C_l_cell;have C_n_purse:=L8 (P:=P) (w:=w) (base:=base) d3 B C_n_order C_l_cell;have C_ties_of:=L9 (P:=P) (w:=w) (base:=base) d4 B;have C_tie_to_look_at:=SG (P:=P) (w:=w) (base:=base) d5 B;have C_walked:=Hq (P:=P) (w:=w) (base:=base) d6 B C_ties_of C_tie_to_look_at;have C_tree_by:=Kb (P:=P) (w:=w) (base:=base) d7 B C_walked;have C_in_debt:=Kd (P:=P) (w:=w) (base:=base) d8 B;have C_ties_to:=Kf (P:=P) (w:=w) (base:=base) d9 B;have C_house_to_burn:=Rr (P:=P) (w:=w) (base:=base) d10 B C_ties_to;have C_burnt:=Fv (P:=P) (w:=w) (base:=base) d11 B C_house_to_burn;have C_is_settled:=PD (P:=P) (w:=w) (base:=base) d12 B C_burnt C_in_debt;have C_tree_of:=Kg (P:=P) (w:=w) (base:=base) d13 B C_is_settled C_tree_by;have X_tree_of:=My (P:=P) (w:=w) (base:=base) d13 B Q C_is_settled;have C_still_by:=Mz (P:=P) (w:=w) (base:=base) d14 B C_walked;have C_pieces_of:=Nn (P:=P) (w:=w) (base:=base) d15 B;have C_is_tree:=Kh (P:=P) (w:=w) (base:=base) d16 B C_ties_of C_pieces_of;have C_still_of:=MB (P:=P) (w:=w) (base:=base) d17 B C_is_tree C_still_by;have C_l_renamed:=Np (P:=P) (w:=w) (base:=base) d18 B;have C_l_read_times:=RX (P:=P) (w:=w) (base:=base) d19 B;have C_l_timesN:=MC (P:=P) (w:=w) (base:=base) d20 B C_l_cell C_l_read_times C_l_renamed;have C_l_all_burn:=PF (P:=P) (w:=w) (base:=base) d21 B;have C_n_settled:=Nq (P:=P) (w:=w) (base:=base) d22 B C_l_all_burn;have C_l_kind:=Hr (P:=P) (w:=w) (base:=base) d23 B  Q;have C_l_refused:=Nr (P:=P) (w:=w) (base:=base) d24 B C_tree_of C_l_kind Q X_tree_of;have C_l_whole:=Kj (P:=P) (w:=w) (base:=base) d25 B;have C_l_tuple:=Kl (P:=P) (w:=w) (base:=base) d26 B C_l_whole;have C_n_next:=Hs (P:=P) (w:=w) (base:=base) d27 B;have C_l_burnt_ties:=RY (P:=P) (w:=w) (base:=base) d28 B C_n_next;exact Bu F B C_l_cell C_l_square C_l_timesN C_n_purse C_n_settled C_l_refused C_tree_of C_l_burnt_ties C_l_tuple C_still_of
end PW
namespace PySem.W.Fast
def tw1843617321802638470:=()
def tw2876278369237555982:=()
def tw5653953488027448997:=()
def tw14511281304077674488:=()
def tw6027012523796392691:=()
def tw9812363976806094653:=()
def tw1114084325324136842:=()
def tw389234724064089324:=()
def tw3364110848139552774:=()
def tw9848730633705563305:=()
def tw13065720221107217436:=()
def tw17006900377858221025:=()
def tw6034702376846112721:=()
def tw9618677485505777357:=()
def tw2981159508959251136:=()
def tw8724091380318352566:=()
def tw18153864323231053143:=()
def tw15860057456017937046:=()
def tw4446887974302566702:=()
def tw366944655081457516:=()
def tw12432496804185714688:=()
def tw14521175853219067534:=()
def tw4274958996839973622:=()
def tw3074342160182694074:=()
def tw16667010219453993515:=()
def tw15439218891740869778:=()
def tw14566572570508873838:=()
def tw13479655737875627953:=()
def tw9909051916390046956:=()
def tw8590183063466977610:=()
def tw12358731631231240006:=()
def tw7661904445133330234:=()
def tw5098208858167405106:=()
def tw12632982091237280178:=()
def tw10345556952059127709:=()
def tw9160478681227638513:=()
def tw2082296625973116550:=()
def tw9650532477978954512:=()
def tw6870168649087413116:=()
def tw3860688160764159505:=()
def tw6991894831105749322:=()
def tw9407785384833693594:=()
def tw13084662213015330648:=()
def tw5120270094498029726:=()
def tw14277660483451244170:=()
def tw7161548028878828415:=()
def tw14340387524536144817:=()
def tw1020262511370776860:=()
def tw3272343610487865286:=()
def tw14199013064016493571:=()
def tw3559017978972604499:=()
def tw7486588747539232361:=()
def tw4660149476162716989:=()
def tw14584145607501846781:=()
def tw4992532399648782313:=()
def tw343211628093613533:=()
def tw7497851385064189991:=()
def tw9490183401745017209:=()
def tw4190489809855299087:=()
def tw14904757290796511651:=()
def tw15030579090550985397:=()
def tw16527574100892955628:=()
def tw17135408158004356589:=()
def tw14579057558909064918:=()
def tw17845745240257775395:=()
def tw12586806029062652973:=()
def tw12036144175491641692:=()
def tw10171647372810685594:=()
def tw17664960421115732155:=()
def tw9283681151754069219:=()
def tw1691115455183248773:=()
def tw10133601060215099395:=()
def tw16147343555998619652:=()
def tw17389970064228136191:=()
def tw1002510642343170010:=()
def tw7128195017473619907:=()
def tw9131506433068965019:=()
def tw11849775017446627471:=()
def tw12466390788729451535:=()
def tw25883830049609039:=()
def tw8142511435503298479:=()
def tw11852903179590126019:=()
def tw4213637202376406876:=()
def tw4466685489479251330:=()
def tw4850279538953028602:=()
def tw3106978247622954772:=()
def tw10947099472199740874:=()
def tw1097941756566046005:=()
def tw11559336935639562466:=()
def tw3106009175257946645:=()
def tw6974759544378571162:=()
def tw5565229505573298296:=()
def tw15531220942838135106:=()
def tw4973064792805305578:=()
def tw14811004060190195330:=()
def tw5184928645317125312:=()
def tw8335959140252411810:=()
def tw16736114624100396108:=()
def tw7928415015047394849:=()
def tw8540949714608088650:=()
def tw9596663595758809748:=()
def tw322705776227749107:=()
def tw13345183345048729758:=()
def tw15811172259314514781:=()
def tw16001808374385873711:=()
def tw16876026868896344974:=()
def tw11378792751722832038:=()
end PySem.W.Fast
open PySem PySem.W PyProof.Rows
set_option maxRecDepth 100000 in
set_option maxHeartbeats 0 in
theorem PySem.Challenge.cw_purseweb_k53_a_purse_and_its_tree_holds : PySem.Challenge.rw_purseweb_k53_a_purse_and_its_tree.Holds := by
 w_on;o_law;k_head;(case hw=>w_witness2)
 k_fill
 refine VL.law_walkT (l:=jX) (D:=PW.D_law) (x:="_law_script") 7 rfl rfl ⟨rfl,by decide,by decide,rfl⟩ (λw=>by kernel_rfl) PW.law_true (λw h Y=>PySem.W.km_in_of Y) ?F
 case F=>
  intro w mg fa h KX G hmg
  refine' PW.all_mk KX G hmg ?B ?d0 ?d1 ?d2 ?d3 ?d4 ?d5 ?d6 ?d7 ?d8 ?d9 ?d10 ?d11 ?d12 ?d13 ?d14 ?d15 ?d16 ?d17 ?d18 ?d19 ?d20 ?d21 ?d22 ?d23 ?d24 ?d25 ?d26 ?d27 ?d28 ?d29 ?qNotSettled ?tNotSettled ?qNoWeb ?tNoWeb ?qApart ?tApart ?qNoText ?tNoText ?qNoOrder ?tNoOrder ?qTooMany ?tTooMany ?qNoTree ?tNoTree ?qNoTotal ?tNoTotal ?qNoEnds ?tNoEnds ?qNoRow ?tNoRow ?qNoName ?tNoName ?qB ?x0 ?x1 ?x2 ?x3 ?x4 ?x5 ?x6 ?x7 ?x8
  case B=>constructor<;>(refine PySem.W.mg_none_of KX G ?_;k_is)
  case d0 | d1 | d2 | d3 | d4 | d5 | d6 | d7 | d8 | d9 | d10 | d11 | d12 | d13 | d14 | d15 | d16 | d17 | d18 | d19 | d20 | d21 | d22 | d23 | d24 | d25 | d26 | d27 | d28 | d29=>(refine' L2.def_mk KX G ?a ?l ?c ?k;(case a=>k_is);(case l=>k_is);(case c=>k_is);(case k=>k_is))
  (case qNotSettled=>k_is)
  (case tNotSettled=>kernel_rfl)
  (case qNoWeb=>k_is)
  (case tNoWeb=>kernel_rfl)
  (case qApart=>k_is)
  (case tApart=>kernel_rfl)
  (case qNoText=>k_is)
  (case tNoText=>kernel_rfl)
  (case qNoOrder=>k_is)
  (case tNoOrder=>kernel_rfl)
  (case qTooMany=>k_is)
  (case tTooMany=>kernel_rfl)
  (case qNoTree=>k_is)
  (case tNoTree=>kernel_rfl)
  (case qNoTotal=>k_is)
  (case tNoTotal=>kernel_rfl)
  (case qNoEnds=>k_is)
  (case tNoEnds=>kernel_rfl)
  (case qNoRow=>k_is)
  (case tNoRow=>kernel_rfl)
  (case qNoName=>k_is)
  (case tNoName=>kernel_rfl)
  (case qB=>k_is)
  (case x0=>k_exc)
  (case x1=>kernel_rfl)
  (case x2=>kernel_rfl)
  (case x3=>kernel_rfl)
  (case x4=>k_is)
  (case x5=>k_is)
  (case x6=>k_is)
  (case x7=>k_is)
  (case x8=>kernel_rfl)
